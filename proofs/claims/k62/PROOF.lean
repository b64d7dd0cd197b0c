import PyProof.Rows.All
import Wide.All
import OpenK.AllK
import Wide.FinOn
import Lean
import PyProof.EqAt
import PyProof.EqKinds
import PyProof.TupleCall
import PyProof.EnumMake
import PyProof.ZipIter
import PyProof.ExcClass2
import PyProof.ExcInit
import PyProof.ExcBaseAll.ValueError
import PyProof.FString2
import PyProof.ExcArgsOwn
import PyProof.InstStoreFacts
import ObjForm.Fk.InstStore
import ObjForm.Fk.InstLoad
import PyProof.StationsW
import PyProof.RulesAs
import PyProof.NsDelKeeps
import OpenK.KMore
import PyProof.IsiBase
import OpenK.KNot
import PyProof.Rows.RuleN_isinstance
import PyProof.NeData
import PyProof.P3In
import PyProof.StrWalks
import PyProof.ConsumeWalk
import PyProof.SliceStr2
import PyProof.MeetsStr
import KE.KItem
import KE.KUnpack
import KE.KRevSl
import PyProof.Rows.SetFrom
import PyProof.SetRoads
import PyProof.Rows.Range3
import PyProof.CallType
import PyProof.Rows.CallKwBuiltin
import PyProof.Rows.MinMaxN
import PyProof.SumWalkG
import PyProof.Rows.SeqMore
import PyProof.Rows.SortWalk
import PyProof.Rows.SumAny
import PyProof.Rows.SeqMore2
import KE.KSortTup
import PyProof.Rows.SortShellK
import PyProof.ReprRoads
import PyProof.ReprBulk
import PyProof.CallFns
import PyProof.NeKinds
import PyProof.Rows.StrJoinMade
import PyProof.StrCalls
import KE.KIntText
import PyProof.ReprDict
import PyProof.DictIter
import PyProof.Rows.DictUnroll
import PyProof.MeetsStr2
import PyProof.Rows.StrNews
import PyProof.StrLawsChain
import PyProof.Rows.StrItems
import PyProof.SeqRoads2
import PyProof.Rows.StrNews2
import PyProof.Rows.StrLawsPart
import PyProof.Rows.StrFirst
import PySem.Challenge.RW_wishdeal_k62_whole_narrower_aims
set_option compiler.extract_closed false
set_option Elab.async false
set_option linter.all false
set_option maxRecDepth 100000
set_option maxHeartbeats 4000000
open Option renaming some→O,none→w4
open Bool renaming true→w5,false→w6
theorem wZ.{u}{α:Sort u}{a:α}:a=a:=rfl
abbrev w8:=List Int
abbrev yd:=Option Int
abbrev yi:=List Nat
abbrev yl:=Option Bool
theorem Qa:type_of% @of_decide_eq_true:=@of_decide_eq_true
theorem Qp:type_of% @if_pos:=@if_pos
theorem Qw:type_of% @if_neg:=@if_neg
theorem QQ:type_of% @decide_eq_false:=@decide_eq_false
theorem QW:type_of% @decide_eq_true:=@decide_eq_true
theorem QY:type_of% @decide_eq_true_eq:=@decide_eq_true_eq
theorem Jk:type_of% @of_decide_eq_false:=@of_decide_eq_false
theorem Ub:type_of% @congrArg:=@congrArg
open List renaming length_map→Qb,getElem?_map→Qd,getElem?_eq_getElem→Qe,getElem?_eq_some_iff→Qg,getD_eq_getElem?_getD→Qh,mem_cons_of_mem→Qi,mem_cons_self→Qj,length_append→Qk,mem_map→Qn,length_range→Qo,getElem?_set_ne→Qr,mem_of_getElem?→Qs,map_cons→Qt,mem_singleton→Qu,length_nil→Qx,map_append→Qy,length_cons→Qz,getElem?_append_left→QA,getElem?_replicate→QB,getElem?_append_right→QC,mem_cons→QE,length_replicate→QF,getElem?_set_self→QG,mem_append→QI,mem_append_right→QJ,mem_filter→QK,getElem?_range→QM,nil_append→QR,length_set→QS,getElem?_eq_none→QT,length_singleton→QU,mem_range→QZ,zip_cons_cons→Q0,length_take→Q2,append_assoc→Q6,lookup_cons→Q7,length_filterMap_le→Q8,mem_append_left→Q9,map_map→Jb,drop_eq_getElem_cons→Jc,all_eq_true→Je,size_toArray→Jf,sum_cons→Jj,append_nil→Jl,length_drop→Jm,length_reverse→Jn,filter_eq_self→Jo,ext_getElem?→Jp,mem_filterMap→Jq,length_filter_le→Ju,foldl_cons→Jw,flatten_cons→Jz,filterMap_cons→JB,map_congr_left→JC,getElem_mem→JE,take_length→JF,pairwise_cons→JO,map_replicate→JP,nodup_cons→JQ,count_cons→JT,range_succ→JU,getElem?_cons_succ→JZ,take_succ→J0,getElem_map→J4,drop_eq_nil_of_le→J5,length_zip→J7,sum_append→J8,getElem?_reverse→J9,take_append_drop→Ua,mem_of_mem_take→Uc,mem_iff_getElem→Ud,replicate_succ→Uf,length_zipWith→Uh,range→Ux,replicate→Uy,Pairwise→UI
open PySem renaming wpAny_bind→Qf,wpAny_pure→Qq,wpAny_mono→QL,wpAny_truthy_bool→Q4,wpAny_loadPart_at→Q5,mem_of_lookup→Jg,wpAny_isSubtype_exc→Js,wpAny_passesOwn→Jt,wpAny_standAt→JA,wpAny_pyIter_list→JI,Value→Um,Shared→Uo,Program→Up,Addr→Uq,FuncData→Ur,Expr→Us,sizeLine→Ut,wpAny→Uu,starEach→Uv,compareOp→Uw,assignEach→UK,foldedSetIterable→UL
open PySem.Heap renaming lt_size→Ql,get?_push_of_some→Qm,get?_push_size→QD,size_push→JH
open Nat renaming le_refl→Qv,lt_of_lt_of_le→QH,le_trans→QN,zero_add→QO,ne_of_lt→QX,le_of_not_lt→Jh,lt_irrefl→Jv,ne_of_gt→JJ,succ_pos→JK,zero_le→JM,lt_succ_self→JN,not_lt_zero→JS,le_succ→JV,lt_succ_of_lt→JW,lt_succ_iff_lt_or_eq→JY,le_of_lt→Uj,add_zero→Uk
open Int renaming toNat_natCast→QP,le_refl→Ja,mul_le_mul_of_nonneg_right→Ji,zero_add→JG,le_trans→JL,le_antisymm→JR,mul_zero→Ue,not_lt→Ul
open Option.some renaming inj→Q3
open Bool renaming and_eq_true→Jd,eq_iff_iff→Jr,and_eq_true_iff→JX,false_eq_true→J6
open PySem.W.Fast renaming te1987589406359920131→Jx
open Array renaming getD_eq_getD_getElem?→Jy,length_toList→Ug
open PySem.W renaming kia_one→JD
open Array.Perm renaming refl→Ui
open PySem.PyData renaming list→Uz,bool→UA,str→UB,strOk→UC,canLayAll0→UD,depth→UE,eqv→UF,shown→UJ
open PySem.PassesOwn renaming never→UG
open PySem.Str renaming ofString→UH
abbrev yb:=List Us
abbrev yc:=List Um
abbrev ye:=List Uq
abbrev yf:=Option Um
abbrev yk:=Option Uq
abbrev LO:=List yd
abbrev yh:=Option LO
abbrev ym:=List LO
abbrev LP:=List (Int×Int)
open PySem.W (Frag)
open PySem.PyData (int)
open List (replicate)
namespace DL
open PySem PySem.Spec PySem.W PyProof.Rows
def topRunT(tb:String->Option Builtin)(p:Up)(w:World)(m:Nat)(ann:yf):Nat->SharedT->Thread->Option SharedT
 |0,_,_=>w4
 |n+1,s,t=>match through t,stepOk m ann t with
  |true,_=>O s
  |false,w6=>w4
  |false,w5=>match stepT (denote tb) p w s t with
   |some x=>topRunT tb p w m ann n x.1 x.2
   |none=>w4
theorem EO      : ∀{n}{s s'}{t},topRunT tb p w m ann n s t=O s'->topRun tb p w m ann n s.abs t=O s'.abs
 |0,_,_,_,h=>by cases h
 |n+1,s,s',t,h=>by
  rw[topRunT]at h;rw[topRun];cases ht:through t with
  |true=>simp_all
  |false=>
   rw[ht]at h;cases hk:stepOk m ann t with
   |false=>simp_all
   |true=>
    rw[hk]at h;dsimp only at h⊢;cases hs:stepT _ p w s t with
    |none=>rw[hs]at h;cases h
    |some x=>rw[hs]at h;rw[stepT_spec hs];exact EO h
def btOf(l:List Obj):BT:=(l.foldl (λ(x:BT×Nat) o=>(x.1.ins x.2 o,x.2+1)) (.nil,0)).1
noncomputable def T0 (w:World) (os:OsState):SharedT:=⟨btOf (boot_heap w.params).objs.toList,11,(boot_heap w.params).life,#[],boot_drawn,boot_toks,os⟩
theorem jK(w)(os):(T0 w os).abs=⟨boot_heap w.params,#[],boot_drawn,boot_toks,os⟩:=by kernel_rfl
theorem xC(w:World):((boot_heap w.params).isNs mainGlobals&&(#[]:Array GenState).size==0,(boot_heap w.params).objs.size,(boot_heap w.params).nsMap mainGlobals "__annotations__")=(w5,11,O (.ref 6)):=by kernel_rfl
noncomputable abbrev Ch (p q:Up) (loose:List Str) (Xt:Uo->Bool) (w:World) (t:SharedT):=
 ((staticsOk (importedModules p.main.body) (boot_heap w.params) t.abs.heap&&namesBound p t.abs.heap&&gensDone t.abs&&laidKept (boot_heap w.params) t.abs.heap),openSeen q loose (importedModules p.main.body) Xt w5 t.abs)
theorem AE   {Xt}{N M:Nat}(e:opening p=plainProg p.main.scope.names)(hN:Nat.ble 600 N=w5)(f:∀s,fenceModules? p s=O s)(le:Nat.ble M N=w5)
  (run:∀(w:World)(os:OsState),(topRunT treeTable p w 11 (O (.ref 6)) M (T0 w os) (topStub p)).map (Ch p q loose Xt w)=O (w5,openGood q loose)):LeftO p q loose Xt (Hook.obs .none) (Hook.val .none) N:=λw=>by
 obtain⟨⟨h,gs,d,k,os⟩,e0,e'⟩:=Option.map_eq_some_iff.mp (boot_open e hN f w);obtain⟨rfl,rfl,rfl,rfl⟩:h=boot_heap w.params/\gs=#[]/\d=boot_drawn/\k=boot_toks:=by simpa only[Prod.mk.injEq]using e'
 obtain⟨t,ht,l⟩:=Option.map_eq_some_iff.mp (run w os);have hr:=EO ht;rw[jK]at hr;have r:=topRun_mono (N-M) _ _ _ _ hr;rw[show M+(N-M)=N by have:=Nat.le_of_ble_eq_true le;lia]at r;obtain⟨l1,l2⟩:=Prod.mk.inj l;have z:=xC w;obtain⟨z1,z2,z3⟩:_/\_/\_:=by simpa only[Prod.mk.injEq]using z
 have tf:topFrom treeTable p w N ⟨boot_heap w.params,#[],boot_drawn,boot_toks,os⟩=O t.abs:=by
  unfold topFrom;dsimp only;rw[z1,z2,z3,r]
  show(match staticsOk _ _ t.abs.heap&&namesBound p t.abs.heap&&gensDone t.abs&&laidKept _ t.abs.heap with|true=>O t.abs|false=>w4)=_
  rw[l1]
 unfold openEnds;rw[e0]
 show(topFrom treeTable p w N _).map _=_
 rw[tf];exact Ub O (Prod.ext l2 wZ)
end DL
open PySem in
lay_quick PySem.Challenge.pw_wishdeal_k62_whole_narrower_aims DL.topRunT PySem.W.openGood PySem.W.staticsOk PySem.W.namesBound PySem.W.laidKept PySem.W.xlAt
namespace W
open PySem PySem.Spec DL
noncomputable abbrev p0:Up:=PySem.Challenge.pw_wishdeal_k62_whole_narrower_aims
noncomputable def X9:yi:=[1,2,3,5,6,7,9,10,11,12,13,14,15,16,17,18,19,20,22,23,24,26,27,28,30,31,32,34,35,36,37,38,40,42,43,44,45,46,47,48,49,50,51,52,53,54,56,57,58,59,60,61,63,65,66,67,68,69,71,73,74,75,76,77,78,79,80,81,82]
noncomputable def ixL:yi:=[1,2,3,13,14,15,16,17,18,19,20,22,23,24,27,28,30,31,32,34,35,36,37,38,40,42,43,44,45,46,47,48,49,50,51,52,53,54,56,57,58,59,60,61,63,65,66,67,68,69,71,73,74,75,76,77,78,79,80,81,82]
noncomputable abbrev q0:Up:=PySem.W.view p0 X9
theorem Cg:∀(w:World)(os:OsState),(PySem.W.Fast.tw10708255244068714335 PySem.W.Fast.tw14364793385576792824 PySem.W.Fast.tw10171112609700448693 w 11 (O (.ref 6)) 2841 (T0 w os) (PySem.W.topStub PySem.W.Fast.tw10171112609700448693)).map (λt=>((PySem.W.Fast.tw13471830651028734593 (PySem.W.Fast.tw5923862056798008813 (Program.main PySem.W.Fast.tw10171112609700448693).body) (PySem.W.boot_heap w.params) t.abs.heap&&PySem.W.Fast.tw4683006035507612052 PySem.W.Fast.tw10171112609700448693 t.abs.heap&&PySem.W.gensDone t.abs&&PySem.W.Fast.tw16898566250750103049 (PySem.W.boot_heap w.params) t.abs.heap),PySem.W.Fast.tw4187177175401517315 (PySem.W.view PySem.W.Fast.tw10171112609700448693 X9) [] (PySem.W.Fast.tw5923862056798008813 (Program.main PySem.W.Fast.tw10171112609700448693).body) (λs=>PySem.W.Fast.tw4757257242682413121 (PySem.W.view PySem.W.Fast.tw10171112609700448693 X9) [] s&&PySem.W.recOk [] s) w5 t.abs))=O (w5,PySem.W.Fast.tw3486900944545009338 (PySem.W.view PySem.W.Fast.tw10171112609700448693 X9) []):=by intro w os;kernel_rfl
theorem Cf:PySem.W.LeftO p0 q0 [] (λs=>PySem.W.xlAt q0 [] s&&PySem.W.recOk [] s) (PySem.W.Hook.obs .none) (PySem.W.Hook.val .none) 5582:=by
 refine AE (M:=2841) (by kernel_rfl) wZ (λs=>by kernel_rfl) wZ λw os=>?_
 have h:=Cg w os;rw[←PySem.W.Fast.te10708255244068714335,←PySem.W.Fast.te14364793385576792824,←PySem.W.Fast.te4187177175401517315,←PySem.W.Fast.te5923862056798008813,←PySem.W.Fast.te13471830651028734593,←PySem.W.Fast.te4683006035507612052,←PySem.W.Fast.te16898566250750103049,←PySem.W.Fast.te4757257242682413121,←PySem.W.Fast.te3486900944545009338,←PySem.W.Fast.te10171112609700448693]at h;exact h
end W
namespace L2
open PySem PySem.Spec PyProof.Rows
abbrev Key:=Sum Int Str
abbrev yj:=List Key
noncomputable def SL:Key->Um->Bool
 |.inl k,v=>Value.isInt k v
 |.inr x,v=>Value.isStrOf x v
noncomputable def keyH(w:World):Key->Int
 |.inl k=>hashInt k
 |.inr x=>hashStr w x
theorem WW:∀{k}{v},SL k v=w5->(∃i t,k=Sum.inl i/\v=Value.int i t)∨(∃x t,k=Sum.inr x/\v=Value.str x t)
 |.inl i,v,h=>by obtain⟨t,e⟩:=Value.isInt_shape   h;exact .inl ⟨i,t,rfl,e⟩
 |.inr x,v,h=>by obtain⟨t,e⟩:=Value.isStrOf_shape   h;exact .inr ⟨x,t,rfl,e⟩
theorem xB(i:Int)(t:Tok):SL (.inl i) (.int i t)=w5:=by simp[SL,Value.isInt]
theorem xA(x:Str)(t:Tok):SL (.inr x) (.str x t)=w5:=by simp[SL,Value.isStrOf]
theorem C9(a b):decide ((Sum.inl a:Key)=Sum.inl b)=(a==b):=by
 by_cases e:a=b
 .subst e;simp
 .simp_all
theorem C8(a b):decide ((Sum.inr a:Key)=Sum.inr b)=decide (a=b):=by simp_all
theorem C7(a)(b):decide ((Sum.inl a:Key)=Sum.inr b)=w6:=QQ (λq=>nomatch q)
theorem C6(a)(b):decide ((Sum.inr a:Key)=Sum.inl b)=w6:=QQ (λq=>nomatch q)
noncomputable def Y7(prog:Up)(w:World):PySem.KeyKind prog w Key where
 is:=SL
 hash:=keyH w
 inj:=λv a b ha hb=>by
  rcases WW ha with ⟨i,t,rfl,rfl⟩|⟨x,t,rfl,rfl⟩
  .rcases WW hb with ⟨j,u,rfl,e⟩|⟨y,u,rfl,e⟩
   .injection e with e1 _;rw[e1]
   .exact nomatch e
  .rcases WW hb with ⟨j,u,rfl,e⟩|⟨y,u,rfl,e⟩
   .exact nomatch e
   .injection e with e1 _;rw[e1]
 byValue:=λk v h=>by rcases WW h with ⟨i,t,rfl,rfl⟩|⟨x,t,rfl,rfl⟩<;>rfl
 pyHash:=λhv h=>by
  rcases WW hv with ⟨i,t,rfl,rfl⟩|⟨x,t,rfl,rfl⟩
  .exact wpAny_pyHash_int h
  .exact wpAny_pyHash_str h
 eqBool:=λhu hv h=>by
  rcases WW hu with ⟨i,t,rfl,rfl⟩|⟨x,t,rfl,rfl⟩
  .rcases WW hv with ⟨j,u,rfl,rfl⟩|⟨y,u,rfl,rfl⟩
   .rw[C9]at h;exact wpAny_eqBool_int h
   .rw[C7]at h;exact SeqAt.EqAt.int_str i t y u _ _ _ _ h
  .rcases WW hv with ⟨j,u,rfl,rfl⟩|⟨y,u,rfl,rfl⟩
   .rw[C6]at h;exact SeqAt.EqAt.str_int x t j u _ _ _ _ h
   .rw[C8]at h;exact wpAny_eqBool_str h
 «strs»:=λk x t v h=>by
  rcases WW h with ⟨i,u,rfl,e⟩|⟨y,u,rfl,e⟩
  .exact nomatch e
  .injection e with e1 _
   subst e1;cases v<;>rfl
theorem v4(prog)(w)(i)(t):(Y7 prog w).is (.inl i) (.int i t)=w5:=xB i t
theorem v3(prog)(w)(x)(t):(Y7 prog w).is (.inr x) (.str x t)=w5:=xA x t
inductive V where
 |non|bl (b:Bool)|int (i:Int)|str (x:Str)|byt (b:Array UInt8)|flt (b:UInt64)|ref (a:Uq)|ty (n:String)
 deriving DecidableEq
noncomputable def RelV:V->Um->Prop
 |.non,u=>u=Value.none
 |.bl b,u=>u=Value.bool b
 |.int i,u=>∃t,u=Value.int i t
 |.str x,u=>∃t,u=Value.str x t
 |.byt b,u=>∃t,u=Value.bytes b t
 |.flt b,u=>∃t,u=Value.float b t
 |.ref a,u=>u=Value.ref a
 |.ty n,u=>u=Value.type n
noncomputable abbrev Vals:List V->yc->Prop:=Paired RelV
theorem Vals.length{xs:List V}{us:yc}(r:Vals xs us):xs.length=us.length:=Paired.length r
theorem Vals.get:∀{xs}{us}{i:Nat}{x},Vals xs us->xs[i]?=O x->∃u,us[i]?=O u/\RelV x u
 |_,_,_,_,.nil,e=>by simp_all
 |_,_,0,_,.cons r _,e=>by simp at e;subst e;exact⟨_,rfl,r⟩
 |_,_,i+1,x,.cons _ t,e=>by obtain⟨u,h1,h2⟩:=Vals.get   t (by simpa using e);exact⟨u,by simpa using h1,h2⟩
theorem Vals.set   (r:RelV x u):∀{xs}{us}(i),Vals xs us->Vals (xs.set i x) (us.set i u)
 |_,_,_,.nil=>.nil
 |_,_,0,.cons _ t=>.cons r t
 |_,_,i+1,.cons q t=>.cons q (Vals.set r i t)
theorem Vals.append:∀{xs ys}{us ws},Vals xs us->Vals ys ws->Vals (xs++ys) (us++ws)
 |_,_,_,_,.nil,s=>s
 |_,_,_,_,.cons r t,s=>.cons r (Vals.append t s)
theorem Vals.take:∀{xs}{us}(n),Vals xs us->Vals (xs.take n) (us.take n)
 |_,_,0,_=>.nil
 |_,_,_+1,.nil=>.nil
 |_,_,n+1,.cons r t=>.cons r (Vals.take n t)
theorem Vals.drop:∀{xs}{us}(n),Vals xs us->Vals (xs.drop n) (us.drop n)
 |_,_,0,r=>r
 |_,_,_+1,.nil=>.nil
 |_,_,n+1,.cons _ t=>Vals.drop n t
noncomputable def RelO:Option V->yf->Prop
 |some v,O u=>RelV v u
 |none,w4=>True
 |_,_=>False
noncomputable def KV{κ:Type}:List (κ×V)->List (κ×Um)->Prop:=Paired λ(p:κ×V) (q:κ×Um)=>p.1=q.1/\RelV p.2 q.2
noncomputable def kV:Key->V
 |.inl i=>.int i
 |.inr x=>.str x
inductive HO where
  |lst (xs:List V)
  |tup (xs:List V)
  |dK (kvs:List (Key×V))|dT (kvs:List (yj×V))
  |set (S:Int->Bool) (n:Nat)
  |ins (C dx:Uq) (fs:List (Str×V))
  |own (x:Uq)
  |xd (fs:List (Str×V))
  |met (f x:Uq)
  |rng (lo hi:Int)
  |frz (o:Obj) (u:HO)
  |tbl (ps:Array Um)
  |ext (φ:Heap->Prop)
abbrev Hp:=Uq->Option HO
noncomputable def upd(H:Hp)(a:Uq)(o:HO):Hp:=λb=>if b=a then O o else H b
theorem Zp{H:Hp}{a:Uq}{o:HO}:upd H a o a=O o:=by unfold upd;rw[Qp wZ]
theorem KH{H:Hp}{a b:Uq}{o:HO}(h:b≠a):upd H a o b=H b:=by unfold upd;rw[Qw h]
theorem Ce{H:Hp}{a b}{o u}(h:H a=O o)(h':H b=O u)(d:o≠u):a≠b:=by intro e;subst e;rw[h]at h';exact d (Q3 h')
theorem Yx{H:Hp}{a b}{o}(h:H a=O o)(h':H b=w4):a≠b:=by
 lia
section
variable(P:Up)(w:World)
noncomputable def Ys(H:Hp)(h:Heap)(a:Uq):HO->Prop
 |.lst xs=>xs.length<=Ut/\∃(its:yc)(n:Nat),Vals xs its/\h.get? a=O {cls:=.type "list", data:=.seq its.toArray n}
 |.tup xs=>xs.length<=Ut/\∃its:yc,Vals xs its/\IsTup h a its.toArray
 |.dK kvs=>kvs.length<=Ut/\(a==sysModules)=w6/\∃vs,KV kvs vs/\h.DictOf (Y7 P w) a vs
 |.dT kvs=>kvs.length<=Ut/\(a==sysModules)=w6/\∃xs:List (yj×Uq×Um),
   Paired (λ(p:yj×V) (q:yj×Uq×Um)=>p.1=q.1/\H q.2.1=O (.tup (p.1.map kV))/\RelV p.2 q.2.2) kvs xs /\
   ∃o es ep,h.get? a=O o/\o.ExactDict/\o.data=.dict es ep/\es.toList=xs.map (entryOfKey (tupleKind (Y7 P w)))/\(xs.map (·.1)).Nodup
 |.set S n=>h.SetOf (intKind P w) a S n
 |.ins C dx fs=>H dx=O (.own a)/\fs.length<=1000/\dx≠a/\h.get? a=O (PySem.W.instObj C dx) /\
   ∃mA,h.Ns1 dx mA/\(∀f,RelO (fs.lookup f) (mA f))/\PySem.Within mA (fs.map (·.1))
 |.own _=>∃o,h.get? a=O o
 |.xd fs=>∃mA,h.Ns1 a mA/\∀f,RelO (fs.lookup f) (mA f)
 |.rng lo hi=>∃t u v,h.get? a=O {cls:=.type "range", data:=.fields #[.int lo t,.int hi u,.int 1 v]}
 |.frz o u=>h.get? a=O o/\Ys H h a u
 |.tbl ps=>h.get? a=O {cls:=.none,data:=.fields ps}
 |.met f x=>h.get? a=O (PySem.W.methodObj (.ref f) (.ref x))
 |.ext φ=>φ h/\(∃o,h.get? a=O o)/\∀h1 h2:Heap,φ h1->(∀o,h1.get? a=O o->h2.get? a=O o)->φ h2
def HOk(H:Hp)(h:Heap):Prop:=∀a o,H a=O o->Ys P w H h a o
end
section
variable{P:Up}{w:World}{H H':Hp}{h h':Heap}{a:Uq}{o:HO}
theorem Ys.lt(x:Ys P w H h a o):a<h.objs.size:=by
 cases o with
 |lst xs=>obtain⟨_,_,_,_,e⟩:=x;exact Ql e
 |tup xs=>obtain⟨_,_,_,p⟩:=x;exact p.lt
 |dK kvs=>obtain⟨_,_,_,_,o,_,_,e,_⟩:=x;exact Ql e
 |dT kvs=>obtain⟨_,_,_,_,o,_,_,e,_⟩:=x;exact Ql e
 |set S n=>obtain⟨o,_,_,_,e,_⟩:=x;exact Ql e
 |ins C dx fs=>obtain⟨_,_,_,e,_⟩:=x;exact Ql e
 |own y=>obtain⟨_,e⟩:=x;exact Ql e
 |xd fs=>obtain⟨_,⟨_,_,_,e,_⟩,_⟩:=x;exact Ql e
 |rng lo hi=>obtain⟨_,_,_,e⟩:=x;exact Ql e
 |frz ob u=>obtain⟨e,_⟩:=x;exact Ql e
 |tbl ps=>exact Ql (x)
 |met f y=>exact Ql (x)
 |ext φ=>obtain⟨_,⟨_,e⟩,_⟩:=x;exact Ql e
theorem Paired.mapP   : ∀{l₁:List α}{l₂:List β},Paired F l₁ l₂->(∀a b,F a b->G a b)->Paired G l₁ l₂
 |_,_,.nil,_=>.nil
 |_,_,.cons r t,f=>.cons (f _ _ r) (Paired.mapP t f)
theorem Ys.stay(x:Ys P w H h a o)(k:∀b u,(b=a∨H b=O (.own a))->h.get? b=O u->h'.get? b=O u)
  (ho:∀b,H b=O (.own a)->H' b=O (.own a)) (ht:∀b xs,H b=O (.tup xs)->H' b=O (.tup xs)):Ys P w H' h' a o:=by
 induction o with
 |lst xs=>obtain⟨z,its,n,r,e⟩:=x;exact⟨z,its,n,r,k _ _ (.inl wZ) e⟩
 |tup xs=>obtain⟨z,its,r,ob,e,c⟩:=x;exact⟨z,its,r,ob,k _ _ (.inl wZ) e,c⟩
 |dK kvs=>obtain⟨z,y,vs,r,ob,es,ep,e,c⟩:=x;exact⟨z,y,vs,r,ob,es,ep,k _ _ (.inl wZ) e,c⟩
 |dT kvs=>obtain⟨z,y,xs,r,ob,es,ep,e,c⟩:=x;exact⟨z,y,xs,Paired.mapP r λp q z=>⟨z.1,ht _ _ z.2.1,z.2.2⟩,ob,es,ep,k _ _ (.inl wZ) e,c⟩
 |set S n=>obtain⟨ob,es,ep,t,e,c⟩:=x;exact⟨ob,es,ep,t,k _ _ (.inl wZ) e,c⟩
 |ins C dx fs=>obtain⟨d,z,ne,e,mA,⟨od,es,ep,e2,c⟩,r⟩:=x;exact⟨ho _ d,z,ne,k _ _ (.inl wZ) e,mA,⟨od,es,ep,k _ _ (.inr d) e2,c⟩,r⟩
 |own y=>obtain⟨ob,e⟩:=x;exact⟨ob,k _ _ (.inl wZ) e⟩
 |xd fs=>obtain⟨mA,⟨od,es,ep,e,c⟩,r⟩:=x;exact⟨mA,⟨od,es,ep,k _ _ (.inl wZ) e,c⟩,r⟩
 |rng lo hi=>obtain⟨t,u,v,e⟩:=x;exact⟨t,u,v,k _ _ (.inl wZ) e⟩
 |frz ob u ih=>obtain⟨e,q⟩:=x;exact⟨k _ _ (.inl wZ) e,ih q⟩
 |tbl ps=>have e   :=x;exact k a _ (.inl wZ) e
 |met f y=>have e   :=x;exact k a _ (.inl wZ) e
 |ext φ=>obtain⟨p,⟨o,e⟩,st⟩:=x;exact⟨st _ _ p λo q=>k _ _ (.inl wZ) q,⟨o,k _ _ (.inl wZ) e⟩,st⟩
theorem HOk.lt(x:HOk P w H h)(e:H a=O o):a<h.objs.size:=(x a o e).lt
theorem HOk.fresh(x:HOk P w H h)(e:h.objs.size<=a):H a=w4:=by
 cases q:H a with
 |none=>rfl
 |some u=>exact absurd (QH (x.lt q) e) (Jv _)
theorem HOk.kept(x:HOk P w H h)(k:∀b u,h.get? b=O u->h'.get? b=O u):HOk P w H h':=λa o e=>
 (x a o e).stay (λb u _ q=>k b u q) (λ_ q=>q) λ_ _ q=>q
theorem HOk.laid(x:HOk P w H h)(k:∀b u,h.get? b=O u->h'.get? b=O u)(hp:h.objs.size<=a)(new:Ys P w (upd H a o) h' a o):HOk P w (upd H a o) h':=λb u e=>by
 have hn:=x.fresh hp;by_cases hb:b=a
 .subst hb;rw[Zp]at e;simp_all
 .rw[KH hb]at e
  exact(x b u e).stay (λc v _ q=>k c v q) (λc q=>by rw[KH (Yx q hn)];exact q) λc xs q=>by rw[KH (Yx q hn)];exact q
end
def Rd(H:Hp)(a:Uq)(u:HO):Prop:=H a=O u ∨ ∃o,H a=O (.frz o u)
theorem Rd.ok   {H}{h}{a}{u}(r:Rd H a u)(x:HOk P w H h):Ys P w H h a u:=by
 rcases r with r|⟨o,r⟩
 .exact x a u r
 .obtain⟨_,q⟩:=x a _ r
  exact q
noncomputable def Mut:Option HO->Prop
 |some (.lst _)=>True
 |some (.dK _)=>True
 |some (.dT _)=>True
 |some (.set _ _)=>True
 |some (.ins _ _ _)=>True
 |some (.ext _)=>True
 |_=>False
section
variable{P:Up}{w:World}{H:Hp}{h h':Heap}{x e:Uq}{o':HO}
theorem HOk.write(ok:HOk P w H h)(mu:Mut (H x))(he:e=x∨H e=O (.own x))(k:∀b u,b≠e->h.get? b=O u->h'.get? b=O u)(ae:∃u,h'.get? e=O u)
  (new:Ys P w (upd H x o') h' x o'):HOk P w (upd H x o') h':=λb u q=>by
 have nown:∀c y,H c=O (.own y)->c≠x:=λc y r z=>by subst z;rw[r]at mu;exact mu
 have ntup:∀c xs,H c=O (.tup xs)->c≠x:=λc xs r z=>by subst z;rw[r]at mu;exact mu
 by_cases hb:b=x
 .subst hb;rw[Zp]at q;simp_all
 .rw[KH hb]at q
  by_cases yw:b=e
  .have q':H b=O (.own x):=by
    rcases he with z|z
    .exact absurd (yw.trans z) hb
    .rw[yw];exact z
   rw[q]at q';cases q';obtain⟨v,hv⟩:=ae;exact⟨v,by simp_all⟩
  .refine(ok b u q).stay (λc v hc r=>k c v ?_ r) (λc r=>by rw[KH (nown c b r)];exact r) λc xs r=>by rw[KH (ntup c xs r)];exact r
   rcases hc with rfl|hc
   .exact yw
   grind
end
structure Un(fs ex:ye)(H H':Hp)(h h':Heap):Prop where
 keep:∀b o,h.get? b=O o->H b=w4->b∉fs->b∉ex->h'.get? b=O o
 slot:∀b o,h.get? b=O o->H b=w4->b∈fs->b∉ex->∃sl,h'.get? b=O {o with slots:=sl}
 free:∀b o,h.get? b=O o->H b=w4->b∉ex->H' b=w4
 there:∀b o,h.get? b=O o->b∉ex->∃o',h'.get? b=O o'
 tups:∀b xs,H b=O (.tup xs)->H' b=O (.tup xs)
 frzs:∀b o u,H b=O (.frz o u)->H' b=O (.frz o u)
 tbls:∀b ps,H b=O (.tbl ps)->∃more,H' b=O (.tbl (ps++more))
section
variable{fs fs' ex ex':ye}{H H1 H2:Hp}{h h1 h2 h':Heap}{a x e:Uq}{o:HO}
theorem Un.any(u:Un fs ex H H1 h h1){b}{ob}(q:h.get? b=O ob)(n:H b=w4)(hx:b∉ex):∃sl,h1.get? b=O {ob with slots:=sl}:=by
 by_cases hb:b∈fs
 .exact u.slot b ob q n hb hx
 .exact⟨ob.slots,u.keep b ob q n hb hx⟩
theorem Un.kept(k:∀b u,h.get? b=O u->h'.get? b=O u):Un fs ex H H h h':=
 ⟨λb ob q _ _ _=>k b ob q,λb ob q _ _ _=>⟨ob.slots,k b ob q⟩,λ_ _ _ n _=>n,λb ob q _=>⟨ob,k b ob q⟩,λ_ _ q=>q,λ_ _ _ q=>q,λ_ ps q=>⟨#[],by simp_all⟩⟩
theorem Un.refl:Un fs ex H H h h:=Un.kept λ_ _ q=>q
theorem Un.laid(k:∀b u,h.get? b=O u->h'.get? b=O u)(hp:h.objs.size<=a)(hn:H a=w4):Un fs ex H (upd H a o) h h' where
 keep:=λb u q _ _ _=>k b u q
 slot:=λb u q _ _ _=>⟨u.slots,k b u q⟩
 free:=λb u q n _=>by rw[KH (QX (QH (Ql q) hp))];exact n
 there:=λb u q _=>⟨u,k b u q⟩
 tups:=λb xs q=>by rw[KH (Yx q hn)];exact q
 frzs:=λb u xs q=>by rw[KH (Yx q hn)];exact q
 tbls:=λb ps q=>⟨#[],by rw[KH (Yx q hn),q];simp⟩
theorem Un.write(mu:Mut (H x))(he:e=x∨H e=O (.own x))(k:∀b u,b≠e->h.get? b=O u->h'.get? b=O u)(ae:∃u,h'.get? e=O u):Un fs ex H (upd H x o) h h':=by
 have hx:∀b,H b=w4->b≠x:=λb n z=>by subst z;rw[n]at mu;exact mu
 have hb:∀b,H b=w4->b≠e:=λb n z=>by simp_all
 have hm:∀b u,H b=O u->¬Mut (O u)->b≠x:=λb u q nm z=>by simp_all
 refine⟨λb u q n _ _=>k b u (hb b n) q,λb u q n _ _=>⟨u.slots,k b u (hb b n) q⟩,λb u q n _=>by rw[KH (hx b n)];exact n,λb u q _=>?_,
  λb xs q=>by rw[KH (hm b _ q λz=>z)];exact q,λb u xs q=>by rw[KH (hm b _ q λz=>z)];exact q,λb ps q=>⟨#[],by rw[KH (hm b _ q λz=>z),q];simp⟩⟩
 by_cases yw:b=e
 .simp_all
 .exact⟨u,k b u yw q⟩
end
noncomputable def trk(h:Heap)(H:Hp):ye:=(Ux h.objs.size).filter λa=>(H a).isSome
noncomputable def YN(h:Heap)(H:Hp):Heap:=PySem.W.hideAll h (trk h H)
theorem xz(h:Heap)(H:Hp):(YN h H).objs.size=h.objs.size:=PySem.W.hideAll_size _ _
theorem jJ  {H}{b}{o}(e:h.get? b=O o)(n:H b=w4):(YN h H).get? b=O o:=
 PySem.W.hideAll_get _ e λhm=>by have q   :=(QK.mp hm).2;simp_all
theorem AD     (e:(YN h H).get? b=O o):h.get? b=O o/\H b=w4:=by
 have e'   :=PySem.W.of_hideAll _ e;refine⟨e',?_⟩;cases q:H b with
 |none=>rfl
 |some x=>have hm:b∈trk h H:=List.mem_filter.mpr ⟨List.mem_range.mpr (Heap.lt_size e'),by simp_all⟩;have z:(YN h H).get? b=w4:=PySem.W.hideAll_none _ hm;simp_all
structure Mod(K:Frag)(mg:Str->yf)(base:Heap):Prop where
 kin:K.In base
 glob:base.Ns mainGlobals mg
 blt:∃mb,base.Ns builtinsNs mb/\∀x:Str,x ≠ "__name__" -> mb x=bootBuiltins x
 nolimit:base.NoLimit
structure Cx where
 prog:Up
 w:World
 K:Frag
 mg:Str->yf
 base:Heap
 A:Around
 N:List Str
 s₀:Uo
 H₀:Hp
 env:Env
 outer:List Env
 stack:List Env
 ex:ye
 fn:Str->Bool
 calm:Bool
 pn:List (Uq×Obj)
 xe:Um->Uo->Prop
noncomputable def frs(l:List Env):ye:=l.filterMap (·.frame)
noncomputable abbrev Cx.fs(X:Cx):ye:=frs X.outer
def Vis(sc:Scope)(x:Str):Prop:=sc.names.lookup x=O .local∨sc.names.lookup x=O .cell∨sc.names.lookup x=O .free
def Loc(sc:Scope)(x:Str):Prop:=sc.names.lookup x=O .local∨sc.names.lookup x=O .cell
def Look(env:Env)(h:Heap)(m:Str->yf)(x:Str)(u:Um):Prop:=
 (env.kindOf x=O .local/\m x=O u)∨((env.kindOf x=O .cell∨env.kindOf x=O .free)/\∃c,env.cells.lookup x=O c/\h.IsCell c (O u))
structure Cx.Ok(X:Cx):Prop where
 mod:Mod X.K X.mg X.base
 kind:X.env.scope.kind=.function
 glob:X.env.globals=mainGlobals
 blt:X.env.builtins=builtinsNs
 above:X.s₀.heap.objs.size<=X.env.locals
 inj:∀x y c,X.env.cells.lookup x=O c->X.env.cells.lookup y=O c->x=y
 has:∀x,(X.env.kindOf x=O .cell∨X.env.kindOf x=O .free)->∃c,X.env.cells.lookup x=O c
 cab:∀x c,X.fn x=w5->X.env.cells.lookup x=O c->X.s₀.heap.objs.size<=c
 hd:X.calm=w5->X.A.handled=w4
 frames:X.A.frames=O X.stack
 stk:X.stack=X.outer∨(X.stack=X.env::X.outer/\X.env.frame=O X.env.locals)
 exf:∀b∈X.ex,b≠X.env.locals/\∀x c,X.env.cells.lookup x=O c->c≠b
 bs:∀b o,X.base.get? b=O o->X.s₀.heap.get? b=O o/\X.H₀ b=w4
 bsz:X.base.objs.size<=X.s₀.heap.objs.size
 noex:∀b o,X.base.get? b=O o->b∉X.ex
 exfs:∀b∈X.ex,b∉X.fs
 funs:X.s₀.heap.FunFrames X.base X.outer
 frf:∀b∈X.fs,X.H₀ b=w4
structure Inv(X:Cx)(pins:List (Uq×Obj))(σ:List (Option V))(H:Hp)(s:Uo):Prop where
 ok:X.Ok
 os:s.os=X.s₀.os
 bare:AllBare s.gens
 base:Un X.fs X.ex X.H₀ H X.s₀.heap s.heap
 loc:∃m,s.heap.Ns X.env.locals m/\∀(i:Nat)(x:Str)(v:V),X.N[i]?=O x->σ[i]?=O (O v)->Vis X.env.scope x->∃u,RelV v u/\Look X.env s.heap m x u
 cell:∀x c,X.env.cells.lookup x=O c->∃v,s.heap.IsCell c v
 free:H X.env.locals=w4
 freeC:∀x c,X.env.cells.lookup x=O c->H c=w4
 pin:∀p∈X.pn++pins,s.heap.get? p.1=O p.2/\H p.1=w4/\p.1≠X.env.locals/\p.1∉X.fs/\∀v,p.2.data≠.cell v
 hok:HOk X.prog X.w H s.heap
 len:σ.length=X.N.length
section
variable{X:Cx}{pins:List (Uq×Obj)}{σ:List (Option V)}{H H':Hp}{s:Uo}{h':Heap}
theorem Cx.Ok.nofr(ok:X.Ok){b}{o}(e:X.base.get? b=O o):b∉X.fs:=λhb=>by
 have:=(ok.funs.mem hb).1
 lia
theorem Inv.bs(I:Inv X pins σ H s):∀b o,X.base.get? b=O o->s.heap.get? b=O o/\H b=w4:=λb o e=>
 ⟨I.base.keep b o (I.ok.bs b o e).1 (I.ok.bs b o e).2 (I.ok.nofr e) (I.ok.noex b o e),I.base.free b o (I.ok.bs b o e).1 (I.ok.bs b o e).2 (I.ok.noex b o e)⟩
theorem Inv.bk(I:Inv X pins σ H s):∀b o,X.base.get? b=O o->s.heap.get? b=O o:=λb o e=>(I.bs b o e).1
theorem Inv.mod(I:Inv X pins σ H s):Mod X.K X.mg X.base:=I.ok.mod
theorem Inv.kIn(I:Inv X pins σ H s):X.K.In s.heap:=I.ok.mod.kin.keeps I.bk
theorem Inv.lt(I:Inv X pins σ H s):X.env.locals<s.heap.objs.size:=let ⟨_,hn,_⟩:=I.loc;hn.lt
theorem Inv.sz(I:Inv X pins σ H s):X.s₀.heap.objs.size<=s.heap.objs.size:=QN I.ok.above (Uj I.lt)
theorem Inv.nofs(I:Inv X pins σ H s){a:Uq}(h:s.heap.objs.size<=a):a∉X.fs:=λhb=>by obtain⟨_,o,ho,_⟩:=I.ok.funs.mem hb;exact absurd (QH (Ql ho) (QN I.sz h)) (Jv _)
theorem Inv.cne(I:Inv X pins σ H s):∀x c,X.env.cells.lookup x=O c->c≠X.env.locals:=λx c e z=>by
 obtain⟨v,o,ho,hd⟩:=I.cell x c e;obtain⟨m,⟨o',es,ep,ho',hd',_⟩,_⟩:=I.loc
 lia
theorem Inv.funs(I:Inv X pins σ H s):s.heap.FunFrames X.base X.outer:=by
 have all:∀(l:List Env),(∀b∈frs l,b∈X.fs)->X.s₀.heap.FunFrames X.base l->s.heap.FunFrames X.base l:=by
  intro l;induction l with
  |nil=>intro _ _;trivial
  |cons env r ih=>
   intro hs hl;obtain⟨hk,⟨L,o,hf,hn,ho,hd⟩,hr⟩:=hl;have hL   :=hs L (by unfold frs;rw[JB,hf];exact Qj);obtain⟨sl,e⟩:=I.base.slot L o ho (I.ok.frf L hL) hL λz=>I.ok.exfs L z hL
   exact⟨hk,⟨L,_,hf,hn,e,hd⟩,ih (λb hb=>hs b (by unfold frs;rw[JB,hf];exact Qi _ hb)) hr⟩
 exact all X.outer (λ_ hb=>hb) I.ok.funs
theorem Inv.stack(I:Inv X pins σ H s):s.heap.FunFrames X.base X.stack:=by
 rcases I.ok.stk with e|⟨e,hf⟩
 .rw[e];exact I.funs
 .rw[e]
  obtain⟨m,hn,_⟩:=I.loc;refine .cons (by rw[I.ok.kind];decide) hf hn ?_ I.funs;exact Heap.get?_none_of_le (QN I.ok.bsz I.ok.above)
theorem Inv.stkSub(I:Inv X pins σ H s):∀b∈frs X.stack,b∈X.env.locals::X.fs:=λb hb=>by
 rcases I.ok.stk with e|⟨e,hf⟩
 .rw[e]at hb;exact Qi _ hb
 .rw[e]at hb
  unfold frs at hb;rw[JB,hf]at hb;exact hb
theorem Inv.stkFree(I:Inv X pins σ H s):∀b∈frs X.stack,H b=w4:=λb hb=>by
 rcases QE.mp (I.stkSub b hb)with e|hb
 .rw[e];exact I.free
 .obtain⟨_,o,ho,_⟩:=I.ok.funs.mem hb
  exact I.base.free b o ho (I.ok.frf b hb) λz=>I.ok.exfs b z hb
theorem Inv.step  {t':Nat}{d':Drawn}{ch:ye}(I:Inv X pins σ H s)
  (hch:∀b∈ch,(b∈X.ex∨X.s₀.heap.objs.size<=b)/\b≠X.env.locals/\(∀x c,X.env.cells.lookup x=O c->c≠b)/\∀p∈X.pn++pins,p.1≠b)
  (keep:∀b o,b≠X.env.locals->b∉X.fs->b∉ch->s.heap.get? b=O o->H b=w4->h'.get? b=O o)
  (slot:∀b o,b≠X.env.locals->b∈X.fs->b∉ch->s.heap.get? b=O o->H b=w4->∃sl,h'.get? b=O {o with slots:=sl}) (free:∀b o,b∉ch->s.heap.get? b=O o->H b=w4->H' b=w4)
  (there:∀b o,b∉ch->s.heap.get? b=O o->∃o',h'.get? b=O o')
  (tups:∀b xs,H b=O (.tup xs)->H' b=O (.tup xs)) (frzs:∀b o u,H b=O (.frz o u)->H' b=O (.frz o u)) (tbls:∀b ps,H b=O (.tbl ps)->∃more,H' b=O (.tbl (ps++more)))
  (ns:∀m,s.heap.Ns X.env.locals m->h'.Ns X.env.locals m) (hok:HOk X.prog X.w H' h') (hg:AllBare g') :
  Inv X pins σ H' {s with heap:=h',gens:=g',drawn:=d',toks:=t'}:=by
 have neL:∀b o,X.s₀.heap.get? b=O o->b≠X.env.locals:=λb o e=>QX (QH (Ql e) I.ok.above)
 have neC:∀b o,X.s₀.heap.get? b=O o->b∉X.ex->b∉ch:=λb o e hx hb=>by
  rcases(hch b hb).1 with z|z
  .exact hx z
  .exact absurd (QH (Ql e) z) (Jv _)
 have cellK:∀x c,X.env.cells.lookup x=O c->∀v,s.heap.IsCell c v->h'.IsCell c v:=λx c e v ⟨o,ho,hd⟩=>by
  have nch:c∉ch:=λz=>(hch c z).2.2.1 x c e wZ
  by_cases hc:c∈X.fs
  .obtain⟨sl,q⟩:=slot c o (I.cne x c e) hc nch ho (I.freeC x c e)
   exact⟨_,q,hd⟩
  .exact⟨o,keep c o (I.cne x c e) hc nch ho (I.freeC x c e),hd⟩
 refine⟨I.ok,I.os,hg,⟨λb o e n hb hx=>?_,λb o e n hb hx=>?_,λb o e n hx=>?_,λb o e hx=>?_,λb xs e=>tups b xs (I.base.tups b xs e),λb o xs e=>frzs b o xs (I.base.frzs b o xs e),λb ps e=>?_⟩,?_,λx c e=>?_,?_,λx c e=>?_,λp hp=>?_,hok,I.len⟩
 .exact keep b o (neL b o e) hb (neC b o e hx) (I.base.keep b o e n hb hx) (I.base.free b o e n hx)
 .obtain⟨sl,e1⟩:=I.base.slot b o e n hb hx
  obtain⟨yx,e2⟩:=slot b _ (neL b o e) hb (neC b o e hx) e1 (I.base.free b o e n hx);exact⟨yx,e2⟩
 .obtain⟨o',e1⟩:=I.base.there b o e hx
  exact free b o' (neC b o e hx) e1 (I.base.free b o e n hx)
 .obtain⟨o',e1⟩:=I.base.there b o e hx
  exact there b o' (neC b o e hx) e1
 .obtain⟨m1,e1⟩:=I.base.tbls b ps e
  obtain⟨m2,e2⟩:=tbls b _ e1;exact⟨m1++m2,by rw[e2,Array.append_assoc]⟩
 .obtain⟨m,hn,hl⟩:=I.loc
  refine⟨m,ns m hn,λi x v e1 e2 e3=>?_⟩;obtain⟨u,r,l⟩:=hl i x v e1 e2 e3;refine⟨u,r,?_⟩;rcases l with l|⟨k,c,e,z⟩
  .exact .inl l
  .exact .inr ⟨k,c,e,cellK x c e _ z⟩
 .obtain⟨v,z⟩:=I.cell x c e
  exact⟨v,cellK x c e v z⟩
 .obtain⟨m,⟨o,_,_,ho,_⟩,_⟩:=I.loc
  exact free _ o (λz=>(hch _ z).2.1 wZ) ho I.free
 .obtain⟨v,o,ho,hd⟩:=I.cell x c e
  exact free c o (λz=>(hch c z).2.2.1 x c e wZ) ho (I.freeC x c e)
 .obtain⟨e,n,ne,nf,d⟩:=I.pin p hp
  have nch:p.1∉ch:=λz=>(hch p.1 z).2.2.2 p hp wZ
  exact⟨keep p.1 p.2 ne nf nch e n,free p.1 p.2 nch e n,ne,nf,d⟩
theorem Inv.un  (I:Inv X pins σ H s)(u:Un X.fs [] H H' s.heap h')(hok:HOk X.prog X.w H' h'):Inv X pins σ H' {s with heap:=h',toks:=t'}:=by obtain⟨m,⟨o,es,ep,ho,r⟩,_⟩:=id I.loc;obtain⟨sl,hL⟩:=u.any ho I.free (by simp);exact I.step   (ch:=[]) (λ_ z=>nomatch z) (λb o _ hb _ e n=>u.keep b o e n hb (by simp)) (λb o _ hb _ e n=>u.slot b o e n hb (by simp)) (λb o _ e n=>u.free b o e n (by simp)) (λb o _ e=>u.there b o e (by simp)) u.tups u.frzs u.tbls (λm' hm=>by obtain⟨o',es',ep',ho',r'⟩:=hm;rw[ho]at ho';cases ho';exact⟨_,es',ep',hL,r'⟩) hok I.bare
theorem Inv.call   {d'}{ch}(I:Inv X pins σ H s)(u:Un (frs X.stack) ch H H' s.heap h')(hok:HOk X.prog X.w H' h')(hg:AllBare g')
  (hch:∀b∈ch,(b∈X.ex∨X.s₀.heap.objs.size<=b)/\b≠X.env.locals/\(∀x c,X.env.cells.lookup x=O c->c≠b)/\∀p∈X.pn++pins,p.1≠b) :
  Inv X pins σ H' {s with heap:=h',gens:=g',drawn:=d',toks:=t'}:=by
 obtain⟨m,⟨o,es,ep,ho,r⟩,_⟩:=id I.loc;obtain⟨sl,hL⟩:=u.any ho I.free λz=>(hch _ z).2.1 wZ
 exact I.step  hch (λb o hL hb hc e n=>u.keep b o e n (λz=>(QE.mp (I.stkSub b z)).elim hL hb) hc) (λb o _ _ hc e n=>u.any e n hc) (λb o hc e n=>u.free b o e n hc) (λb o hc e=>u.there b o e hc) u.tups u.frzs u.tbls (λm' hm=>by obtain⟨o',es',ep',ho',r'⟩:=hm;rw[ho]at ho';cases ho';exact⟨_,es',ep',hL,r'⟩) hok hg
theorem Inv.turned  {it}(I:Inv X pins σ H s)(k:∀b o,b≠it->s.heap.get? b=O o->h'.get? b=O o)(hn:H it=w4)(hL:it≠X.env.locals)
  (h1:it∈X.ex∨X.s₀.heap.objs.size<=it) (h2:∀x c,X.env.cells.lookup x=O c->c≠it) (h3:∀p∈X.pn++pins,p.1≠it):Inv X pins σ H {s with heap:=h',toks:=t'}:=by
 have nit:∀b u,H b=O u->b≠it:=λb u e z=>by rw[z,hn]at e;cases e
 refine I.step   (ch:=[it]) (λb hb=>?_) (λb o _ _ hc e _=>k b o (λz=>hc (by simp[z])) e) (λb o _ _ hc e _=>⟨o.slots,k b o (λz=>hc (by simp[z])) e⟩) (λ_ _ _ _ n=>n)
  (λb o hc e=>⟨o,k b o (λz=>hc (by simp[z])) e⟩) (λ_ _ e=>e) (λ_ _ _ e=>e) (λb ps e=>⟨#[],by rw[e];simp⟩) (λm hm=>?_) (λb u e=>?_) I.bare
 .have e   :=by simpa using hb
  subst e;exact⟨h1,hL,h2,h3⟩
 .obtain⟨o,es,ep,ho,r⟩:=hm
  exact⟨o,es,ep,k _ o (Ne.symm hL) ho,r⟩
 .refine(I.hok b u e).stay (λc v hc q=>k c v ?_ q) (λ_ q=>q) λ_ _ q=>q
  rcases hc with z|z
  .rw[z];exact nit b u e
  .exact nit c _ z
theorem Inv.tok(I:Inv X pins σ H s)(t):Inv X pins σ H {s with toks:=t}:=I.un   Un.refl I.hok
theorem Inv.kept  (I:Inv X pins σ H s)(k:∀b u,s.heap.get? b=O u->h'.get? b=O u):Inv X pins σ H {s with heap:=h',toks:=t'}:=I.un (Un.kept k) (I.hok.kept k)
theorem Inv.laid{a:Uq}{o}{t'}(I:Inv X pins σ H s)(k:∀b u,s.heap.get? b=O u->h'.get? b=O u)(hp:s.heap.objs.size<=a)(new:Ys X.prog X.w (upd H a o) h' a o) :
  Inv X pins σ (upd H a o) {s with heap:=h',toks:=t'}:=I.un (Un.laid k hp (I.hok.fresh hp)) (I.hok.laid k hp new)
theorem Inv.write    (I:Inv X pins σ H s)(mu:Mut (H x))(he:e=x∨H e=O (.own x))(k:∀b u,b≠e->s.heap.get? b=O u->h'.get? b=O u)(ae:∃u,h'.get? e=O u)
  (new:Ys X.prog X.w (upd H x o) h' x o):Inv X pins σ (upd H x o) {s with heap:=h',toks:=t'}:=I.un (Un.write mu he k ae) (I.hok.write mu he k ae new)
theorem Inv.pins_of  (I:Inv X pins σ H s)(h:∀p∈pins',s.heap.get? p.1=O p.2/\H p.1=w4/\p.1≠X.env.locals/\p.1∉X.fs/\∀v,p.2.data≠.cell v):Inv X pins' σ H s:=
 ⟨I.ok,I.os,I.bare,I.base,I.loc,I.cell,I.free,I.freeC,λp hp=>(QI.mp hp).elim (λz=>I.pin p (Q9 _ z)) (h p),I.hok,I.len⟩
theorem GD{N:List Str}(hN:N.Nodup){i j:Nat}{x}(a:N[i]?=O x)(b:N[j]?=O x):i=j:=by obtain⟨h1,e1⟩:=Qg.mp a;obtain⟨h2,e2⟩:=Qg.mp b;exact(List.getElem_inj hN).mp (e1.trans e2.symm)
theorem MC{M:Model}{A:Around}{E:Um->Uo->Prop}{i:Nat}{x:Str}{v:V}{u:Um}{Q:Unit->Uo->Prop}(I:Inv X pins σ H s)(hN:X.N.Nodup)(hi:X.N[i]?=O x)(hx:Loc X.env.scope x)(r:RelV v u)
  (h:∀s',Inv X pins (σ.set i (O v)) H s'->(∃a,Heap.SameBut a s.heap s'.heap/\(a=X.env.locals∨X.env.cells.lookup x=O a))->Q () s') (hf:X.fn x=w5∨X.env.scope.names.lookup x=O .local:=by first|exact .inl rfl|exact .inr rfl|assumption):Uu M A (storeName X.env x u) Q E s:=by
 obtain⟨m,hn,hl⟩:=id I.loc;have hcls:(X.env.scope.kind==.class || (X.env.scope.kind==.module&&X.env.locals != X.env.globals))=w6:=by rw[I.ok.kind];rfl
 have hiσ:i<σ.length:=by rw[I.len];exact(Qg.mp hi).1
 have cne:=I.cne
 have tracked:∀{a:Uq}{h':Heap},(∃o,s.heap.get? a=O o/\H a=w4)->Heap.SameBut a s.heap h'->HOk X.prog X.w H h':=λ{a h'} ha hs b ob e=>by
  obtain⟨_,_,hfree⟩:=ha;refine(I.hok b ob e).stay (λc w' hc q=>(hs.2 c ?_).trans q) (λ_ q=>q) λ_ _ q=>q
  rintro rfl;rcases hc with rfl|hc
  .rw[hfree]at e;cases e
  .rw[hfree]at hc;cases hc
 rcases hx with hk|hk
 .refine wpAny_storeName_local hk hn (λh' hn' hs=>?_) hcls
  obtain⟨oL,_,_,hoL,_⟩:=id hn;refine h _ ⟨I.ok,I.os,I.bare,⟨λb o e n hb hx=>?_,λb o e n hb hx=>?_,I.base.free,λb o e hx=>?_,I.base.tups,I.base.frzs,I.base.tbls⟩,⟨_,hn',λj y v' e1 e2 e3=>?_⟩,λy c e=>?_,I.free,I.freeC,λp hp=>?_,tracked ⟨oL,hoL,I.free⟩ hs,by simpa using I.len⟩ ⟨_,hs,.inl wZ⟩
  .exact(hs.2 b (QX (QH (Ql e) I.ok.above))).trans (I.base.keep b o e n hb hx)
  .obtain⟨sl,e1⟩:=I.base.slot b o e n hb hx
   exact⟨sl,(hs.2 b (QX (QH (Ql e) I.ok.above))).trans e1⟩
  .obtain⟨o',e1⟩:=I.base.there b o e hx
   exact⟨o',(hs.2 b (QX (QH (Ql e) I.ok.above))).trans e1⟩
  .by_cases hj:j=i
   .subst hj
    rw[hi]at e1;cases e1;rw[QG hiσ]at e2;cases e2;exact⟨u,r,.inl ⟨hk,by simp⟩⟩
   .rw[Qr (Ne.symm hj)]at e2
    obtain⟨u',r',q⟩:=hl j y v' e1 e2 e3;refine⟨u',r',?_⟩;rcases q with ⟨k,e⟩|⟨k,c,e,z⟩
    .refine .inl ⟨k,?_⟩
     have:y≠x:=λe=>hj (GD hN e1 (e ▸ hi))
     simp[this,e]
    .exact .inr ⟨k,c,e,z.sameBut hs (cne y c e)⟩
  .obtain⟨w',z⟩:=I.cell y c e
   exact⟨w',z.sameBut hs (cne y c e)⟩
  .obtain⟨e,n,ne,nf,d⟩:=I.pin p hp
   exact⟨(hs.2 p.1 ne).trans e,n,ne,nf,d⟩
 .have hfn:X.fn x=w5:=by
   rcases hf with z|z
   .exact z
   .rw[z]at hk;cases hk
  obtain⟨c,hc⟩:=I.ok.has x (.inl hk);obtain⟨w',z⟩:=I.cell x c hc;refine wpAny_storeName_cell I.ok.kind hk hc z (λh' hc' hs=>?_);obtain⟨oc,hoc,hocd⟩:=id z;refine h {s with heap:=h'} ⟨I.ok,I.os,I.bare,⟨λb o e n hb hx=>?_,λb o e n hb hx=>?_,I.base.free,λb o e hx=>?_,I.base.tups,I.base.frzs,I.base.tbls⟩,⟨m,hn.sameBut hs (Ne.symm (cne x c hc)),λj y v' e1 e2 e3=>?_⟩,λy c' e=>?_,I.free,I.freeC,λp hp=>?_,tracked ⟨oc,hoc,I.freeC x c hc⟩ hs,by simpa using I.len⟩ ⟨c,hs,.inr hc⟩
  .exact(hs.2 b (QX (QH (Ql e) (I.ok.cab x c hfn hc)))).trans (I.base.keep b o e n hb hx)
  .obtain⟨sl,e1⟩:=I.base.slot b o e n hb hx
   exact⟨sl,(hs.2 b (QX (QH (Ql e) (I.ok.cab x c hfn hc)))).trans e1⟩
  .obtain⟨o',e1⟩:=I.base.there b o e hx
   exact⟨o',(hs.2 b (QX (QH (Ql e) (I.ok.cab x c hfn hc)))).trans e1⟩
  .by_cases hj:j=i
   .subst hj
    rw[hi]at e1;cases e1;rw[QG hiσ]at e2;cases e2;exact⟨u,r,.inr ⟨.inl hk,c,hc,hc'⟩⟩
   .rw[Qr (Ne.symm hj)]at e2
    obtain⟨u',r',q⟩:=hl j y v' e1 e2 e3;refine⟨u',r',?_⟩;rcases q with q|⟨k,c',e,z'⟩
    .exact .inl q
    .refine .inr ⟨k,c',e,z'.sameBut hs ?_⟩
     rintro rfl;exact hj (GD hN e1 (I.ok.inj _ _ _ e hc ▸ hi))
  .by_cases hcc:c'=c
   .subst hcc;exact⟨_,hc'⟩
   .obtain⟨w2,z2⟩:=I.cell y c' e
    exact⟨w2,z2.sameBut hs hcc⟩
  .obtain⟨e,n,ne,nf,d⟩:=I.pin p hp
   refine⟨(hs.2 p.1 ?_).trans e,n,ne,nf,d⟩;intro q;rw[q,hoc]at e;have q':oc=p.2:=Q3 e;exact d w' (by rw[←q'];exact hocd)
theorem NU    {i}{x}{v}{u}{Q}(I:Inv X pins σ H s)(hN:X.N.Nodup)(hi:X.N[i]?=O x)(hx:Loc X.env.scope x)(r:RelV v u)
  (h:∀s',Inv X pins (σ.set i (O v)) H s'->Q () s') (hf:X.fn x=w5∨X.env.scope.names.lookup x=O .local:=by first|exact .inl rfl|exact .inr rfl|assumption):Uu M A (storeName X.env x u) Q E s:=
 MC I hN hi hx r (λs' I' _=>h s' I') hf
theorem Inv.call'  {ch}(I:Inv X pins σ H s)(ho:s'.os=s.os)(u:Un (frs X.stack) ch H H' s.heap s'.heap)(hok:HOk X.prog X.w H' s'.heap)(hg:AllBare s'.gens)
  (hch:∀b∈ch,(b∈X.ex∨X.s₀.heap.objs.size<=b)/\b≠X.env.locals/\(∀x c,X.env.cells.lookup x=O c->c≠b)/\∀p∈X.pn++pins,p.1≠b):Inv X pins σ H' s':=by
 obtain⟨h',g',d',t',o'⟩:=s';have e   :=ho;subst e;exact I.call    u hok hg hch
end
abbrev XK:=Um->yk->Hp->Prop
abbrev St:=List (Option V)
abbrev VK:=V->Hp->Prop
abbrev TE:=St->Hp->VK->Prop
abbrev TT:=St->Hp->(Bool->Hp->Prop)->Prop
abbrev TA:=St->Hp->(List V->Hp->Prop)->Prop
structure Ends where
 nx:St->Hp->Prop
 rt:VK
 bk:St->Hp->Prop:=λ_ _=>False
 ct:St->Hp->Prop:=λ_ _=>False
abbrev TS:=Ends->St->Hp->Prop
def EP(X:Cx)(pins:List (Uq×Obj))(σ:St)(Q:VK)(u:Um)(s':Uo):Prop:=∃v H',Inv X pins σ H' s'/\RelV v u/\Q v H'
def TP(X:Cx)(pins:List (Uq×Obj))(σ:St)(Q:Bool->Hp->Prop)(b:Bool)(s':Uo):Prop:=∃H',Inv X pins σ H' s'/\Q b H'
def AP(X:Cx)(pins:List (Uq×Obj))(σ:St)(Q:List V->Hp->Prop)(us:yc)(s':Uo):Prop:=∃vs H',Inv X pins σ H' s'/\Vals vs us/\Q vs H'
def SP(X:Cx)(pins:List (Uq×Obj))(D:Ends)(f:Flow)(s':Uo):Prop:=
 match f with
 |.next=>∃σ' H',Inv X pins σ' H' s'/\D.nx σ' H'
 |.brk=>∃σ' H',Inv X pins σ' H' s'/\D.bk σ' H'
 |.cont=>∃σ' H',Inv X pins σ' H' s'/\D.ct σ' H'
 |.ret u=>∃v σ' H',Inv X pins σ' H' s'/\RelV v u/\D.rt v H'
def PE(X:Cx)(e:Us)(t:TE):Prop:=
 ∀(pins:List (Uq×Obj))(s:Uo)(σ:St)(H:Hp)(Q:VK),Inv X pins σ H s->t σ H Q->Uu (model X.prog X.w) X.A (eval e X.env) (EP X pins σ Q) X.xe s
def PT(X:Cx)(e:Us)(t:TT):Prop:=
 ∀(pins:List (Uq×Obj))(s:Uo)(σ:St)(H:Hp)(Q:Bool->Hp->Prop),Inv X pins σ H s->t σ H Q->Uu (model X.prog X.w) X.A (isTrue e X.env (eval e X.env)) (TP X pins σ Q) X.xe s
def PW(X:Cx)(e:Us)(t:TT):Prop:=
 ∀(whole:Sem Um)(pins:List (Uq×Obj))(s:Uo)(σ:St)(H:Hp)(Q:Bool->Hp->Prop),Inv X pins σ H s->t σ H Q->Uu (model X.prog X.w) X.A (isTrue e X.env whole) (TP X pins σ Q) X.xe s
theorem PW.pt{X:Cx}{e:Us}{t:TT}(h:PW X e t):PT X e t:=h _
def PA(X:Cx)(es:yb)(t:TA):Prop:=
 ∀(pos:Pos)(pins:List (Uq×Obj))(s:Uo)(σ:St)(H:Hp)(Q:List V->Hp->Prop),Inv X pins σ H s->t σ H Q->Uu (model X.prog X.w) X.A (spliced (backTo pos (Uv es X.env))) (AP X pins σ Q) X.xe s
def PS(X:Cx)(st:Stmt)(t:TS):Prop:=
 ∀(pins:List (Uq×Obj))(s:Uo)(σ:St)(H:Hp)(D:Ends),Inv X pins σ H s->t D σ H->Uu (model X.prog X.w) X.A (exec st X.env) (SP X pins D) X.xe s
def PSs(X:Cx)(st:List Stmt)(t:TS):Prop:=
 ∀(pins:List (Uq×Obj))(s:Uo)(σ:St)(H:Hp)(D:Ends),Inv X pins σ H s->t D σ H->Uu (model X.prog X.w) X.A (execs st X.env) (SP X pins D) X.xe s
theorem thn  {t:Sem α}{Q Q'}{M}{A}{E}{s}(h:Uu M A t Q E s)(hQ:∀a s,Q a s->Q' a s):Uu M A t Q' E s:=QL h hQ λ_ _ x=>x
section
variable{X:Cx}
noncomputable def Zg(i:Nat):TE:=λσ H Q=>∃v,σ[i]?=O (O v)/\Q v H
noncomputable def tC(v:V):TE:=λ_ H Q=>Q v H
theorem LH   {pos}(hN:X.N[i]?=O x)(hv:Vis X.env.scope x)(hd:(x==("__debug__" : Str))=w6:=by decide)(hcd:(x==("__classdict__" : Str))=w6:=by decide):PE X (.Name x pos) (Zg i):=by
 intro pins s σ H Q I h;obtain⟨v,e,h⟩:=h;obtain⟨m,hn,hl⟩:=I.loc;obtain⟨u,r,l⟩:=hl i x v hN e hv;have fin:EP X pins σ Q u s:=⟨v,H,I,r,h⟩;rcases l with ⟨hk,hm⟩|⟨hk,c,hc,hcell⟩
 .exact wpAny_Name (wpAny_loadName_local I.ok.kind hk hn hm fin) hd
 .rcases hk with hk|hk
  .exact wpAny_Name (wpAny_loadName_cell I.ok.kind hk hc hcell fin) hd
  .exact wpAny_Name (wpAny_loadName_free I.ok.kind hk hc hcell fin hcd) hd
theorem C5  : PE X (.Constant (.int i) j pos) (tC (.int i)):=λ_ _ _ H _ I h=>wpAny_Constant_int ⟨.int i,H,I.tok _,⟨_,rfl⟩,h⟩
theorem Cd  : PE X (.Constant (.bool b) j pos) (tC (.bl b)):=λ_ _ _ H _ I h=>Constant_bool ⟨.bl b,H,I,rfl,h⟩
theorem C4  : PE X (.Constant .none j pos) (tC .non):=λ_ _ _ H _ I h=>Constant_none ⟨.non,H,I,rfl,h⟩
theorem C3  : PE X (.Constant (.str x) j pos) (tC (.str x)):=λ_ _ _ H _ I h=>Calls.Constant_str ⟨.str x,H,I.tok _,⟨_,rfl⟩,h⟩
def Gl(X:Cx)(x:Str):Prop:=X.env.kindOf x=O .globalImplicit
theorem HS  {pins}{s}{σ:St}{H}{x}{u}{pos}{Q}(I:Inv X pins σ H s)(hg:Gl X x)(hm:X.mg x=O u)(h:Q u s)
  (hd:(x==("__debug__" : Str))=w6:=by decide):Uu (model X.prog X.w) X.A (eval (.Name x pos) X.env) Q E s:=
 Calls.Name_function_global I.ok.kind hg (Calls.loadGlobal_global (by rw[I.ok.glob];exact I.mod.glob.keeps I.bk) hm h) hd
theorem Th{E}{pins}{s}{σ:St}{H}{x}{u}{pos}{Q}(I:Inv X pins σ H s)(hg:Gl X x)(hm:X.mg x=w4)(hv:bootBuiltins x=O u)(h:Q u s)
  (hn:x ≠ "__name__" :=by decide) (hd:(x==("__debug__" : Str))=w6:=by decide):Uu (model X.prog X.w) X.A (eval (.Name x pos) X.env) Q E s:=by
 obtain⟨mb,h1,h2⟩:=I.mod.blt;exact Calls.Name_function_global I.ok.kind hg (Calls.loadGlobal_builtin (by rw[I.ok.glob];exact I.mod.glob.keeps I.bk) hm (by rw[I.ok.blt];exact h1.keeps I.bk) ((h2 x hn).trans hv) h) hd
theorem HR   {u}{pos}(hg:Gl X x)(hm:X.mg x=O u)(r:RelV v u)(hd:(x==("__debug__" : Str))=w6:=by decide):PE X (.Name x pos) (tC v):=
 λ_ _ _ H _ I h=>HS I hg hm ⟨v,H,I,r,h⟩ hd
theorem AC   {u}{pos}(hg:Gl X x)(hm:X.mg x=w4)(hv:bootBuiltins x=O u)(r:RelV v u)(hn:x ≠ "__name__" :=by decide)(hd:(x==("__debug__" : Str))=w6:=by decide):PE X (.Name x pos) (tC v):=
 λ_ _ _ H _ I h=>Th I hg hm hv ⟨v,H,I,r,h⟩ hn hd
variable{a b:Us}{ta tb:TE}{pos:Pos}
def PC(X:Cx)(op:CmpOp)(a b:Us)(t:TE):Prop:=
 ∀(pins:List (Uq×Obj))(s:Uo)(σ:St)(H:Hp)(Q:VK),Inv X pins σ H s->t σ H Q ->
  Uu (model X.prog X.w) X.A (eval a X.env) (λv s₁=>Uu (model X.prog X.w) X.A (eval b X.env) (λu s₂=>Uu (model X.prog X.w) X.A (Uw op v u) (EP X pins σ Q) X.xe s₂) X.xe s₁) X.xe s
theorem Oi(b){op}(h:op≠.In)(h2:op≠.NotIn):behindInMarks op b=w6:=by
 have e1:(op==CmpOp.In)=w6:=by lia
 have e2:(op==CmpOp.NotIn)=w6:=by lia
 cases b<;>simp[behindInMarks,e1,e2]
noncomputable def tIsN(ta:TE):TE:=λσ H Q=>ta σ H λx H1=>Q (.bl (decide (x=.non))) H1
noncomputable def Cc(ta:TE):TE:=λσ H Q=>ta σ H λx H1=>Q (.bl (!decide (x=.non))) H1
theorem RelV.none_iff   (r:RelV x v):(v==Value.none)=decide (x=.non):=by
 cases x with
 |non=>cases r;rfl
 |bl _=>cases r;rfl
 |int _=>obtain⟨t,rfl⟩:=r;rfl
 |str _=>obtain⟨t,rfl⟩:=r;rfl
 |byt _=>obtain⟨t,rfl⟩:=r;rfl
 |flt _=>obtain⟨t,rfl⟩:=r;rfl
 |ref _=>cases r;rfl
 |ty _=>cases r;rfl
theorem LG  (ha:PE X a ta):PC X .Is a (.Constant .none j pos') (tIsN ta):=by intro pins s σ H Q I h;refine thn (ha pins s σ H _ I h) λv s1 ⟨x,H1,I1,r1,q1⟩=>?_;exact Constant_none (is_none_gen ⟨.bl _,H1,I1,by rw[r1.none_iff];rfl,q1⟩)
theorem AB  (ha:PE X a ta):PC X .IsNot a (.Constant .none j pos') (Cc ta):=by intro pins s σ H Q I h;refine thn (ha pins s σ H _ I h) λv s1 ⟨x,H1,I1,r1,q1⟩=>?_;exact Constant_none (isnot_none_gen ⟨.bl _,H1,I1,by rw[r1.none_iff];rfl,q1⟩)
noncomputable def tB(t:TE):TT:=λσ H Q=>t σ H λx H1=>∃c,x=.bl c/\Q c H1
theorem C0   (h:PC X op a b t)(h1:behindInMarks op b=w6:=by first|exact Oi _ (by decide) (by decide)|rfl):PE X (.Compare a [op] [b] pos) t:=λpins s σ H Q I hw=>wpAny_Compare1 (h pins s σ H Q I hw) h1
theorem Pz   (h:PC X op a b t)(h1:behindInMarks op b=w6:=by first|exact Oi _ (by decide) (by decide)|rfl):PT X (.Compare a [op] [b] pos) (tB t):=by intro pins s σ H Q I hw;refine wpAny_isTrue_Compare1 (thn (h pins s σ H _ I hw) λv s1 h1=>thn h1 λu s2 h2=>thn h2 λc s3 ⟨x,H1,I1,r1,q1⟩=>?_) h1;obtain⟨d,rfl,q⟩:=q1;cases r1;exact Q4 ⟨H1,I1,q⟩
theorem CZ   (h:PE X e t)(he:∀whole,isTrue e X.env whole=(do let v ←whole;standAt e.pos;holding [v] (truthy v)):=by intro _;rfl):PT X e (tB t):=by intro pins s σ H Q I hw;refine isTrue_plain (thn (h pins s σ H _ I hw) λv s1 ⟨x,H1,I1,r1,q1⟩=>?_) (he _);obtain⟨d,rfl,q⟩:=q1;cases r1;exact Q4 ⟨H1,I1,q⟩
variable{tA tB':TT}{rest:yb}
noncomputable def tAnd(t u:TT):TT:=λσ H Q=>t σ H λc H1=>if c=w5 then u σ H1 Q else Q w6 H1
noncomputable def tOr(t u:TT):TT:=λσ H Q=>t σ H λc H1=>if c=w5 then Q w5 H1 else u σ H1 Q
noncomputable def tNot(t:TT):TT:=λσ H Q=>t σ H λc H1=>Q (!c) H1
theorem AA(ha:PT X a tA):PW X (.BoolOp .And [a] pos) tA:=by
 intro wh pins s σ H Q I h;refine isTrue_and (thn (ha pins s σ H Q I h) λc s1 e=>?_);cases c with
 |true=>exact isTrue_and_nil e
 |false=>exact e
theorem CY(ha:PT X a tA):PW X (.BoolOp .Or [a] pos) tA:=by
 intro wh pins s σ H Q I h;refine isTrue_or (thn (ha pins s σ H Q I h) λc s1 e=>?_);cases c with
 |false=>exact isTrue_or_nil e
 |true=>exact e
theorem CW(ha:PT X a tA)(hb:PW X (.BoolOp .And (b::rest) pos) tB'):PW X (.BoolOp .And (a::b::rest) pos) (tAnd tA tB'):=by
 intro wh pins s σ H Q I h;refine isTrue_and (thn (ha pins s σ H _ I h) λc s1 ⟨H1,I1,q1⟩=>?_);cases c with
 |true=>exact hb wh pins s1 σ H1 Q I1 q1
 |false=>exact⟨H1,I1,q1⟩
theorem Cb(ha:PT X a tA)(hb:PW X (.BoolOp .Or (b::rest) pos) tB'):PW X (.BoolOp .Or (a::b::rest) pos) (tOr tA tB'):=by
 intro wh pins s σ H Q I h;refine isTrue_or (thn (ha pins s σ H _ I h) λc s1 ⟨H1,I1,q1⟩=>?_);cases c with
 |true=>exact⟨H1,I1,q1⟩
 |false=>exact hb wh pins s1 σ H1 Q I1 q1
theorem CV(ha:PT X a tA):PT X (.UnaryOp .Not a pos) (tNot tA):=by intro pins s σ H Q I h;exact isTrue_not (ha pins s σ H _ I h)
noncomputable def CL(ta tb:TE):TE:=λσ H Q=>ta σ H λx H1=>∃c,x=.bl c/\if c=w5 then tb σ H1 Q else Q (.bl w6) H1
noncomputable def tOrV(ta tb:TE):TE:=λσ H Q=>ta σ H λx H1=>∃c,x=.bl c/\if c=w5 then Q (.bl w5) H1 else tb σ H1 Q
noncomputable def CK(ta:TE):TE:=λσ H Q=>ta σ H λx H1=>∃c,x=.bl c/\Q (.bl (!c)) H1
theorem CU  {t}(h:PE X a t):PE X (.BoolOp op [a] pos) t:=λpins s σ H Q I hw=>BoolOp_one (h pins s σ H Q I hw)
theorem CT(ha:PE X a ta)(hb:PE X (.BoolOp .And (b::rest) pos) tb):PE X (.BoolOp .And (a::b::rest) pos) (CL ta tb):=by
 intro pins s σ H Q I h;refine BoolOp_and (thn (ha pins s σ H _ I h) λv s1 ⟨x,H1,I1,r1,q1⟩=>?_);obtain⟨c,rfl,q1⟩:=q1;cases r1;refine Q4 ?_;cases c with
 |true=>exact hb pins s1 σ H1 Q I1 q1
 |false=>exact⟨.bl w6,H1,I1,rfl,q1⟩
theorem CJ(ha:PE X a ta)(hb:PE X (.BoolOp .Or (b::rest) pos) tb):PE X (.BoolOp .Or (a::b::rest) pos) (tOrV ta tb):=by
 intro pins s σ H Q I h;refine BoolOp_or (thn (ha pins s σ H _ I h) λv s1 ⟨x,H1,I1,r1,q1⟩=>?_);obtain⟨c,rfl,q1⟩:=q1;cases r1;refine Q4 ?_;cases c with
 |false=>exact hb pins s1 σ H1 Q I1 q1
 |true=>exact⟨.bl w5,H1,I1,rfl,q1⟩
theorem CS(ha:PE X a ta):PE X (.UnaryOp .Not a pos) (CK ta):=by intro pins s σ H Q I h;refine UnaryOp_ (thn (ha pins s σ H _ I h) λv s1 ⟨x,H1,I1,r1,q1⟩=>?_);obtain⟨c,rfl,q1⟩:=q1;cases r1;exact not_of (Q4 ⟨.bl _,H1,I1,rfl,q1⟩)
noncomputable def tIf(t:TT)(ta tb:TE):TE:=λσ H Q=>t σ H λc H1=>if c=w5 then ta σ H1 Q else tb σ H1 Q
theorem jI  (hc:PT X c tA)(ha:PE X a ta)(hb:PE X b tb):PE X (.IfExp c a b pos) (tIf tA ta tb):=by
 intro pins s σ H Q I h;refine wpAny_IfExp (thn (hc pins s σ H _ I h) λd s1 ⟨H1,I1,q1⟩=>?_);cases d with
 |true=>exact ha pins s1 σ H1 Q I1 q1
 |false=>exact hb pins s1 σ H1 Q I1 q1
end
def SqL(K:Frag)(H:Hp)(a:Uq)(xs:List V):Prop:=
 Rd H a (.lst xs) ∨
  ∃(o:Obj)(its:Array Um)(n:Nat),K.lookup a=O o/\o.cls=.type "list" /\ o.dict=w4/\o.data=.seq its n/\its.size<=Ut/\Vals xs its.toList
def SqT(K:Frag)(H:Hp)(a:Uq)(xs:List V):Prop:=
 Rd H a (.tup xs) ∨
  ∃(o:Obj)(its:Array Um)(n:Nat),K.lookup a=O o/\o.cls=.type "tuple" /\ o.data=.seq its n/\its.size<=Ut/\Vals xs its.toList
noncomputable def absV:Um->Option V
 |.none=>O .non
 |.bool b=>O (.bl b)
 |.int i _=>O (.int i)
 |.str x _=>O (.str x)
 |.bytes b _=>O (.byt b)
 |.float b _=>O (.flt b)
 |.ref a=>O (.ref a)
 |.type n=>O (.ty n)
 |_=>w4
theorem RelV.abs   (r:RelV x u):absV u=O x:=by
 cases x with
 |non=>cases r;rfl
 |bl _=>cases r;rfl
 |int _=>obtain⟨t,rfl⟩:=r;rfl
 |str _=>obtain⟨t,rfl⟩:=r;rfl
 |byt _=>obtain⟨t,rfl⟩:=r;rfl
 |flt _=>obtain⟨t,rfl⟩:=r;rfl
 |ref _=>cases r;rfl
 |ty _=>cases r;rfl
theorem RelV.inj  {u}(r:RelV x u)(q:RelV y u):x=y:=Q3 (r.abs.symm.trans q.abs)
theorem Vals.inj:∀{xs ys}{us},Vals xs us->Vals ys us->xs=ys
 |_,_,_,.nil,.nil=>rfl
 |_,_,_,.cons r t,.cons r' t'=>by rw[r.inj r',Vals.inj t t']
section
variable{X:Cx}{pins:List (Uq×Obj)}{σ:St}{H:Hp}{s:Uo}{a:Uq}{xs ys:List V}
theorem SqL.of{K:Frag}(h:H a=O (.lst xs)):SqL K H a xs:=.inl (.inl h)
theorem SqT.of{K:Frag}(h:H a=O (.tup xs)):SqT K H a xs:=.inl (.inl h)
theorem Inv.list(I:Inv X pins σ H s)(h:SqL X.K H a xs):∃its:yc,Vals xs its/\PlainL s.heap a its.toArray/\xs.length<=Ut:=by
 rcases h with h|⟨o,its,n,hk,hc,hd,hs,hz,r⟩
 .obtain⟨z,its,n,r,e⟩:=h.ok I.hok
  exact⟨its,r,⟨_,n,e,rfl,rfl,rfl⟩,z⟩
 .refine⟨its.toList,r,⟨o,n,I.kIn a o hk,hc,hd,by simpa using hs⟩,?_⟩
  have e:=r.length
  grind
theorem Inv.tuple(I:Inv X pins σ H s)(h:SqT X.K H a xs):∃its:yc,Vals xs its/\IsTup s.heap a its.toArray/\xs.length<=Ut:=by
 rcases h with h|⟨o,its,n,hk,hc,hs,hz,r⟩
 .obtain⟨z,its,r,p⟩:=h.ok I.hok
  exact⟨its,r,p,z⟩
 .refine⟨its.toList,r,⟨o,I.kIn a o hk,hc,n,by simpa using hs⟩,?_⟩
  have e:=r.length;simp_all
theorem Inv.list_inj(I:Inv X pins σ H s)(h:SqL X.K H a xs)(h':SqL X.K H a ys):xs=ys:=by
 obtain⟨its,r,⟨o,n,e,_,_,d⟩,_⟩:=I.list h;obtain⟨its',r',⟨o',n',e',_,_,d'⟩,_⟩:=I.list h';rw[e]at e';cases e';rw[d]at d';injection d' with d1 _;have   :=by simpa using congrArg Array.toList d1
 subst this;exact r.inj r'
theorem Inv.tuple_inj(I:Inv X pins σ H s)(h:SqT X.K H a xs)(h':SqT X.K H a ys):xs=ys:=by
 obtain⟨its,r,⟨o,e,_,n,d⟩,_⟩:=I.tuple h;obtain⟨its',r',⟨o',e',_,n',d'⟩,_⟩:=I.tuple h';rw[e]at e';cases e';rw[d]at d';injection d' with d1 _;have   :=by simpa using congrArg Array.toList d1
 subst this;exact r.inj r'
end
noncomputable abbrev Cx.wish(X:Cx)(E:Um->Uo->Prop):Cx:={X with xe:=E}
noncomputable abbrev Cx.nox(X:Cx):Cx:=X.wish λ_ _=>False
theorem Cx.Ok.wish{X:Cx}(ok:X.Ok)(E):(X.wish E).Ok:=
 ⟨ok.mod,ok.kind,ok.glob,ok.blt,ok.above,ok.inj,ok.has,ok.cab,ok.hd,ok.frames,ok.stk,ok.exf,ok.bs,ok.bsz,ok.noex,ok.exfs,ok.funs,ok.frf⟩
theorem Cx.Ok.unwish{X:Cx}{E}(ok:(X.wish E).Ok):X.Ok:=
 ⟨ok.mod,ok.kind,ok.glob,ok.blt,ok.above,ok.inj,ok.has,ok.cab,ok.hd,ok.frames,ok.stk,ok.exf,ok.bs,ok.bsz,ok.noex,ok.exfs,ok.funs,ok.frf⟩
section
variable{X:Cx}{pins:List (Uq×Obj)}{σ:St}{H:Hp}{s:Uo}{E:Um->Uo->Prop}
theorem Inv.wish(I:Inv X pins σ H s)(E):Inv (X.wish E) pins σ H s:=⟨I.ok.wish E,I.os,I.bare,I.base,I.loc,I.cell,I.free,I.freeC,I.pin,I.hok,I.len⟩
theorem Inv.unwish(I:Inv (X.wish E) pins σ H s):Inv X pins σ H s:=⟨I.ok.unwish,I.os,I.bare,I.base,I.loc,I.cell,I.free,I.freeC,I.pin,I.hok,I.len⟩
theorem SP.unwish    (h:SP (X.wish E) pins D f s'):SP X pins D f s':=by
 cases f with
 |next=>obtain⟨σ',H',I,q⟩:=h;exact⟨σ',H',I.unwish,q⟩
 |brk=>obtain⟨σ',H',I,q⟩:=h;exact⟨σ',H',I.unwish,q⟩
 |cont=>obtain⟨σ',H',I,q⟩:=h;exact⟨σ',H',I.unwish,q⟩
 |ret u=>obtain⟨v,σ',H',I,r,q⟩:=h;exact⟨v,σ',H',I.unwish,r,q⟩
theorem PSs.nox{st}{t}(h:PSs X.nox st t):PSs X st t:=λpins s σ H D I hw=>
 QL (h pins s σ H D (I.wish _) hw) (λ_ _ q=>q.unwish) λ_ _ z=>False.elim z
end
section
variable{X:Cx}{st:Stmt}{rest:List Stmt}{t u:TS}{e:Us}{te:TE}{pos:Pos}
noncomputable def CI:TS:=λD σ H=>D.nx σ H
noncomputable def tSeq(t u:TS):TS:=λD σ H=>t {D with nx:=u D} σ H
theorem A3:PSs X [] CI:=λ_ _ σ H _ I h=>wpAny_execs_nil ⟨σ,H,I,h⟩
theorem jH(h1:PS X st t)(h2:PSs X rest u):PSs X (st::rest) (tSeq t u):=by
 intro pins s σ H D I h;refine wpAny_execs_cons (thn (h1 pins s σ H {D with nx:=u D} I h) λf s1 q=>?_);cases f with
 |next=>obtain⟨σ',H',I',q⟩:=q;exact h2 pins s1 σ' H' D I' q
 |ret v=>exact q
 |brk=>exact q
 |cont=>exact q
theorem A1(h1:PS X st t):PSs X [st] t:=by
 intro pins s σ H D I h;refine wpAny_execs_cons (thn (h1 pins s σ H D I h) λf s1 q=>?_);cases f with
 |next=>exact wpAny_execs_nil q
 |ret v=>exact q
 |brk=>exact q
 |cont=>exact q
theorem Inv.quiet  {σ:St}{H}{s}(I:Inv X pins σ H s):interactive X.env=w6:=by simp[interactive,I.ok.kind]
noncomputable def CH(te:TE):TS:=λD σ H=>te σ H λ_ H1=>D.nx σ H1
theorem HQ(he:PE X e te)(hs:swapsWith e w4 pos.line X.env=pure w6:=by rfl):PS X (.Expr e pos) (CH te):=by intro pins s σ H D I h;exact wpAny_Expr_any (thn (he pins s σ H _ I h) λv s1 ⟨x,H1,I1,r1,q1⟩=>⟨σ,H1,I1,q1⟩) I.quiet hs
noncomputable def tRet(te:TE):TS:=λD σ H=>te σ H D.rt
theorem CQ(he:PE X e te):PS X (.Return (O e) pos) (tRet te):=by intro pins s σ H D I h;exact wpAny_Return_some (thn (he pins s σ H _ I h) λv s1 ⟨x,H1,I1,r1,q1⟩=>⟨x,σ,H1,I1,r1,q1⟩)
noncomputable def tIfS(c:TT)(t u:TS):TS:=λD σ H=>c σ H λb H1=>if b=w5 then t D σ H1 else u D σ H1
theorem CG   {tc}(hc:PT X c tc)(ha:PSs X a t)(hb:PSs X b u):PS X (.If c a b pos) (tIfS tc t u):=by
 intro pins s σ H D I h;refine wpAny_If (thn (hc pins s σ H _ I h) λd s1 ⟨H1,I1,q1⟩=>?_);cases d with
 |true=>exact ha pins s1 σ H1 D I1 q1
 |false=>exact hb pins s1 σ H1 D I1 q1
end
abbrev TG:=V->St->Hp->(St->Hp->Prop)->Prop
abbrev TGs:=List V->St->Hp->(St->Hp->Prop)->Prop
def PG(X:Cx)(target:Us)(t:TG):Prop:=
 ∀(pins:List (Uq×Obj))(s:Uo)(σ:St)(H:Hp)(v:V)(u:Um)(Q:St->Hp->Prop),Inv X pins σ H s->RelV v u->t v σ H Q ->
  Uu (model X.prog X.w) X.A (assign target X.env u) (λ_ s'=>∃σ' H',Inv X pins σ' H' s'/\Q σ' H') X.xe s
def PGs(X:Cx)(ts:yb)(t:TGs):Prop:=
 ∀(pins:List (Uq×Obj))(s:Uo)(σ:St)(H:Hp)(vs:List V)(us:yc)(Q:St->Hp->Prop),Inv X pins σ H s->Vals vs us->t vs σ H Q ->
  Uu (model X.prog X.w) X.A (assignInOrder ((UK ts X.env).map (·.2)) us) (λ_ s'=>∃σ' H',Inv X pins σ' H' s'/\Q σ' H') X.xe s
abbrev TIp:=V->V->Hp->VK->Prop
def PIp(X:Cx)(op:Operator)(t:TIp):Prop:=
 ∀(pins:List (Uq×Obj))(s:Uo)(σ:St)(H:Hp)(x y:V)(v u:Um)(Q:VK),Inv X pins σ H s->RelV x v->RelV y u->t x y H Q ->
  Uu (model X.prog X.w) X.A (inplaceOp op v u) (EP X pins σ Q) X.xe s
section
variable{X:Cx}{pos:Pos}
noncomputable def OR(i:Nat):TG:=λv σ H Q=>Q (σ.set i (O v)) H
theorem WJ   (hN:X.N.Nodup)(hi:X.N[i]?=O x)(hx:Loc X.env.scope x)(hf:X.fn x=w5∨X.env.scope.names.lookup x=O .local:=by first|exact .inl rfl|exact .inr rfl|assumption):PG X (.Name x pos) (OR i):=by intro pins s σ H v u Q I r h;exact wpAny_assign_Name (NU I hN hi hx r (λs' I'=>⟨_,H,I',h⟩) hf)
noncomputable def gNil:TGs:=λvs σ H Q=>vs=[]/\Q σ H
noncomputable def CF(t:TG)(u:TGs):TGs:=λvs σ H Q=>∃v r,vs=v::r/\t v σ H λσ' H'=>u r σ' H' Q
theorem A0:PGs X [] gNil:=by intro pins s σ H vs us Q I r h;obtain⟨e,h⟩:=h;exact assignInOrder_nil ⟨σ,H,I,h⟩
theorem jG   {t}{u}(h1:PG X e t)(h2:PGs X es u)
  (hs:(UK (e::es) X.env).map (·.2)=assign e X.env::(UK es X.env).map (·.2):=by rfl):PGs X (e::es) (CF t u):=by
 intro pins s σ H vs us Q I r h;obtain⟨v,vr,e1,h⟩:=h;subst e1;cases r with
 |cons r rr=>rw[hs];refine assignInOrder_cons (thn (h1 pins s σ H _ _ _ I r h) λ_ s1 ⟨σ1,H1,I1,q1⟩=>?_);exact h2 pins s1 σ1 H1 _ _ Q I1 rr q1
noncomputable def gTup(K:Frag)(n:Nat)(t:TGs):TG:=λv σ H Q=>∃a xs,v=.ref a/\SqT K H a xs/\xs.length=n/\t xs σ H Q
theorem CP  {k}{t}{n}(hc:X.calm=w5)(h:PGs X es t)
  (hn:(UK es X.env).length=n:=by rfl) (hst:(UK es X.env).findIdx? (·.1)=w4:=by rfl):PG X (.Tuple es k pos) (gTup X.K n t):=by
 intro pins s σ H v u Q I r hw;obtain⟨a,xs,e1,hq,hl,hw⟩:=hw;subst e1;cases r;obtain⟨its,rv,ht,hz⟩:=I.tuple hq;refine assign_Tuple_tuple (I.ok.hd hc) ht (by simp[hn,←hl,rv.length]) hst λh' hx=>?_
 have I1   :=I.kept (t':=s.toks) λb o e=>hx b o (QX (Ql e)) e;exact h pins _ σ H xs _ Q I1 (by simpa using rv) hw
noncomputable def tAsg(te:TE)(g:TG):TS:=λD σ H=>te σ H λx H1=>g x σ H1 D.nx
theorem CO{tg e}{te}{g}(he:PE X e te)(hg:PG X tg g)(hs:swapsWithSole [tg] e pos.line X.env=pure w6:=by rfl)(hw:swappedStores [tg] e X.env=pure w4:=by rfl)
  (h1:(UK [tg] X.env).map (·.2)=[assign tg X.env]:=by rfl):PS X (.Assign [tg] e pos) (tAsg te g):=by
 intro pins s σ H D I h;refine wpAny_Assign_stores (thn (he pins s σ H _ I h) λv s1 ⟨x,H1,I1,r1,q1⟩=>?_) hs hw;rw[h1];exact thn (hg pins s1 σ H1 x v _ I1 r1 q1) λ_ s2 q=>q
theorem O4      (hN:X.N.Nodup)(hi:X.N[i]?=O x)(hx:Loc X.env.scope x)(he:PE X e te)(hs:swapsWith e (O (.Name x pos')) pos.line X.env=pure w6:=by rfl)(hf:X.fn x=w5∨X.env.scope.names.lookup x=O .local:=by first|exact .inl rfl|exact .inr rfl|assumption) :
  PS X (.Assign [.Name x pos'] e pos) (tAsg te (OR i)):=by
 intro pins s σ H D I h;refine wpAny_Assign_Name (thn (he pins s σ H _ I h) λv s1 ⟨y,H1,I1,r1,q1⟩=>?_) hs;exact NU I1 hN hi hx r1 (λs2 I2=>⟨_,H1,I2,q1⟩) hf
noncomputable def tAug(i:Nat)(te:TE)(ti:TIp):TS:=λD σ H=>∃x,σ[i]?=O (O x)/\te σ H λy H1=>ti x y H1 λz H2=>D.nx (σ.set i (O z)) H2
theorem CN  {x:Str}{e:Us}{te:TE}{op}{ti:TIp}{pos':Pos}(hN:X.N.Nodup)(hi:X.N[i]?=O x)(hx:Loc X.env.scope x)(he:PE X e te)(ho:PIp X op ti)(hf:X.fn x=w5∨X.env.scope.names.lookup x=O .local:=by first|exact .inl rfl|exact .inr rfl|assumption) :
  PS X (.AugAssign (.Name x pos') op e pos) (tAug i te ti):=by
 intro pins s σ H D I h;obtain⟨v,e1,h⟩:=h;obtain⟨m,hn,hl⟩:=I.loc;have vis:Vis X.env.scope x:=by rcases hx with k|k;exact .inl k;exact .inr (.inl k)
 obtain⟨u,r,l⟩:=hl i x v hi e1 vis;refine wpAny_AugAssign_Name ?_;have go:Uu (model X.prog X.w) X.A (eval e X.env) (λw s₂=>Uu (model X.prog X.w) X.A (inplaceOp op u w) (λr s₃=>Uu (model X.prog X.w) X.A (storeName X.env x r) (λ_=>SP X pins D .next) X.xe s₃) X.xe s₂) X.xe s:=by refine thn (he pins s σ H _ I h) λw s1 ⟨y,H1,I1,r1,q1⟩=>?_;refine thn (ho pins s1 σ H1 v y u w _ I1 r r1 q1) λz s2 ⟨zv,H2,I2,r2,q2⟩=>?_;exact NU I2 hN hi hx r2 (λs3 I3=>⟨_,H2,I3,q2⟩) hf
 rcases l with ⟨hk,hm⟩|⟨hk,c,hc,hcell⟩
 .exact wpAny_loadName_local I.ok.kind hk hn hm go
 .rcases hk with hk|hk
  .exact wpAny_loadName_cell I.ok.kind hk hc hcell go
  .rcases hx with k|k
   .have:X.env.scope.names.lookup x=O .free:=hk
    rw[k]at this;cases this
   .have:X.env.scope.names.lookup x=O .free:=hk
    rw[k]at this;cases this
end
section
variable{X:Cx}{pos:Pos}
noncomputable def CM(c:TT)(tb:TS):TS:=λD σ H=>∃W:Nat->St->Hp->Prop,(∃m,W m σ H)/\∀m σ H,W m σ H ->
 c σ H λb H1=>if b=w5 then ∃N:St->Hp->Prop,(∀σ' H',N σ' H'->∃m',m'<m/\W m' σ' H')/\tb {D with nx:=N,ct:=N,bk:=D.nx} σ H1 else D.nx σ H1
theorem jF   {tc}{tb}(hp:PassesOwn (model X.prog X.w) X.A X.env X.xe)(hc:PT X c tc)(hb:PSs X body tb):PS X (.While c body [] pos) (CM tc tb):=by
 intro pins s σ H D I h;obtain⟨W,⟨m0,w0⟩,turn⟩:=h;refine wpAny_While (codeAny_whileLoop (λn s'=>∃σ' H',Inv X pins σ' H' s'/\W n σ' H') ?_ m0 ⟨σ,H,I,w0⟩);rintro n s1 ⟨σ1,H1,I1,w1⟩;refine Jt hp (thn (hc pins s1 σ1 H1 _ I1 (turn n σ1 H1 w1)) λb s2 ⟨H2,I2,q2⟩=>?_);cases b with
 |true=>
  obtain⟨N,hN,q2⟩:=q2;refine Jt hp (thn (hb pins s2 σ1 H2 _ I2 q2) λf s3 q3=>?_);cases f with
  |next=>obtain⟨σ3,H3,I3,n3⟩:=q3;obtain⟨m',hm,w3⟩:=hN σ3 H3 n3;exact⟨m',hm,σ3,H3,I3,w3⟩
  |cont=>obtain⟨σ3,H3,I3,n3⟩:=q3;obtain⟨m',hm,w3⟩:=hN σ3 H3 n3;exact⟨m',hm,σ3,H3,I3,w3⟩
  |brk=>exact q3
  |ret v=>exact q3
 |false=>exact wpAny_execs_nil ⟨σ1,H2,I2,q2⟩
end
structure It where
 go:Nat->Hp->Prop
 yld:Nat->Hp->V->Hp->Prop
 stop:Nat->Hp->Prop
def ZO(X:Cx)(pins:List (Uq×Obj))(H:Hp)(b:Uq):Prop:=
 H b=w4/\b≠X.env.locals/\b∉X.fs/\(b∈X.ex∨X.s₀.heap.objs.size<=b)/\(∀x c,X.env.cells.lookup x=O c->c≠b)/\∀p∈X.pn++pins,p.1≠b
theorem Inv.fpOk   {σ:St}{H H'}{s}{b:Uq}(I:Inv X pins σ H s)(hb:s.heap.objs.size<=b)(hn:H' b=w4):ZO X pins H' b:=by
 refine⟨hn,JJ (QH I.lt hb),I.nofs hb,.inr (QN I.sz hb),λx c e z=>?_,λp hp z=>?_⟩
 .obtain⟨v,q⟩:=I.cell x c e
  exact absurd (QH q.lt (by rw[z];exact hb)) (Jv _)
 .exact absurd (QH (Ql (I.pin p hp).1) (by rw[z];exact hb)) (Jv _)
structure Turn(P:Up)(w:World)(K:Frag)(tg:Us)(J:It)(fp:ye)(it:Uq)(tn:Nat->Heap->Prop):Prop where
 mem:it∈fp
 obj:∀i h,tn i h->∀b∈fp,∃o,h.get? b=O o/\∀v,o.data≠.cell v
 keep:∀i h h',tn i h->(∀b∈fp,∀o,h.get? b=O o->h'.get? b=O o)->tn i h'
 item:∀(X:Cx),X.prog=P->X.w=w->X.K=K->X.calm=w5->∀(i:Nat)(pins:List (Uq×Obj))(s:Uo)(σ:St)(H:Hp)(E:Um->Uo->Prop),Inv X pins σ H s->(∀b∈fp,ZO X pins H b)->tn i s.heap->J.go i H ->
  Uu (model P w) X.A (pyNext (.ref it)) (λr s1=>∃u,r=O u /\
   Uu (model P w) X.A (letOwnedTupleGo tg (.ref it) u) (λ_ s2=>∃x H',Inv X pins σ H' s2/\RelV x u/\J.yld i H x H'/\tn (i+1) s2.heap/\∀b∈fp,H' b=w4) E s1) E s
 done:∀(X:Cx),X.prog=P->X.w=w->X.K=K->X.calm=w5->∀(i:Nat)(pins:List (Uq×Obj))(s:Uo)(σ:St)(H:Hp)(E:Um->Uo->Prop),Inv X pins σ H s->(∀b∈fp,ZO X pins H b)->tn i s.heap->J.stop i H ->
  Uu (model P w) X.A (pyNext (.ref it)) (λr s1=>r=w4/\Inv X pins σ H s1) E s
 self:∀(A:Around)(i:Nat)(s:Uo)(Q:Um->Uo->Prop)(E:Um->Uo->Prop),tn i s.heap->Q (.ref it) s->Uu (model P w) A (pyIter (.ref it)) Q E s
abbrev TI:=St->Hp->(It->Hp->Prop)->Prop
def PIE(X:Cx)(pins:List (Uq×Obj))(σ:St)(tg:Us)(R:It->Hp->Prop)(itv:Um)(s2:Uo):Prop:=
 ∃(it:Uq)(fp:ye)(tn:Nat->Heap->Prop)(J:It)(H':Hp),itv=.ref it/\Inv X pins σ H' s2/\Turn X.prog X.w X.K tg J fp it tn/\tn 0 s2.heap/\(∀b∈fp,ZO X pins H' b)/\R J H'
def PI(X:Cx)(tg iter:Us)(wi:TI):Prop:=
 ∀(pins:List (Uq×Obj))(s:Uo)(σ:St)(H:Hp)(R:It->Hp->Prop),Inv X pins σ H s->wi σ H R ->
  Uu (model X.prog X.w) X.A (eval iter X.env) (λv s1=>Uu (model X.prog X.w) X.A (pyIter v) (PIE X pins σ tg R) X.xe s1) X.xe s
theorem Pv  {A:Around}{E}{s:Uo}{tg:Us}{it:Uq}{u:Um}{o:Obj}{n:String}{vs}{Q}(ho:s.heap.get? it=O o)(hc:o.cls=.type n)(hd:o.data=.fields vs)
  (hn:["enumerate", "zip", "dict_itemiterator", "dict_reverseitemiterator", "odict_iterator", "itertools.zip_longest", "itertools.pairwise"].contains n=w6) (hQ:Q () s):Uu M A (letOwnedTupleGo tg (.ref it) u) Q E s:=by
 cases tg<;>first
  |exact Qq hQ
  |(cases u<;>first
    |exact Qq hQ
    |(
      refine Qf (wpAny_load ho ?_);rw[hc,hd];show Uu M A (if _=w5 then _ else _) Q E s;rw[Qw (by intro h;rw[hn]at h;cases h)];exact Qq hQ))
noncomputable def Itl(K:Frag)(a:Uq):It:=
 ⟨λi H=>∃xs x,SqL K H a xs/\xs[i]?=O x,λi H x H'=>H'=H/\∀xs,SqL K H a xs->xs[i]?=O x,λi H=>∃xs,SqL K H a xs/\xs.length<=i⟩
noncomputable def Itt(K:Frag)(a:Uq):It:=
 ⟨λi H=>∃xs x,SqT K H a xs/\xs[i]?=O x,λi H x H'=>H'=H/\∀xs,SqT K H a xs->xs[i]?=O x,λi H=>∃xs,SqT K H a xs/\xs.length<=i⟩
noncomputable def Itr(lo:Int)(n:Nat):It:=⟨λi _=>i<n,λi H x H'=>H'=H/\x=.int (lo+i),λi _=>n<=i⟩
theorem xy{P:Up}{w:World}{K}{tg:Us}(a it:Uq):Turn P w K tg (Itl K a) [it] it (λi h=>h.IsListIter it a i) where
 mem:=by simp
 obj:=λi h st b hb=>by
  have e:b=it:=by simpa using hb
  subst e;obtain⟨o,e,c,d⟩:=st;exact⟨o,e,λv z=>by rw[d]at z;cases z⟩
 keep:=λi h h' st k=>st.at λo e=>k it (by simp) o e
 item:=by
  intro X hP hw hK hc i pins s σ H E I hf st hg;subst hP hw hK;obtain⟨xs,x,hq,hx⟩:=hg;obtain⟨its,rv,p,hz⟩:=I.list hq;obtain⟨u,hu,ru⟩:=rv.get hx;obtain⟨f0,f1,f2,f3,f4,f5⟩:=hf it (by simp);refine wpAny_pyNext_list_item st p.isList (x:=u) (by simpa using hu) λh' st' sb=>?_
  have I1   :=I.turned (t':=s.toks) (λb o hb e=>(sb.2 b hb).trans e) f0 f1 f3 f4 f5;obtain⟨o,e,c,d⟩:=id st';exact⟨u,rfl,Pv  e c d (by decide) ⟨x,H,I1,ru,⟨rfl,λys hy=>by rw[I.list_inj hy hq];exact hx⟩,st',λb hb=>(hf b hb).1⟩⟩
 done:=by intro X hP hw hK hc i pins s σ H E I hf st hg;subst hP hw hK;obtain⟨xs,hq,hx⟩:=hg;obtain⟨its,rv,p,hz⟩:=I.list hq;obtain⟨f0,f1,f2,f3,f4,f5⟩:=hf it (by simp);have hl:=rv.length;exact wpAny_pyNext_list_end (I.ok.hd hc) st p.isList (by simp;omega) λh' eb=>⟨rfl,I.turned (t':=s.toks) (λb o hb e=>eb b o hb e) f0 f1 f3 f4 f5⟩
 self:=λ_ _ _ _ _ st h=>wpAny_pyIter_listiter st h
theorem vK{P:Up}{w:World}{K:Frag}{tg:Us}(a it:Uq):Turn P w K tg (Itt K a) [it] it (λi h=>h.IsTupleIter it a i) where
 mem:=by simp
 obj:=λi h st b hb=>by
  have e:b=it:=by simpa using hb
  subst e;obtain⟨o,e,c,d⟩:=st;exact⟨o,e,λv z=>by rw[d]at z;cases z⟩
 keep:=λi h h' st k=>st.at λo e=>k it (by simp) o e
 item:=by
  intro X hP hw hK hc i pins s σ H E I hf st hg;subst hP hw hK;obtain⟨xs,x,hq,hx⟩:=hg;obtain⟨its,rv,p,hz⟩:=I.tuple hq;obtain⟨u,hu,ru⟩:=rv.get hx;obtain⟨f0,f1,f2,f3,f4,f5⟩:=hf it (by simp);refine wpAny_pyNext_tuple_item st (p) (x:=u) (by simpa using hu) λh' st' sb=>?_
  have I1   :=I.turned (t':=s.toks) (λb o hb e=>(sb.2 b hb).trans e) f0 f1 f3 f4 f5;obtain⟨o,e,c,d⟩:=id st';exact⟨u,rfl,Pv  e c d (by decide) ⟨x,H,I1,ru,⟨rfl,λys hy=>by rw[I.tuple_inj hy hq];exact hx⟩,st',λb hb=>(hf b hb).1⟩⟩
 done:=by intro X hP hw hK hc i pins s σ H E I hf st hg;subst hP hw hK;obtain⟨xs,hq,hx⟩:=hg;obtain⟨its,rv,p,hz⟩:=I.tuple hq;obtain⟨f0,f1,f2,f3,f4,f5⟩:=hf it (by simp);have hl:=rv.length;exact wpAny_pyNext_tuple_end (I.ok.hd hc) st (p) (by simp;omega) λh' eb=>⟨rfl,I.turned (t':=s.toks) (λb o hb e=>eb b o hb e) f0 f1 f3 f4 f5⟩
 self:=λ_ _ _ _ _ st h=>wpAny_pyIter_tupleiter st h
theorem vJ{P:Up}{w:World}{K:Frag}{tg:Us}(it:Uq)(lo:Int)(n:Nat):Turn P w K tg (Itr lo n) [it] it (λi h=>IsRangeIter h it (lo+(i:Nat)*1) ((n:Int)-(i:Nat)) 1) where
 mem:=by simp
 obj:=λi h st b hb=>by
  have e:b=it:=by simpa using hb
  subst e;exact⟨_,st,λv z=>by have z'   :=z;cases z'⟩
 keep:=λi h h' st k=>k it (by simp) _ st
 item:=by
  intro X hP hw hK hc i pins s σ H E I hf st hg;subst hP hw hK;obtain⟨f0,f1,f2,f3,f4,f5⟩:=hf it (by simp);have W:=Walks.range (prog:=X.prog) (w:=X.w) (I.ok.hd hc) it lo 1 n;refine W.item i s _ _ hg st λv h' tk hv st' kk=>?_
  obtain⟨t,rfl⟩:=hv;have I1:Inv X pins σ H {s with heap:=h',toks:=tk}:=I.turned (λb o hb e=>kk b o (by simpa using hb) e) f0 f1 f3 f4 f5;refine⟨_,rfl,Pv   st' wZ wZ (by decide) ⟨.int (lo+i),H,I1,⟨t,?_⟩,⟨rfl,rfl⟩,st',λb hb=>(hf b hb).1⟩⟩;rw[Int.mul_one]
 done:=by intro X hP hw hK hc i pins s σ H E I hf st hg;obtain⟨f0,f1,f2,f3,f4,f5⟩:=hf it (by simp);exact wpAny_pyNext_range_end (I.ok.hd hc) st (by have:n<=i:=hg;omega) λh' eb=>⟨rfl,I.turned (t':=s.toks) (λb o hb e=>eb b o hb e) f0 f1 f3 f4 f5⟩
 self:=λ_ _ _ _ _ st h=>wpAny_pyIter_rangeiter st h
section
variable{X:Cx}{tg:Us}
theorem GU  {σ:St}{H:Hp}{s}{R}{E}{lo hi:Int}{t u v:Tok}{tk:Nat}(I:Inv X pins σ H s)(h1 : -(2 ^ 62)<=lo)(h2:lo<2 ^ 62)(h3 : -(2 ^ 62)<=hi)(h4:hi<2 ^ 62)
  (q:R (Itr lo (hi-lo).toNat) H):Uu (model X.prog X.w) X.A (pyIter (.ref s.heap.objs.size)) (PIE X pins σ tg R) E {s with heap:=s.heap.push {cls:=.type "range", data:=.fields #[.int lo t,.int hi u,.int 1 v]},toks:=tk}:=by
 refine wpAny_pyIter_range (IsRange.new ..) (small_one h1 h2 h3 h4) ?_;have I1:Inv X pins σ H {s with heap:=s.heap.push {cls:=.type "range", data:=.fields #[.int lo t,.int hi u,.int 1 v]},toks:=tk}:=I.kept λb o e=>Qm _ e
 refine⟨(s.heap.push {cls:=.type "range", data:=.fields #[.int lo t,.int hi u,.int 1 v]}).objs.size,[(s.heap.push {cls:=.type "range", data:=.fields #[.int lo t,.int hi u,.int 1 v]}).objs.size],_,_,H,rfl,
  I1.kept  λb o e=>Qm _ e,vJ _ lo (hi-lo).toNat,?_,λb hb=>?_,q⟩
 .have e1:lo+((0:Nat):Int)*1=lo:=by simp
  have e2:(((hi-lo).toNat:Nat):Int)-((0:Nat):Int)=Builtin.Range.rangeSize lo hi 1:=by rw[rangeSize_one];split<;>omega
  rw[e1,e2];exact QD _ wZ
 .have e:b=(s.heap.push {cls:=.type "range", data:=.fields #[.int lo t,.int hi u,.int 1 v]}).objs.size:=by simpa using hb
  subst e;exact I1.fpOk (Qv _) (I1.hok.fresh (Qv _))
noncomputable def CD(ta:TA):TI:=λσ H R=>ta σ H λvs H1=>∃j:Int,vs=[.int j] /\ -(2 ^ 62)<=j/\j<2 ^ 62/\R (Itr 0 j.toNat) H1
noncomputable def CC(ta:TA):TI:=λσ H R=>ta σ H λvs H1=>∃i j:Int,vs=[.int i,.int j]/\(-(2 ^ 62)<=i/\i<2 ^ 62 /\ -(2 ^ 62)<=j/\j<2 ^ 62)/\R (Itr i (j-i).toNat) H1
theorem xx    (hg:Gl X "range")(hm:X.mg "range" = w4)(ha:PA X [a] ta)(hs:Uv [a] X.env=[(w6,eval a X.env)]:=by rfl):PI X tg (.Call (.Name "range" p) [a] [] pos) (CD ta):=by
 intro pins s σ H R I h;refine Call_ (Th I hg hm boot_range (PyProof.Rows.callWith_type1 (thn (ha pos pins s σ H _ I h) λus s1 ⟨vs,H1,I1,r1,q1⟩=>?_) hs wZ));obtain⟨j,e,q1,q2,q⟩:=q1;subst e;cases r1 with
 |cons r rr=>cases rr;obtain⟨t,rfl⟩:=r;exact call_range_1 (GU I1 (by omega) (by omega) q1 q2 (by simp_all))
theorem xw   {p pos}(hg:Gl X "range")(hm:X.mg "range" = w4)(ha:PA X [a,b] ta)(hs:Uv [a,b] X.env=[(w6,eval a X.env),(w6,eval b X.env)]:=by rfl)(hs2:Uv [b] X.env=[(w6,eval b X.env)]:=by rfl) :
  PI X tg (.Call (.Name "range" p) [a,b] [] pos) (CC ta):=by
 intro pins s σ H R I h;refine Call_ (Th I hg hm boot_range (PyProof.Rows.callWith_type1 (thn (ha pos pins s σ H _ I h) λus s1 ⟨vs,H1,I1,r1,q1⟩=>?_) (by simp_all) (by rw[hs2];rfl)));obtain⟨i,j,e,⟨q1,q2,q3,q4⟩,q⟩:=q1;subst e;cases r1 with
 |cons r rr=>
  cases rr with
  |cons r' rr=>cases rr;obtain⟨t,rfl⟩:=r;obtain⟨t',rfl⟩:=r';exact call_range_2 (GU I1 q1 q2 q3 q4 q)
noncomputable def tFor(wi:TI)(g:TG)(tb:TS):TS:=λD σ H=>wi σ H λJ H1=>∃W:Nat->Nat->St->Hp->Prop,(∃m,W 0 m σ H1)/\∀i m σ H,W i m σ H ->
 (J.stop i H/\D.nx σ H)∨(J.go i H/\∃N:St->Hp->Prop,(∀σ' H',N σ' H'->∃m',m'<m/\W (i+1) m' σ' H')/\∀x H',J.yld i H x H'->g x σ H' λσ2 H2=>tb {D with nx:=N,ct:=N,bk:=D.nx} σ2 H2)
noncomputable def PP(fp:ye)(h:Heap):List (Uq×Obj):=fp.filterMap λb=>(h.get? b).map λo=>(b,o)
theorem OF   {b}{o}(hb:b∈fp)(e:h.get? b=O o):(b,o)∈PP fp h:=List.mem_filterMap.mpr ⟨b,hb,by simp_all⟩
theorem vf    (hp:p∈PP fp h):p.1∈fp/\h.get? p.1=O p.2:=by
 obtain⟨b,hb,e⟩:=Jq.mp hp;cases q:h.get? b with
 |none=>simp_all
 |some o=>rw[q]at e;have e'   :=Q3 e;subst e';exact⟨hb,q⟩
theorem Inv.pinned  {σ:St}{H}{s}{fp}(I:Inv X pins σ H s)(hf:∀b∈fp,ZO X pins H b)(ho:∀b∈fp,∃o,s.heap.get? b=O o/\∀v,o.data≠.cell v):Inv X (pins++PP fp s.heap) σ H s:=
 I.pins_of λp hp=>(QI.mp hp).elim (λz=>I.pin p (QJ _ z)) λz=>by obtain⟨hb,e⟩:=vf z;obtain⟨f0,f1,f2,_⟩:=hf p.1 hb;obtain⟨o,e',d⟩:=ho p.1 hb;rw[e]at e';cases e';exact⟨e,f0,f1,f2,d⟩
theorem Inv.unpinned  {σ:St}{H}{s}(I:Inv X (pins++pl) σ H s):Inv X pins σ H s:=I.pins_of λp hp=>I.pin p (QJ _ (Q9 _ hp))
theorem BA{iter:Us}{body:List Stmt}{wi:TI}{g:TG}{tb:TS}{pos:Pos}(hp:PassesOwn (model X.prog X.w) X.A X.env X.xe)(hc:X.calm=w5)(hi:PI X tg iter wi)(hg:PG X tg g)(hb:PSs X body tb)
  (hs:∀x,UL iter X.env x=pure x:=by intro _;rfl):PS X (.For tg iter body [] pos) (tFor wi g tb):=by
 intro pins s σ H D I h;refine wpAny_For (thn (hi pins s σ H _ I h) λv s1 h1=>thn h1 λitv s2 h2=>?_) hs;obtain⟨it,fp,tn,J,H2,e,I2,T,st2,f2,W,⟨m0,w0⟩,turn⟩:=h2;subst e;have stat:∀{H':Hp},(∀b∈fp,H' b=w4)->∀b∈fp,ZO X pins H' b:=λhn b hb=>⟨hn b hb,(f2 b hb).2⟩;refine codeAny_forLoop_any (λn s'=>∃i σ' H',Inv X pins σ' H' s'/\tn i s'.heap/\(∀b∈fp,H' b=w4)/\W i n σ' H') ?_ m0 ⟨0,σ,H2,I2,st2,λb hb=>(f2 b hb).1,w0⟩;rintro n s3 ⟨i,σ3,H3,I3,st3,fr3,w3⟩;rcases turn i n σ3 H3 w3 with ⟨stop,qn⟩|⟨go,N,hN,step⟩
 .refine Jt hp (thn (T.done X wZ wZ wZ hc i pins s3 σ3 H3 X.xe I3 (stat fr3) st3 stop) λr s4 ⟨hr,I4⟩=>?_)
  subst hr;exact wpAny_execs_nil ⟨σ3,H3,I4,qn⟩
 .refine Jt hp (thn (T.item X wZ wZ wZ hc i pins s3 σ3 H3 X.xe I3 (stat fr3) st3 go) λr s4 ⟨u,hr,h4⟩=>?_)
  subst hr;refine Jt hp (thn h4 λ_ s5 ⟨x,H5,I5,r5,y5,yC,fr5⟩=>?_);have I5':=I5.pinned (stat fr5) (T.obj _ _ yC);refine Jt hp (thn (hg _ s5 σ3 H5 x u _ I5' r5 (step x H5 y5)) λ_ s6 ⟨σ6,H6,I6,q6⟩=>?_);refine Jt hp (thn (hb _ s6 σ6 H6 _ I6 q6) λf s7 q7=>?_);have again:∀{σ7:St}{H7:Hp},Inv X _ σ7 H7 s7->N σ7 H7->∃m,m<n/\∃i σ' H',Inv X pins σ' H' s7/\tn i s7.heap/\(∀b∈fp,H' b=w4)/\W i m σ' H':=λ{σ7 H7} I7 n7=>by obtain⟨m',hm,w7⟩:=hN σ7 H7 n7;refine⟨m',hm,i+1,σ7,H7,I7.unpinned,T.keep _ _ _ yC λb hb o e=>(I7.pin (b,o) (QJ _ (QJ _ (OF hb e)))).1,λb hb=>?_,w7⟩;obtain⟨o,e,d⟩:=T.obj _ _ yC b hb;exact(I7.pin (b,o) (QJ _ (QJ _ (OF hb e)))).2.1
  cases f with
  |next=>obtain⟨σ7,H7,I7,n7⟩:=q7;exact again I7 n7
  |cont=>obtain⟨σ7,H7,I7,n7⟩:=q7;exact again I7 n7
  |brk=>obtain⟨σ7,H7,I7,q7⟩:=q7;exact⟨σ7,H7,I7.unpinned,q7⟩
  |ret v=>obtain⟨x7,σ7,H7,I7,r7,q7⟩:=q7;exact⟨x7,σ7,H7,I7.unpinned,r7,q7⟩
end
abbrev R2:=V->V->Hp->VK->Prop
def OpR(X:Cx)(f:Um->Um->Sem Um)(r:R2):Prop:=
 ∀(pins:List (Uq×Obj))(s:Uo)(σ:St)(H:Hp)(x y:V)(v u:Um)(Q:VK),Inv X pins σ H s->RelV x v->RelV y u->r x y H Q ->
  Uu (model X.prog X.w) X.A (f v u) (EP X pins σ Q) X.xe s
def UnR(X:Cx)(f:Um->Sem Um)(r:V->Hp->VK->Prop):Prop:=
 ∀(pins:List (Uq×Obj))(s:Uo)(σ:St)(H:Hp)(x:V)(v:Um)(Q:VK),Inv X pins σ H s->RelV x v->r x H Q ->
  Uu (model X.prog X.w) X.A (f v) (EP X pins σ Q) X.xe s
def Y6(X:Cx)(f:Um)(r:List V->Hp->VK->Prop):Prop:=
 ∀(pins:List (Uq×Obj))(s:Uo)(σ:St)(H:Hp)(xs:List V)(us:yc)(Q:VK),Inv X pins σ H s->Vals xs us->r xs H Q ->
  Uu (model X.prog X.w) X.A (call f us) (EP X pins σ Q) X.xe s
def TruR(X:Cx)(r:V->Hp->(Bool->Hp->Prop)->Prop):Prop:=
 ∀(pins:List (Uq×Obj))(s:Uo)(σ:St)(H:Hp)(x:V)(v:Um)(Q:Bool->Hp->Prop),Inv X pins σ H s->RelV x v->r x H Q ->
  Uu (model X.prog X.w) X.A (truthy v) (TP X pins σ Q) X.xe s
noncomputable def tOp(r:R2)(ta tb:TE):TE:=λσ H Q=>ta σ H λx H1=>tb σ H1 λy H2=>r x y H2 Q
noncomputable def tUn(r:V->Hp->VK->Prop)(ta:TE):TE:=λσ H Q=>ta σ H λx H1=>r x H1 Q
noncomputable def rI(C:Int->Int->Prop)(g:Int->Int->V):R2:=λx y H Q=>∃i j,x=.int i/\y=.int j/\C i j/\Q (g i j) H
noncomputable def rI0(g:Int->Int->V):R2:=λx y H Q=>∃i j,x=.int i/\y=.int j/\Q (g i j) H
noncomputable def rU(g:Int->V):V->Hp->VK->Prop:=λx H Q=>∃i,x=.int i/\Q (g i) H
section
variable{X:Cx}{a b c:Us}{ta tb tc:TE}{pos:Pos}
theorem SB(ha:PE X a ta)(hb:PE X b tb){pins}{s}{σ:St}{H}{R:V->V->Hp->Prop}(I:Inv X pins σ H s)
  (h:ta σ H λx H1=>tb σ H1 λy H2=>R x y H2) {Q} {f:Um->Um->Sem Um}
  (hf:∀v u s2 x y H2,Inv X pins σ H2 s2->RelV x v->RelV y u->R x y H2->Uu (model X.prog X.w) X.A (f v u) Q X.xe s2) :
  Uu (model X.prog X.w) X.A (eval a X.env) (λv s₁=>Uu (model X.prog X.w) X.A (eval b X.env) (λu s₂=>Uu (model X.prog X.w) X.A (f v u) Q X.xe s₂) X.xe s₁) X.xe s:=by
 refine thn (ha pins s σ H _ I h) λv s1 ⟨x,H1,I1,r1,q1⟩=>?_;refine thn (hb pins s1 σ H1 _ I1 q1) λu s2 ⟨y,H2,I2,r2,q2⟩=>?_;exact hf v u s2 x y H2 I2 r1 r2 q2
theorem M6   (ho:OpR X (binaryOp op) r)(ha:PE X a ta)(hb:PE X b tb):PE X (.BinOp a op b pos) (tOp r ta tb):=by intro pins s σ H Q I h;exact wpAny_BinOp (SB ha hb I h λv u s2 x y H2 I2 rx ry q=>ho pins s2 σ H2 x y v u Q I2 rx ry q)
theorem CB   (ho:UnR X (unaryOp op) r)(ha:PE X a ta):PE X (.UnaryOp op a pos) (tUn r ta):=by intro pins s σ H Q I h;exact UnaryOp_ (thn (ha pins s σ H _ I h) λv s1 ⟨x,H1,I1,r1,q1⟩=>ho pins s1 σ H1 x v Q I1 r1 q1)
theorem opI  {C}{g:Int->Int->Int}
  (rule:∀(i j)(t u)(s)(Q)(E),C i j->Q (.int (g i j) s.toks) {s with toks:=s.toks+1}->Uu (model X.prog X.w) X.A (f (.int i t) (.int j u)) Q E s) :
  OpR X f (rI C λi j=>.int (g i j)):=by
 intro pins s σ H x y v u Q I rx ry h;obtain⟨i,j,rfl,rfl,hc,q⟩:=h;obtain⟨t,rfl⟩:=rx;obtain⟨t',rfl⟩:=ry;exact rule i j t t' s _ _ hc ⟨.int _,H,I.tok _,⟨_,rfl⟩,q⟩
theorem opI0  {g:Int->Int->Int}
  (rule:∀(i j)(t u)(s)(Q)(E),Q (.int (g i j) s.toks) {s with toks:=s.toks+1}->Uu (model X.prog X.w) X.A (f (.int i t) (.int j u)) Q E s) :
  OpR X f (rI0 λi j=>.int (g i j)):=by
 intro pins s σ H x y v u Q I rx ry h;obtain⟨i,j,rfl,rfl,q⟩:=h;obtain⟨t,rfl⟩:=rx;obtain⟨t',rfl⟩:=ry;exact rule i j t t' s _ _ ⟨.int _,H,I.tok _,⟨_,rfl⟩,q⟩
theorem W3  {g:Int->Int->Bool}
  (rule:∀(i j)(t u)(s)(Q)(E),Q (.bool (g i j)) s->Uu (model X.prog X.w) X.A (f (.int i t) (.int j u)) Q E s) :
  OpR X f (rI0 λi j=>.bl (g i j)):=by
 intro pins s σ H x y v u Q I rx ry h;obtain⟨i,j,rfl,rfl,q⟩:=h;obtain⟨t,rfl⟩:=rx;obtain⟨t',rfl⟩:=ry;exact rule i j t t' s _ _ ⟨.bl _,H,I,rfl,q⟩
def CPow(i j:Int):Prop:=0<=j/\j<=1000000/\i.natAbs<2 ^ 64
def CMul(i j:Int):Prop:=(-(2 ^ 64)<i/\i<2 ^ 64)∨(-(2 ^ 64)<j/\j<2 ^ 64)
theorem CMul.ok  (h:CMul i j):IntMulOk i j:=by
 rcases h with ⟨h1,h2⟩|⟨h1,h2⟩
 .exact .of_left (intBits_le_64 h1 h2)
 .exact .of_right (intBits_le_64 h1 h2)
theorem Bz:OpR X (binaryOp .Add) (rI0 λi j=>.int (i+j)):=opI0 λ_ _ _ _ _ _ _ q=>add_int q
theorem By:OpR X (binaryOp .Sub) (rI0 λi j=>.int (i-j)):=opI0 λ_ _ _ _ _ _ _ q=>sub_int q
theorem Bx:OpR X (binaryOp .Mult) (rI CMul λi j=>.int (i*j)):=opI λ_ _ _ _ _ _ _ hc q=>mul_int q hc.ok
theorem Bw:OpR X (binaryOp .Mod) (rI (λ_ j=>0<j) λi j=>.int (i % j)):=opI λi j _ _ _ _ _ hc q=>by exact mod_int' (by omega) (by rw[Int.fmod_eq_emod_of_nonneg i (by omega)];exact q)
theorem Bv:OpR X (binaryOp .Pow) (rI CPow λi j=>.int (i ^ j.toNat)):=opI λ_ _ _ _ _ _ _ hc q=>pow_int_small hc.1 hc.2.1 hc.2.2 q
theorem AZ:OpR X (inplaceOp .Mult) (rI CMul λi j=>.int (i*j)):=opI λ_ _ _ _ _ _ _ hc q=>imul_int q hc.ok
theorem unI  {g:Int->Int}
  (rule:∀(i)(t)(s)(Q)(E),Q (.int (g i) s.toks) {s with toks:=s.toks+1}->Uu (model X.prog X.w) X.A (f (.int i t)) Q E s) :
  UnR X f (rU λi=>.int (g i)):=by
 intro pins s σ H x v Q I rx h;obtain⟨i,rfl,q⟩:=h;obtain⟨t,rfl⟩:=rx;exact rule i t s _ _ ⟨.int _,H,I.tok _,⟨_,rfl⟩,q⟩
theorem Bu:UnR X (unaryOp .USub) (rU λi=>.int (-i)):=unI λ_ _ _ _ _ q=>neg_int q
end
section
variable{X:Cx}{a b c:Us}{ta tb tc:TE}{pos:Pos}
theorem LF  {σ:St}{H}{s}{Q}{k k'}(I:Inv X pins σ H s)(q:Q (.bl k) H)(e:k=k'):EP X pins σ Q (.bool k') s:=by subst e;exact⟨.bl k,H,I,rfl,q⟩
theorem Ds:OpR X (Uw .Lt) (rI0 λi j=>.bl (decide (i<j))):=W3 λ_ _ _ _ _ _ _ q=>lt_int q
theorem Dr:OpR X (Uw .LtE) (rI0 λi j=>.bl (decide (i<=j))):=W3 λ_ _ _ _ _ _ _ q=>le_int q
theorem Dq:OpR X (Uw .Gt) (rI0 λi j=>.bl (decide (j<i))):=W3 λ_ _ _ _ _ _ _ q=>gt_int q
theorem Dp:OpR X (Uw .GtE) (rI0 λi j=>.bl (decide (j<=i))):=W3 λ_ _ _ _ _ _ _ q=>ge_int q
theorem ve:OpR X (Uw .In) (λx y H Q=>∃i j,x=.str i/\y=.str j/\Q (.bl (!(Builtin.Str.occurrences j i 0 j.length 1).isEmpty)) H):=by intro pins s σ H x y v u Q I rx ry h;obtain⟨i,j,rfl,rfl,q⟩:=h;obtain⟨t,rfl⟩:=rx;obtain⟨t',rfl⟩:=ry;exact in_str (LF I q wZ)
theorem wM:OpR X (Uw .NotIn) (λx y H Q=>∃i j,x=.str i/\y=.str j/\Q (.bl (!(!(Builtin.Str.occurrences j i 0 j.length 1).isEmpty))) H):=by intro pins s σ H x y v u Q I rx ry h;obtain⟨i,j,rfl,rfl,q⟩:=h;obtain⟨t,rfl⟩:=rx;obtain⟨t',rfl⟩:=ry;exact notIn_str (LF I q wZ)
theorem OpR.or   (h:OpR X f r)(h':OpR X f r'):OpR X f (λx y H Q=>r x y H Q∨r' x y H Q):=by
 intro pins s σ H x y v u Q I rx ry q;rcases q with q|q
 .exact h pins s σ H x y v u Q I rx ry q
 .exact h' pins s σ H x y v u Q I rx ry q
theorem O7(b){op}(h:op≠.In:=by decide)(h2:op≠.NotIn:=by decide):behindInMarks op b=w6:=by
 have e1:(op==CmpOp.In)=w6:=by lia
 have e2:(op==CmpOp.NotIn)=w6:=by lia
 cases b<;>simp[behindInMarks,e1,e2]
theorem HY   (ho:OpR X (Uw op) r)(ha:PE X a ta)(hb:PE X b tb)(hm:behindInMarks op b=w6):PE X (.Compare a [op] [b] pos) (tOp r ta tb):=by intro pins s σ H Q I h;exact wpAny_Compare1 (SB ha hb I h λv u s2 x y H2 I2 rx ry q=>ho pins s2 σ H2 x y v u Q I2 rx ry q) hm
noncomputable def M5(t:TE):TT:=λσ H Q=>t σ H λx H'=>∃k,x=.bl k/\Q k H'
theorem Nn   (ho:OpR X (Uw op) r)(ha:PE X a ta)(hb:PE X b tb)(hm:behindInMarks op b=w6):PT X (.Compare a [op] [b] pos) (M5 (tOp r ta tb)):=by
 intro pins s σ H Q I h
 refine wpAny_isTrue_Compare1 (thn (ha pins s σ H _ I h) λv s1 ⟨x,H1,I1,r1,q1⟩=>thn (hb pins s1 σ H1 _ I1 q1) λu s2 ⟨y,H2,I2,r2,q2⟩=>
  thn (ho pins s2 σ H2 x y v u _ I2 r1 r2 q2) λc s3 ⟨z,H3,I3,r3,k,e,q3⟩=>?_) hm
 subst e;cases r3;exact Q4 ⟨H3,I3,q3⟩
noncomputable def LD(r r':R2)(ta tb tc:TE):TE:=λσ H Q=>ta σ H λx H1=>tb σ H1 λy H2=>r x y H2 λz H3=>∃k,z=.bl k /\
 (if k=w5 then tc σ H3 λw' H4=>r' y w' H4 Q else Q (.bl w6) H3)
theorem jE  {r r'}(ho:OpR X (Uw op) r)(ho':OpR X (Uw op') r')(ha:PE X a ta)(hb:PE X b tb)(hc:PE X c tc)
  (hm:lastMarks [op,op'] [b,c]=w6:=by with_unfolding_all rfl):PE X (.Compare a [op,op'] [b,c] pos) (LD r r' ta tb tc):=by
 intro pins s σ H Q I h
 refine Compare_chain (thn (ha pins s σ H _ I h) λv s1 ⟨x,H1,I1,r1,q1⟩=>chain_link (thn (hb pins s1 σ H1 _ I1 q1) λu s2 ⟨y,H2,I2,r2,q2⟩=>
  thn (ho pins s2 σ H2 x y v u _ I2 r1 r2 q2) λd s3 ⟨z,H3,I3,r3,k,e,q3⟩=>?_)) hm
 subst e;cases r3;refine Q4 ?_;cases k with
 |false=>exact ite_ff ⟨.bl w6,H3,I3,rfl,q3⟩
 |true=>exact ite_tt (chain_last (thn (hc pins s3 σ H3 _ I3 q3) λw' s4 ⟨z',H4,I4,r4,q4⟩=>ho' pins s4 σ H4 y z' u w' Q I4 r2 r4 q4))
theorem jD  {r r'}(ho:OpR X (Uw op) r)(ho':OpR X (Uw op') r')(ha:PE X a ta)(hb:PE X b tb)(hc:PE X c tc)
  (hm:lastMarks [op,op'] [b,c]=w6:=by with_unfolding_all rfl):PT X (.Compare a [op,op'] [b,c] pos) (M5 (LD r r' ta tb tc)):=by
 intro pins s σ H Q I h
 refine isTrue_chain (thn (ha pins s σ H _ I h) λv s1 ⟨x,H1,I1,r1,q1⟩=>test_link (thn (hb pins s1 σ H1 _ I1 q1) λu s2 ⟨y,H2,I2,r2,q2⟩=>
  thn (ho pins s2 σ H2 x y v u _ I2 r1 r2 q2) λd s3 ⟨z,H3,I3,r3,k,e,q3⟩=>?_)) hm
 subst e;cases r3;refine Q4 ?_;cases k with
 |false=>obtain⟨k',e',q'⟩:=q3;cases e';exact ite_ff ⟨H3,I3,q'⟩
 |true=>refine ite_tt (test_last (thn (hc pins s3 σ H3 _ I3 q3) λw' s4 ⟨z',H4,I4,r4,q4⟩=>thn (ho' pins s4 σ H4 y z' u w' _ I4 r2 r4 q4) λd' s5 ⟨z2,H5,I5,r5,k2,e2,q5⟩=>?_));subst e2;cases r5;exact Q4 ⟨H5,I5,q5⟩
def TruV(K:Frag)(x:V)(H:Hp)(k:Bool):Prop:=
 match x with
 |.non=>k=w6
 |.bl b=>k=b
 |.int i=>k=(i != 0)
 |.str y=>y.length<=Ut/\k=((y.length:Int) != 0)
 |.byt y=>y.size<=Ut/\k=((y.size:Int) != 0)
 |.ref p=>(∃xs,SqL K H p xs/\k = !xs.isEmpty)∨(∃xs,SqT K H p xs/\k = !xs.isEmpty) ∨ ∃kvs,H p=O (.dK kvs)/\k = !kvs.isEmpty
 |_=>False
theorem vI  {kvs:List (κ×V)}{vs}(r:KV kvs vs):(!vs.isEmpty) = !kvs.isEmpty:=by cases r<;>rfl
theorem Ey   (r:Vals xs its):(!its.toArray.isEmpty) = !xs.isEmpty:=by cases r<;>simp
theorem PN:(Ut:Nat)<2 ^ 63:=by rw[sizeLine_eq];decide
theorem Bt:TruR X (λx H Q=>∃k,TruV X.K x H k/\Q k H):=by
 intro pins s σ H x v Q I rx h;obtain⟨k,e,q⟩:=h;have hl:=PN;have hs:Ut=16777216:=sizeLine_eq;cases x with
 |non=>cases rx;have e':k=w6:=e;subst e';exact truthy_none ⟨H,I,q⟩
 |bl b=>cases rx;have e':k=b:=e;subst e';exact Q4 ⟨H,I,q⟩
 |int i=>obtain⟨t,rfl⟩:=rx;have e':k=(i != 0):=e;subst e';exact PySem.P.truthy_int ⟨H,I,q⟩
 |str y=>obtain⟨t,rfl⟩:=rx;obtain⟨hy,e'⟩:y.length<=Ut/\k=((y.length:Int) != 0):=e;subst e';exact PySem.P.truthy_str (by omega) ⟨H,I.tok _,q⟩
 |byt y=>obtain⟨t,rfl⟩:=rx;obtain⟨hy,e'⟩:y.size<=Ut/\k=((y.size:Int) != 0):=e;subst e';exact PySem.W.truthy_bytes (by omega) ⟨H,I.tok _,q⟩
 |ref p=>
  cases rx;have e'   :=e;rcases e' with ⟨xs,hx,e'⟩|⟨xs,hx,e'⟩|⟨kvs,hx,e'⟩
  .subst e'
   obtain⟨its,r,pl,hz⟩:=I.list hx;have hlen:=r.length;exact wpAny_truthy_list pl.isList (by simp only[Jf];omega) ⟨H,I.tok _,by rw[Ey r];exact q⟩
  .subst e'
   obtain⟨its,r,pl,hz⟩:=I.tuple hx;have hlen:=r.length;exact truthy_tuple pl (by simp only[Jf];omega) ⟨H,I.tok _,by rw[Ey r];exact q⟩
  .subst e'
   obtain⟨hz,hS,vs,r,m⟩:kvs.length<=Ut/\(p==sysModules)=w6/\∃vs,KV kvs vs/\s.heap.DictOf (Y7 X.prog X.w) p vs:=I.hok p _ hx;have hlen:kvs.length=vs.length:=Paired.length r;exact wpAny_truthy_dict hS m (by omega) ⟨H,I.tok _,by rw[vI r];exact q⟩
 |_=>exact(show False from e).elim
theorem jC(ha:PE X a ta)(he:∀whole,isTrue a X.env whole=(do let v ←whole;standAt a.pos;holding [v] (truthy v))) :
  PT X a (λσ H Q=>ta σ H λx H'=>∃k,TruV X.K x H' k/\Q k H'):=by
 intro pins s σ H Q I h;exact isTrue_plain (thn (ha pins s σ H _ I h) λv s1 ⟨x,H1,I1,r1,q1⟩=>Bt pins s1 σ H1 x v Q I1 r1 q1) (he _)
theorem vH:OpR X (binaryOp .Add) (λx y H Q=>∃i j,x=.str i/\y=.str j/\i.length+j.length<=Ut/\Q (.str (i++j)) H):=by intro pins s σ H x y v u Q I rx ry h;obtain⟨i,j,rfl,rfl,hz,q⟩:=h;obtain⟨t,rfl⟩:=rx;obtain⟨t',rfl⟩:=ry;exact add_str (λt' tk=>⟨.str _,H,I.tok _,⟨_,rfl⟩,q⟩) hz
theorem Pu   (r:Vals [x] us):∃u,us=[u]/\RelV x u:=by
 cases r with
 |cons r1 r2=>cases r2;exact⟨_,rfl,r1⟩
theorem OQ   (r:Vals [x,y] us):∃u w',us=[u,w']/\RelV x u/\RelV y w':=by
 cases r with
 |cons r1 r2=>
  cases r2 with
  |cons r3 r4=>cases r4;exact⟨_,_,rfl,r1,r3⟩
theorem vd(hc:X.calm=w5):Y6 X (.builtin "max") (λxs H Q=>∃i j,xs=[.int i,.int j]/\Q (.int (if j > i then j else i)) H):=by
 intro pins s σ H xs us Q I r h;obtain⟨i,j,rfl,q⟩:=h;obtain⟨u,w',rfl,⟨t,rfl⟩,⟨t',rfl⟩⟩:=OQ r;refine max_two_ints (I.ok.hd hc) λh' tk k=>⟨_,H,I.kept k,?_,q⟩
 by_cases hj:j > i
 .rw[Qp hj,Qp hj];exact⟨_,rfl⟩
 .rw[Qw hj,Qw hj];exact⟨_,rfl⟩
theorem vc:Y6 X (.type "int") (λxs H Q=>(∃i,xs=[.int i]/\Q (.int i) H) ∨ ∃k,xs=[.bl k]/\Q (.int (if k then 1 else 0)) H):=by
 intro pins s σ H xs us Q I r h;rcases h with ⟨i,rfl,q⟩|⟨k,rfl,q⟩
 .obtain⟨u,rfl,t,rfl⟩:=Pu r
  exact call_int_int ⟨.int i,H,I,⟨_,rfl⟩,q⟩
 .obtain⟨u,rfl,r1⟩:=Pu r
  cases r1;exact call_int_bool ⟨.int _,H,I.tok _,⟨_,rfl⟩,q⟩
def LenV(K:Frag)(x:V)(H:Hp)(n:Nat):Prop:=
 match x with
 |.str y=>y.length<=Ut/\n=y.length
 |.byt y=>y.size<=Ut/\n=y.size
 |.ref p=>(∃xs,SqL K H p xs/\n=xs.length) ∨ ∃xs,SqT K H p xs/\n=xs.length
 |_=>False
theorem GT:Y6 X (.builtin "len") (λxs H Q=>∃x n,xs=[x]/\LenV X.K x H n/\Q (.int n) H):=by
 intro pins s σ H xs us Q I r h;obtain⟨x,n,rfl,e,q⟩:=h;obtain⟨u,rfl,rx⟩:=Pu r;have hs   :=sizeLine_eq;cases x with
 |str y=>obtain⟨t,rfl⟩:=rx;obtain⟨hy,e'⟩:y.length<=Ut/\n=y.length:=e;subst e';exact len_str (by omega) ⟨.int _,H,I.tok _,⟨_,rfl⟩,q⟩
 |byt y=>obtain⟨t,rfl⟩:=rx;obtain⟨hy,e'⟩:y.size<=Ut/\n=y.size:=e;subst e';exact PySem.W.len_bytes (by omega) ⟨.int _,H,I.tok _,⟨_,rfl⟩,q⟩
 |ref p=>
  cases rx;have e'   :=e;rcases e' with ⟨xs,hx,e'⟩|⟨xs,hx,e'⟩
  .subst e'
   obtain⟨its,r',pl,hz⟩:=I.list hx;have hlen:=r'.length;exact Calls.call_len_list pl.isList (by simp only[Jf];omega) ⟨.int xs.length,H,I.tok _,⟨_,by simp only[Jf];rw[hlen]⟩,q⟩
  .subst e'
   obtain⟨its,r',pl,hz⟩:=I.tuple hx;have hlen:=r'.length;exact len_tuple pl (by simp only[Jf];omega) ⟨.int xs.length,H,I.tok _,⟨_,by simp only[Jf];rw[hlen]⟩,q⟩
 |_=>exact(e).elim
end
theorem RelO.some_of   (r:RelO (O v) o):∃u,o=O u/\RelV v u:=by
 cases o with
 |none=>exact(r).elim
 |some u=>exact⟨u,rfl,r⟩
structure Room(k:Nat)(A:Around):Prop where
 hd:A.handled=w4
 dp:A.depth+3*k+5<recursionLimit
 un:A.units+16*k+200<cLine
 gd:A.guards=O []
theorem Room.mono{j k}{A}(r:Room k A)(h:j<=k):Room j A:=⟨r.hd,by have:=r.dp;omega,by have:=r.un;omega,r.gd⟩
theorem Room.deeper   (r:Room (k+1) A)(env):Room k (A.deeper env):=
 ⟨r.hd,by have:=r.dp;show A.depth+1+3*k+5<_;omega,by have:=r.un;show A.units+3+16*k+200<_;omega,r.gd⟩
theorem Room.depth{k:Nat}{A:Around}(r:Room k A):A.depth<recursionLimit:=by have:=r.dp;omega
theorem Room.units{k:Nat}{A:Around}(r:Room k A):A.units+64<cLine:=by have:=r.un;omega
noncomputable def tNil:TA:=λ_ H Q=>Q [] H
noncomputable def Do(ta:TE)(tr:TA):TA:=λσ H Q=>ta σ H λx H1=>tr σ H1 λxs H2=>Q (x::xs) H2
section
variable{X:Cx}{e:Us}{es:yb}{te:TE}{t:TA}{pos:Pos}
theorem SZ:PA X [] tNil:=λ_ _ _ _ H Q I h=>Calls.spliced_nil ⟨[],H,I,.nil,h⟩
theorem Tl(ha:PE X e te)(hr:PA X es t)(hs:Uv (e::es) X.env=(w6,eval e X.env)::Uv es X.env:=by rfl):PA X (e::es) (Do te t):=by intro pos pins s σ H Q I h;rw[hs];refine Calls.spliced_cons (thn (ha pins s σ H _ I h) λu s1 ⟨x,H1,I1,r1,q1⟩=>?_);exact thn (hr pos pins s1 σ H1 _ I1 q1) λus s2 ⟨xs,H2,I2,r2,q2⟩=>⟨x::xs,H2,I2,.cons r1 r2,q2⟩
noncomputable def tTup(t:TA):TE:=λσ H Q=>t σ H λxs H1=>xs.length<=Ut/\∀p,H1 p=w4->Q (.ref p) (upd H1 p (.tup xs))
noncomputable def tLst(t:TA):TE:=λσ H Q=>t σ H λxs H1=>xs.length<=Ut/\∀p,H1 p=w4->Q (.ref p) (upd H1 p (.lst xs))
theorem Bs  (h:PA X es t):PE X (.Tuple es x1 pos) (tTup t):=by intro pins s σ H Q I hq;refine wpAny_Tuple_spliced (thn (h pos pins s σ H _ I hq) λus s1 ⟨xs,H1,I1,r,z,q⟩=>⟨by rw[←r.length];exact z,?_⟩);have hf   :=I1.hok.fresh (Qv _);refine⟨.ref s1.heap.objs.size,upd H1 s1.heap.objs.size _,I1.laid  (λb u e=>Qm _ e) (Qv _) ?_,rfl,q _ hf⟩;exact⟨z,us,r,⟨_,QD _ wZ,rfl,_,rfl⟩⟩
theorem LC(h:PA X es t):PE X (.List es pos) (tLst t):=by intro pins s σ H Q I hq;refine wpAny_List_spliced (thn (h pos pins s σ H _ I hq) λus s1 ⟨xs,H1,I1,r,z,q⟩=>⟨by rw[←r.length];exact z,?_⟩);have hf   :=I1.hok.fresh (Qv _);refine⟨.ref s1.heap.objs.size,upd H1 s1.heap.objs.size _,I1.laid  (λb u e=>Qm _ e) (Qv _) ?_,rfl,q _ hf⟩;exact⟨z,us,0,r,QD _ wZ⟩
end
abbrev Sp:=List V->Hp->VK->XK->Prop
abbrev CXT:=List Env->Hp->Uo->XK->Um->Uo->Prop
structure Env0(P:Up)(w:World)(K:Frag)(mg:Str->yf)(base:Heap)(A:Around)(outer:List Env)(s:Uo)(H:Hp):Prop where
 frames:A.frames=O outer
 mod:Mod K mg base
 bs:∀b o,base.get? b=O o->s.heap.get? b=O o/\H b=w4
 bsz:base.objs.size<=s.heap.objs.size
 funs:s.heap.FunFrames base outer
 frf:∀b∈frs outer,H b=w4
 hok:HOk P w H s.heap
 bare:AllBare s.gens
def CE(outer:List Env)(P:Up)(w:World)(H:Hp)(s:Uo)(Q:VK)(u:Um)(s':Uo):Prop:=
 ∃v H',s'.os=s.os/\AllBare s'.gens/\Un (frs outer) [] H H' s.heap s'.heap/\HOk P w H' s'.heap/\RelV v u/\Q v H'
def CR(CX:CXT)(outer:List Env)(P:Up)(w:World)(H:Hp)(s:Uo)(Q:VK)(E:XK)(r:Result)(s':Uo):Prop:=
 match r with
 |.ok (.ret u)=>CE outer P w H s Q u s'
 |.ok _=>False
 |.error e=>CX outer H s E e s'
structure FnOk(P:Up)(w:World)(K:Frag)(mg:Str->yf)(base:Heap)(CX:CXT)(k:Nat)(f:Uq)(fd:Ur)(ps:List Str)(sp:Sp):Prop where
 len:∀vs H Q E,sp vs H Q E->vs.length=ps.length
 run:∀(A:Around)(outer:List Env)(s:Uo)(H:Hp)(args:Args)(us:yc)(vs:List V)(Q:VK)(E:XK),Room k A->Env0 P w K mg base A outer s H->BindsTo s fd args (ps.zip us)->Vals vs us->sp vs H Q E ->
  codeAny (model P w) A (.call (.ref f) args) (CR CX outer P w H s Q E) s
section
variable{X:Cx}{pins:List (Uq×Obj)}{σ:St}{H:Hp}{s s':Uo}
theorem Inv.env0(I:Inv X pins σ H s):Env0 X.prog X.w X.K X.mg X.base X.A X.stack s H:=
 ⟨I.ok.frames,I.ok.mod,I.bs,QN I.ok.bsz I.sz,I.stack,I.stkFree,I.hok,I.bare⟩
theorem Inv.after   (I:Inv X pins σ H s)(h:CE X.stack X.prog X.w H s Q u s'):EP X pins σ Q u s':=by obtain⟨v,H',os,bare,un,hok,r,q⟩:=h;obtain⟨hh,g,d,t,os'⟩:=s';obtain rfl:os'=s.os:=os;exact⟨v,H',I.call      un hok bare (λb z=>absurd z (by simp)),r,q⟩
end
noncomputable def Dm(sp:Sp)(dvs:List V)(E:XK)(t:TA):TE:=λσ H Q=>t σ H λvs H1=>sp (vs++dvs) H1 Q E
def VS(K:Frag)(fd:Ur)(ps:List Str)(ds:yc):Prop:=
 ∀(s:Uo)(us:yc),K.In s.heap->(us++ds).length=ps.length->BindsTo s fd ⟨us,[]⟩ (ps.zip (us++ds))
theorem VS.all{K}{fd}{ps}(h:∀us:yc,us.length=ps.length->bindArgs fd ⟨us,[]⟩=pure (ps.zip us)):VS K fd ps []:=λs us _ hl=>by rw[Jl]at hl⊢;exact .of_eq (h us hl)
def O6(CX:CXT)(X:Cx)(E:XK):Prop:=∀(pins:List (Uq×Obj))(σ:St)(H:Hp)(s:Uo)(e:Um)(s':Uo),Inv X pins σ H s->CX X.stack H s E e s'->X.xe e s'
section
variable{X:Cx}{CX:CXT}{k:Nat}{f C:Uq}{fd:Ur}{ps:List Str}{sp:Sp}{dvs:List V}{ds:yc}{E:XK}{x m:Str}{p pos apos:Pos}{e o:Us}{es:yb}{ta:TE}{t:TA}
theorem Br  {σ:St}{H:Hp}{s:Uo}{Q:VK}{us}{vs}(F:FnOk X.prog X.w X.K X.mg X.base CX k f fd ps sp)(hr:Room k X.A)(hb:VS X.K fd ps ds)(hd:Vals dvs ds)(hx:O6 CX X E)
  (I:Inv X pins σ H s) (r:Vals vs us) (h:sp (vs++dvs) H Q E):Uu (model X.prog X.w) X.A (call (.ref f) us) (EP X pins σ Q) X.xe s:=by
 have r2   :=r.append hd;have hl:(us++ds).length=ps.length:=by rw[←r2.length];exact F.len _ _ _ _ h
 refine wpAny_call (codeAny_mono (F.run X.A X.stack s H ⟨us,[]⟩ _ _ Q E hr I.env0 (hb s us I.kIn hl) r2 h) λr s' hq=>?_);cases r with
 |error e=>exact hx pins σ H s e s' I hq
 |ok fl=>
  cases fl with
  |ret u=>exact I.after hq
  |next=>exact False.elim hq
  |brk=>exact False.elim hq
  |cont=>exact False.elim hq
theorem AY(F:FnOk X.prog X.w X.K X.mg X.base CX k f fd ps sp)(hr:Room k X.A)(hg:Gl X x)(hm:X.mg x=O (.ref f))(hk:PySem.W.keepIn X.K (.ref f)=w5)(hb:VS X.K fd ps ds)(hd:Vals dvs ds)(hx:O6 CX X E)
  (ha:PA X (e::es) t) (hdb:(x==("__debug__" : Str))=w6:=by decide) (he:Uv (e::es) X.env=(w6,eval e X.env)::Uv es X.env:=by rfl) (hpl:(backTo pos (Uv es X.env)).any (·.1)=w6:=by rfl) :
  PE X (.Call (.Name x p) (e::es) [] pos) (Dm sp dvs E t):=by
 intro pins s σ H Q I h;refine wpAny_Call_Name_kw (HS I hg hm ?_ hdb);refine PySem.W.callWith_K  I.ok.mod.kin hk (thn (ha pos pins s σ H _ I h) λus s1 ⟨vs,H1,I1,r,q⟩=>⟨I1.kIn,?_⟩) he hpl;exact Br F hr hb hd hx I1 r q
end
structure RX(N P:List Str)(sc:Scope):Prop where
 kind:sc.kind=.function
 co:sc.isCoroutine=w6
 gen:sc.isGenerator=w6
 nd:N.Nodup
 pre:N.take P.length=P
 par:∀x∈P,sc.names.lookup x=O .local∨sc.names.lookup x=O .cell
 nofree:∀y∈sc.names,y.2≠.free
theorem F9{kindOf}{x}:∀{binds}{m},(∀v,(x,v)∉binds)->bindL kindOf binds m x=m x
 |[],_,_=>rfl
 |(n,v)::r,m,h=>by
  unfold bindL;rw[F9 λw hw=>h w (Qi _ hw)];split
  .have:x≠n:=by rintro rfl;exact h v Qj
   simp[this]
  .rfl
theorem F8{kindOf}{x}:∀{binds}{m},(∀v,(x,v)∉binds)->bindC kindOf binds m x=m x
 |[],_,_=>rfl
 |(n,v)::r,m,h=>by
  unfold bindC;rw[F8 λw hw=>h w (Qi _ hw)];split
  .rfl
  .have:x≠n:=by rintro rfl;exact h v Qj
   simp[this]
theorem F7{kindOf}{x}{v}:∀{P:List Str}{vs}{i:Nat}{m},P.Nodup->P[i]?=O x->vs[i]?=O v->kindOf x=O .local ->
  bindL kindOf (P.zip vs) m x=O v
 |[],_,_,_,_,h,_,_=>by simp at h
 |_::_,[],_,_,_,_,h,_=>by simp at h
 |p::P,w::vs,0,m,nd,h1,h2,hk=>by simp at h1 h2;subst h1;subst h2;show bindL kindOf ((p,w)::P.zip vs) m p=_;unfold bindL;rw[F9 λv hv=>(JQ.mp nd).1 (List.of_mem_zip hv).1,Qp hk];simp
 |p::P,w::vs,i+1,m,nd,h1,h2,hk=>by unfold bindL;exact F7  (List.nodup_cons.mp nd).2 (by simpa using h1) (by simpa using h2) hk
theorem FH{kindOf}{x}{v}:∀{P:List Str}{vs}{i:Nat}{m},P.Nodup->P[i]?=O x->vs[i]?=O v->kindOf x≠O .local ->
  bindC kindOf (P.zip vs) m x=O v
 |[],_,_,_,_,h,_,_=>by simp at h
 |_::_,[],_,_,_,_,h,_=>by simp at h
 |p::P,w::vs,0,m,nd,h1,h2,hk=>by simp at h1 h2;subst h1;subst h2;show bindC kindOf ((p,w)::P.zip vs) m p=_;unfold bindC;rw[F8 λv hv=>(JQ.mp nd).1 (List.of_mem_zip hv).1,Qw hk];simp
 |p::P,w::vs,i+1,m,nd,h1,h2,hk=>by unfold bindC;exact FH  (List.nodup_cons.mp nd).2 (by simpa using h1) (by simpa using h2) hk
noncomputable def Wk(N:List Str)(vs:List V):St:=vs.map O++Uy (N.length-vs.length) w4
noncomputable def Xg(CX:CXT)(P:Up)(w:World)(K:Frag)(mg:Str->yf)(base:Heap)(N:List Str)(qual:Str)(scope:Scope)(f:Uq)(cd:Um)(A:Around)(outer:List Env)(s:Uo)(H:Hp)(E:XK):Cx where
 prog:=P
 w:=w
 K:=K
 mg:=mg
 base:=base
 A:=A.deeper (envOfC qual scope s.heap.objs.size f cd)
 N:=N
 s₀:=s
 H₀:=H
 env:=envOfC qual scope s.heap.objs.size f cd
 outer:=outer
 stack:=envOfC qual scope s.heap.objs.size f cd::outer
 ex:=[]
 calm:=w5
 fn:=λ_=>w5
 pn:=[]
 xe:=λe s'=>Uu (model P w) (A.deeper (envOfC qual scope s.heap.objs.size f cd)) (leaving (envOfC qual scope s.heap.objs.size f cd) e) (λ_ s''=>CX outer H s E e s'') (λe' s''=>CX outer H s E e' s'') s'
theorem NT{sc:Scope}{n}{x}(h:sc.names.lookup x=O .cell):∃c,(cellsFrom n sc.names []).lookup x=O c:=by have q:=PySem.W.cellsFrom_some sc.names n [] (.inl h);exact Option.isSome_iff_exists.mp q
theorem vb{CX:CXT}{P:Up}{w:World}{K:Frag}{mg:Str->yf}{base:Heap}{N ps:List Str}{qual:Str}{scope:Scope}{f:Uq}{cd:Um}{A:Around}{outer:List Env}{s s1:Uo}{H:Hp}{E:XK}{us:yc}{vs:List V}
  (S:RX N ps scope) (hd:A.handled=w4) (e0:Env0 P w K mg base A outer s H) (hl:vs.length=ps.length) (r:Vals vs us)
  (x:InCallC s s.heap.objs.size (bindL (envOfC qual scope s.heap.objs.size f cd).kindOf (ps.zip us) λ_=>w4) (cellsFrom (s.heap.objs.size+1) scope.names []) (bindC (envOfC qual scope s.heap.objs.size f cd).kindOf (ps.zip us) λ_=>w4) s1) :
  Inv (Xg CX P w K mg base N qual scope f cd A outer s H E) [] (Wk N vs) H s1:=by
 have hpl:ps.length<=N.length:=by have:=Ub List.length S.pre;rw[Q2]at this;omega
 obtain⟨h1,tk,rfl,hk⟩:=x.done;have noA:∀b:Uq,b∉(Xg CX P w K mg base N qual scope f cd A outer s H E).ex:=λb z=>absurd (show b∈([]:ye)from z) (by simp)
 refine⟨⟨e0.mod,S.kind,rfl,rfl,Qv _,λy z c h1 h2=>?_,λy hy=>?_,λy c _ h=>?_,λ_=>hd,Around.frames_deeper e0.frames,.inr ⟨rfl,rfl⟩,λb z=>absurd z (noA b),e0.bs,e0.bsz,λb _ _=>noA b,λb z=>absurd z (noA b),e0.funs,e0.frf⟩,
  rfl,e0.bare,Un.kept hk,⟨_,x.toInCall.ns,λi y v h1 h2 h3=>?_⟩,λy c h=>⟨_,x.cell y c h⟩,e0.hok.fresh (Nat.le_refl _),λy c h=>?_,λp hp=>absurd (show p∈([]:List (Uq×Obj))from hp) (by simp),e0.hok.kept hk,?_⟩
 .exact name_of_addr x.apart (Jg h1) (Jg h2)
 .rcases hy with hy|hy
  .exact NT hy
  .exact absurd wZ (S.nofree _ (Jg hy))
 .exact Uj (x.above y c (Jg h))
 .have hi:i<vs.length:=by
   unfold Wk at h2;by_cases hi:i<vs.length
   .exact hi
   .rw[List.getElem?_append_right (by simpa using hi)]at h2
    rw[QB]at h2;split at h2<;>cases h2
  have ha:vs[i]?=O v:=by
   unfold Wk at h2;rw[List.getElem?_append_left (by simpa using hi),List.getElem?_map]at h2;cases e:vs[i]? with
   |none=>rw[e]at h2;cases h2
   |some a=>rw[e]at h2;cases h2;rfl
  obtain⟨u,hu,rv⟩:=r.get ha;have hp:ps[i]?=O y:=by rw[←S.pre,List.getElem?_take_of_lt (by omega)];exact h1
  have ndP:ps.Nodup:=by rw[←S.pre];exact S.nd.sublist (List.take_sublist _ _)
  refine⟨u,rv,?_⟩;rcases S.par y (Qs hp)with k|k
  .exact .inl ⟨k,F7 ndP hp hu k⟩
  .obtain⟨c,e⟩:=NT  k
   refine .inr ⟨.inl k,c,e,?_⟩;have q:=x.cell y c e;rw[FH ndP hp hu (by show scope.names.lookup y≠_;rw[k];decide)]at q;exact q
 .exact e0.hok.fresh (Uj (x.above y c (Jg h)))
 .unfold Wk
  show _=N.length;rw[Qk,Qb,QF];omega
theorem Dl{CX:CXT}{P:Up}{w:World}{K:Frag}{mg}{base:Heap}{k:Nat}{f:Uq}{name qual:Str}{params:Arguments}{body:List Stmt}{scope:Scope}{dV kV doc pm cdv ct oc:Um}{an od:yk}
  {osl} {N ps:List Str} {sp:Sp} (lk:K.lookup f=O ⟨oc,od,.func (PySem.W.fnOf name qual params body scope dV kV doc pm an cdv ct),osl⟩) (hcd:PySem.W.codeIn K cdv qual=w5) (S:RX N ps scope)
  (len:∀vs H Q E,sp vs H Q E->vs.length=ps.length)
  (hbody:∀(A:Around)(outer:List Env)(s:Uo)(H:Hp)(vs:List V)(Q:VK)(E:XK),Room k (A.deeper (envOfC qual scope s.heap.objs.size f cdv))->sp vs H Q E ->
   ∃t,PSs (Xg CX P w K mg base N qual scope f cdv A outer s H E) body t/\t {nx:=λ_ H'=>Q .non H',rt:=Q} (Wk N vs) H) :
  FnOk P w K mg base CX (k+1) f (PySem.W.fnOf name qual params body scope dV kV doc pm an cdv ct) ps sp:=by
 refine⟨len,λA outer s H args us vs Q E hr e0 hb r zG=>?_⟩;have hl:=len _ _ _ _ zG;have KX:K.In s.heap:=e0.mod.kin.keeps λb o e=>(e0.bs b o e).1;have lim:s.heap.NoLimit:=e0.mod.nolimit.keeps λb o e=>(e0.bs b o e).1
 have hkind:∀y∈ps.zip us,scope.names.lookup y.1=O .local∨(scope.names.lookup y.1=O .cell/\((cellsFrom (s.heap.objs.size+1) scope.names []).lookup y.1).isSome=w5):=λ⟨n,v⟩ hy=>by
  rcases S.par n (List.of_mem_zip hy).1 with q|q
  .exact .inl q
  .exact .inr ⟨q,PySem.W.cellsFrom_some _ _ _ (.inl q)⟩
 refine codeAny_call_function hr.depth (KX _ _ lk) wZ S.co S.gen wZ (PySem.W.codeRec_of KX hcd) (hb _ _ _ _ ?_);refine wpAny_newFunctionEnv_cells S.kind hkind λenv he s1 x=>?_;subst he
 refine⟨lim.keeps x.toInCall.keep,codeAny_func ?_⟩;obtain⟨t,ht,hq⟩:=hbody A outer s H vs Q E (hr.deeper _) zG;have I:Inv (Xg CX P w K mg base N qual scope f cdv A outer s H E) [] (Wk N vs) H s1:=vb S hr.hd e0 hl r x;refine QL (ht [] s1 (Wk N vs) H _ I hq) (λfl s' hs=>?_) λe s' hs=>hs
 have fin:∀{σ':St}{H':Hp}{v:V}{u:Um},Inv (Xg CX P w K mg base N qual scope f cdv A outer s H E) [] σ' H' s'->RelV v u->Q v H'->CE outer P w H s Q u s':=
  λ{σ' H' v u} J rv q=>⟨v,H',J.os,J.bare,J.base,J.hok,rv,q⟩
 cases fl with
 |ret u=>obtain⟨v,σ',H',J,rv,q⟩:=hs;exact fin J rv q
 |next=>obtain⟨σ',H',J,q⟩:=hs;exact fin (v:=V.non)  J wZ q
 |brk=>obtain⟨_,_,_,q⟩:=hs;exact False.elim q
 |cont=>obtain⟨_,_,_,q⟩:=hs;exact False.elim q
section
variable{X:Cx}{x:Str}{p pos:Pos}{e:Us}{es:yb}{t:TA}{id T:String}{r:List V->Hp->VK->Prop}
noncomputable def tCB(r:List V->Hp->VK->Prop)(t:TA):TE:=λσ H Q=>t σ H λvs H1=>r vs H1 Q
theorem Oh(hc:Y6 X (.builtin id) r)(hg:Gl X x)(hm:X.mg x=w4)(hv:bootBuiltins x=O (.builtin id))(ha:PA X (e::es) t)(hn:x ≠ "__name__" :=by decide)(hdb:(x==("__debug__" : Str))=w6:=by decide)
  (he:Uv (e::es) X.env=(w6,eval e X.env)::Uv es X.env:=by rfl) (hpl:(backTo pos (Uv es X.env)).any (·.1)=w6:=by rfl):PE X (.Call (.Name x p) (e::es) [] pos) (tCB r t):=by
 intro pins s σ H Q I h;refine wpAny_Call_Name_kw (Th I hg hm hv ?_ hn hdb);exact PyProof.Rows.callWith_builtin1 (thn (ha pos pins s σ H _ I h) λus s1 ⟨vs,H1,I1,r1,q1⟩=>hc pins s1 σ H1 vs us Q I1 r1 q1) he hpl
theorem MB(hc:Y6 X (.type T) r)(hg:Gl X x)(hm:X.mg x=w4)(hv:bootBuiltins x=O (.type T))(ha:PA X (e::es) t)(hn:x ≠ "__name__" :=by decide)(hdb:(x==("__debug__" : Str))=w6:=by decide)
  (he:Uv (e::es) X.env=(w6,eval e X.env)::Uv es X.env:=by rfl) (hpl:(backTo pos (Uv es X.env)).any (·.1)=w6:=by rfl):PE X (.Call (.Name x p) (e::es) [] pos) (tCB r t):=by
 intro pins s σ H Q I h;refine wpAny_Call_Name_kw (Th I hg hm hv ?_ hn hdb);exact PyProof.Rows.callWith_type1 (thn (ha pos pins s σ H _ I h) λus s1 ⟨vs,H1,I1,r1,q1⟩=>hc pins s1 σ H1 vs us Q I1 r1 q1) he hpl
end
end L2
namespace HT
open PySem PyProof.Rows
noncomputable def Xm:w8->w8->Bool
 |[],[]=>w6
 |[],_::_=>w5
 |_::_,[]=>w6
 |x::xs,y::ys=>if x=y then Xm xs ys else decide (x<y)
theorem OE(x y)(xs ys):Xm (x::xs) (y::ys)=if x=y then Xm xs ys else decide (x<y):=rfl
section
variable{prog:Up}{w:World}{A:Around}{E:Um->Uo->Prop}{s:Uo}
noncomputable def sIx(n d:Nat):yd->Nat
 |none=>d
 |some v=>if v<0 then(v+(n:Int)).toNat else min v.toNat n
end
end HT
namespace L2
open PySem PySem.Spec PyProof.Rows
abbrev TO:=St->Hp->(yd->Hp->Prop)->Prop
def PO(X:Cx)(e:Option Us)(t:TO):Prop:=
 ∀(pins:List (Uq×Obj))(s:Uo)(σ:St)(H:Hp)(Q:yd->Hp->Prop),Inv X pins σ H s->t σ H Q ->
  Uu (model X.prog X.w) X.A (evalPart e X.env) (λu s'=>∃o H',Inv X pins σ H' s'/\IsPart u o/\Q o H') X.xe s
noncomputable def AX:TO:=λ_ H Q=>Q w4 H
noncomputable def Dk(t:TE):TO:=λσ H Q=>t σ H λx H1=>∃i,x=.int i/\Q (O i) H1
section
variable{X:Cx}{e:Us}{te:TE}{lo hi:Option Us}{tl th:TO}{pos p2:Pos}
theorem AW:PO X w4 AX:=by intro pins s σ H Q I h;exact Qq ⟨w4,H,I,.none,h⟩
theorem AV(h:PE X e te):PO X (O e) (Dk te):=by
 intro pins s σ H Q I hw;refine thn (h pins s σ H _ I hw) λu s1 ⟨x,H1,I1,r1,q1⟩=>?_
 obtain⟨i,rfl,q⟩:=q1;obtain⟨t,rfl⟩:=r1;exact⟨O i,H1,I1,.int i t,q⟩
def SlR(X:Cx)(r:V->yd->yd->Hp->VK->Prop):Prop:=
 ∀(pins:List (Uq×Obj))(s:Uo)(σ:St)(H:Hp)(x:V)(v vl vu:Um)(lo hi:yd)(sl:Uq)(Q:VK),Inv X pins σ H s->RelV x v->s.heap.IsSliceOf sl vl vu .none->IsPart vl lo->IsPart vu hi->r x lo hi H Q ->
  ∃T id,typeLookup (.type T) "__getitem__" = pure (O (.builtin id))/\s.TypeIs v T/\Uu (model X.prog X.w) X.A (getItem v (.ref sl)) (EP X pins σ Q) X.xe s
theorem SlR.or  (h:SlR X r)(h':SlR X r'):SlR X (λx lo hi H Q=>r x lo hi H Q∨r' x lo hi H Q):=by
 intro pins s σ H x v vl vu lo hi sl Q I rx hs pl pu q;rcases q with q|q
 .exact h pins s σ H x v vl vu lo hi sl Q I rx hs pl pu q
 .exact h' pins s σ H x v vl vu lo hi sl Q I rx hs pl pu q
noncomputable def tSl(r:V->yd->yd->Hp->VK->Prop)(te:TE)(tl th:TO):TE:=λσ H Q=>te σ H λx H1=>tl σ H1 λl H2=>th σ H2 λu H3=>r x l u H3 Q
theorem jB  (hr:SlR X r)(he:PE X e te)(hl:PO X lo tl)(hu:PO X hi th):PE X (.Subscript e (.Slice lo hi w4 p2) pos) (tSl r te tl th):=by
 intro pins s σ H Q I h;refine Subscript_ (thn (he pins s σ H _ I h) λv s1 ⟨x,H1,I1,r1,q1⟩=>?_);refine wpAny_Slice (thn (hl pins s1 σ H1 _ I1 q1) λvl s2 ⟨l,H2,I2,pl,q2⟩=>thn (hu pins s2 σ H2 _ I2 q2) λvu s3 ⟨u,H3,I3,pu,q3⟩=>?_);refine Qq ?_;have I4:Inv X pins σ H3 {s3 with heap:=s3.heap.push {cls:=.type "slice", data:=.fields #[vl,vu,.none]}}:=I3.kept  λb ob q=>Qm _ q
 obtain⟨T,id,hT,ht,hg⟩:=hr pins {s3 with heap:=s3.heap.push {cls:=.type "slice", data:=.fields #[vl,vu,.none]}} σ H3 x v vl vu l u s3.heap.objs.size Q I4 r1 (Heap.IsSliceOf.new ..) pl pu q3;exact tail_any  ht hT hg (by with_unfolding_all rfl)
noncomputable def Ws(xs:List V)(lo hi:yd):List V:=(xs.drop (HT.sIx xs.length 0 lo)).take (HT.sIx xs.length xs.length hi-HT.sIx xs.length 0 lo)
theorem wp(xs)(lo hi):(Ws xs lo hi).length<=xs.length:=by unfold Ws;rw[Q2,Jm];omega
end
noncomputable def ixN(n:Nat)(i:Int):Option Nat:=if 0<=i then(if i<n then O i.toNat else w4)else if -(n:Int)<=i then O (i+n).toNat else w4
noncomputable def atI{α:Type}(xs:List α)(i:Int):Option α:=(ixN xs.length i).bind λj=>xs[j]?
theorem AU    (h:ixN n i=O j):seqIndex? i n=O j/\j<n /\ -(n:Int)<=i/\i<n:=by
 unfold ixN at h;by_cases h0:0<=i
 .rw[Qp h0]at h
  by_cases h1:i<n
  .rw[Qp h1]at h
   have e   :=Q3 h;exact⟨by rw[seqIndex_of h0 h1,e],by omega,by omega,h1⟩
  simp_all
 .rw[Qw h0]at h
  by_cases h1 : -(n)<=i
  .rw[Qp h1]at h
   have e   :=Q3 h;exact⟨by rw[seqIndex_neg (by omega) h1,e],by omega,h1,by omega⟩
  .rw[Qw h1]at h;cases h
theorem Nz    {v:α}(h:atI xs i=O v):∃j,seqIndex? i xs.length=O j/\xs[j]?=O v/\j<xs.length /\ -(xs.length:Int)<=i/\i<xs.length:=by
 unfold atI at h;cases e:ixN xs.length i with
 |none=>simp_all
 |some j=>rw[e]at h;obtain⟨h1,h2,h3,h4⟩:=AU e;exact⟨j,h1,h,h2,h3,h4⟩
theorem K0   {j:Nat}{v:α}(h:xs[j]?=O v):atI xs (j:Int)=O v:=by
 have hj   :=(Qg.mp h).1;have e:ixN xs.length (j)=O j:=by unfold ixN;simp_all
 unfold atI;rw[e];exact h
def Ny(b:Us):Prop:=∀o i,subscripted b w6 o i=operate [o,i] (getItem o i)
def IxR(X:Cx)(r:R2):Prop:=
 ∀(value slice:Us)(pins:List (Uq×Obj))(s:Uo)(σ:St)(H:Hp)(x y:V)(v u:Um)(Q:VK),Inv X pins σ H s->RelV x v->RelV y u->r x y H Q ->
  subscripted slice w6 v u=operate [v,u] (getItem v u)->Uu (model X.prog X.w) X.A (subscriptTail value slice v u) (EP X pins σ Q) X.xe s
def MtR(X:Cx)(id:String)(r:V->List V->Hp->VK->Prop):Prop:=
 ∀(pins:List (Uq×Obj))(s:Uo)(σ:St)(H:Hp)(x:V)(xs:List V)(v:Um)(us:yc)(Q:VK),Inv X pins σ H s->RelV x v->Vals xs us->r x xs H Q ->
  Uu (model X.prog X.w) X.A (call (.builtin id) (v::us)) (EP X pins σ Q) X.xe s
section
variable{X:Cx}{a b:Us}{ta tb:TE}{pos:Pos}
theorem IxR.or  (h:IxR X r)(h':IxR X r'):IxR X (λx y H Q=>r x y H Q∨r' x y H Q):=by
 intro value slice pins s σ H x y v u Q I rx ry q hs;rcases q with q|q
 .exact h value slice pins s σ H x y v u Q I rx ry q hs
 .exact h' value slice pins s σ H x y v u Q I rx ry q hs
theorem M4  (hr:IxR X r)(ha:PE X a ta)(hb:PE X b tb)(hs:Ny b):PE X (.Subscript a b pos) (tOp r ta tb):=by intro pins s σ H Q I h;exact Subscript_ (SB ha hb I h λv u s2 x y H2 I2 rx ry q=>hr a b pins s2 σ H2 x y v u Q I2 rx ry q (hs _ _))
noncomputable def rIxL(K:Frag):R2:=λx y H Q=>∃p xs i v,x=.ref p/\y=.int i/\SqL K H p xs/\atI xs i=O v/\Q v H
noncomputable def rIxT(K:Frag):R2:=λx y H Q=>∃p xs i v,x=.ref p/\y=.int i/\SqT K H p xs/\atI xs i=O v/\Q v H
noncomputable def rIxS:R2:=λx y H Q=>∃z i c,x=.str z/\y=.int i/\z.length<=Ut/\atI z.cps.toList i=O c/\Q (.str ⟨#[c]⟩) H
theorem AT:IxR X (rIxL X.K):=by
 intro value slice pins s σ H x y v u Q I rx ry h hs;obtain⟨p,xs,i,z,rfl,rfl,hq,he,q⟩:=h;cases rx;obtain⟨t,rfl⟩:=ry;obtain⟨its,r,pl,hz⟩:=I.list hq;obtain⟨j,h1,h2,h3,h4,h5⟩:=Nz he;obtain⟨w,ew,yr⟩:=r.get h2;have hl:=r.length;have hn:=PN;have fin:EP X pins σ Q w s:=⟨z,H,I,yr,q⟩
 by_cases h0:0<=i
 .have hj   :=by
   rw[seqIndex_of h0 h5]at h1;exact Q3 h1
  exact item_listR pl.isList h0 (by omega) (by rw[hj];simpa using ew) fin hs
 .have hj:(i+(its.toArray.size:Int)).toNat=j:=by
   rw[seqIndex_neg (by omega) h4]at h1;rw[Jf,←hl];exact Q3 h1
  exact subscriptTail_builtinR (x:=w) pl.isList.typeIs slot_list_getitem.lookup
   (wpAny_getItem_list_neg  pl.isList (by omega) (by rw[List.size_toArray]<;>omega) (by omega) (by rw[hj];simpa using ew) ⟨rfl,fin⟩) hs
theorem Bq:IxR X (rIxT X.K):=by
 intro value slice pins s σ H x y v u Q I rx ry h hs;obtain⟨p,xs,i,z,rfl,rfl,hq,he,q⟩:=h;cases rx;obtain⟨t,rfl⟩:=ry;obtain⟨its,r,pl,hz⟩:=I.tuple hq;obtain⟨j,h1,h2,h3,h4,h5⟩:=Nz he;obtain⟨w,ew,yr⟩:=r.get h2;have hl:=r.length;have hn:=PN;have fin:EP X pins σ Q w s:=⟨z,H,I,yr,q⟩
 exact subscriptTail_builtinR  pl.typeIs slot_tuple_getitem.lookup
  (getItem_tuple   pl (by omega) (by omega) (by rw[List.size_toArray,←hl];exact h1) (by simpa using ew) ⟨rfl,fin⟩) hs
theorem Bp:IxR X rIxS:=by
 intro value slice pins s σ H x y v u Q I rx ry h hs;obtain⟨z,i,c,rfl,rfl,hz,he,q⟩:=h;obtain⟨t,rfl⟩:=rx;obtain⟨t',rfl⟩:=ry;obtain⟨j,h1,h2,h3,h4,h5⟩:=Nz he;have hl:z.cps.toList.length=z.length:=by simp[Str.length]
 rw[hl]at h1 h4 h5;have hn:=PN;exact tail_any (typeIs_str s z t) slot_str_getitem.lookup (getItem_str  (by have e1:decide (i < -(2 ^ 63:Int))=w6:=QQ (by omega);have e2:decide (i ≥ 2 ^ 63)=w6:=QQ (by omega);rw[e1,e2,Bool.or_false]) (by rw[h1];simpa using h2) ⟨.str ⟨#[c]⟩,H,I.tok _,⟨_,rfl⟩,q⟩) hs
noncomputable def rIx(K:Frag):R2:=λx y H Q=>rIxL K x y H Q∨rIxT K x y H Q∨rIxS x y H Q
theorem LB:IxR X (rIx X.K):=AT.or (Bq.or Bp)
theorem wB(lo hi)(n):(sliceBounds lo hi w4 n).1=((HT.sIx n 0 lo:Nat):Int)/\(sliceBounds lo hi w4 n).2.1=((HT.sIx n n hi:Nat):Int)/\(sliceBounds lo hi w4 n).2.2=1:=by
 refine⟨?_,?_,rfl⟩
 .cases lo with
  |none=>simp[sliceBounds,HT.sIx]
  |some i=>
   simp only[sliceBounds,HT.sIx,Option.getD_none,show(1:Int) > 0 by decide,if_true];by_cases h:i<0
   .simp only[h,if_true]<;>omega
   .simp only[h,if_false]<;>omega
 .cases hi with
  |none=>simp[sliceBounds,HT.sIx]
  |some i=>
   simp only[sliceBounds,HT.sIx,Option.getD_none,show(1:Int) > 0 by decide,if_true];by_cases h:i<0
   .simp only[h,if_true]<;>omega
   .simp only[h,if_false]<;>omega
theorem wI(its:yc)(lo hi):slicePick its.toArray lo hi w4=((its.drop (HT.sIx its.length 0 lo)).take (HT.sIx its.length its.length hi-HT.sIx its.length 0 lo)).toArray:=by obtain⟨h1,h2,h3⟩:=wB lo hi its.toArray.size;unfold slicePick;rw[h1,h2,h3];simp only[sliceRange_one,pick_run]<;>rfl
noncomputable def rSlL(K:Frag):V->yd->yd->Hp->VK->Prop:=λx lo hi H Q=>∃a xs,x=.ref a/\SqL K H a xs/\∀p,H p=w4->Q (.ref p) (upd H p (.lst (Ws xs lo hi)))
theorem AS:SlR X (rSlL X.K):=by intro pins s σ H x v vl vu lo hi sl Q I rx hs pl pu h;obtain⟨a,xs,rfl,hx,q⟩:=h;cases rx;obtain⟨its,r,ht,hz⟩:=I.list hx;have hlen:=r.length;refine⟨"list", _,slot_list_getitem.lookup,ht.isList.typeIs,?_⟩;refine wpAny_getItem_list_slice ht.isList hs pl pu .none (by simp) ?_ (by grind);rw[wI,←hlen];refine⟨.ref s.heap.objs.size,_,I.laid   (λb ob q=>Qm _ q) (Qv _) ?_,rfl,q _ (I.hok.fresh (Qv _))⟩;exact⟨QN (wp xs lo hi) hz,_,0,(r.drop _).take _,QD _ wZ⟩
theorem wA:Y6 X (.type "list") (λxs H Q=>∃p ys,xs=[.ref p]/\(SqL X.K H p ys∨SqT X.K H p ys)/\∀l,H l=w4->Q (.ref l) (upd H l (.lst ys))):=by
 intro pins s σ H xs us Q I r h;obtain⟨p,ys,rfl,hq,q⟩:=h;obtain⟨u,rfl,rx⟩:=Pu r;cases rx
 have fin:∀(its:yc),Vals ys its->ys.length<=Ut->∀(h':Heap)(c':Nat),_ ->
   h'.get? s.heap.objs.size=O {cls:=.type "list", dict:=w4,data:=.seq its.toArray c',slots:=#[]}->EP X pins σ Q _ {s with heap:=h'}:=λits r' hz h' c' kp e=>
  ⟨.ref s.heap.objs.size,_,I.laid  kp (Qv _) (show Ys X.prog X.w _ h' _ (.lst ys)from⟨hz,its,c',r',e⟩),rfl,q _ (I.hok.fresh (Qv _))⟩
 rcases hq with hq|hq
 .obtain⟨its,r',pl,hz⟩:=I.list hq
  have hlen:=r'.length;obtain⟨o,ho,hc,n,hd⟩:=pl.isList;exact call_list_seq p (.inl wZ) ho hc hd (λh' c' kp e=>fin its r' hz h' c' kp e) (by simp_all)
 .obtain⟨its,r',pl,hz⟩:=I.tuple hq
  have hlen:=r'.length;obtain⟨o,ho,hc,n,hd⟩:=pl;exact call_list_seq p (.inr wZ) ho hc hd (λh' c' kp e=>fin its r' hz h' c' kp e) (by simp_all)
def tyV(K:Frag)(T:String)(x:V)(H:Hp):Prop:=match x with
 |.str _=>T = "str"
 |.int _=>T = "int"
 |.ref p=>(T = "list" /\ ∃xs,SqL K H p xs)∨(T = "tuple" /\ ∃o,K.lookup p=O o/\o.cls=.type "tuple" /\ o.dict=w4) ∨
   (T = "dict" /\ ((∃kvs,H p=O (.dK kvs)) ∨ ∃kvs,H p=O (.dT kvs)))∨(T = "set" /\ ∃S n,H p=O (.set S n))
 |_=>False
theorem Bo  {σ:St}{H:Hp}{s:Uo}{T:String}{x:V}{v:Um}(I:Inv X pins σ H s)(r:RelV x v)(ty:tyV X.K T x H) :
  s.TypeIs v T/\∀a,v=.ref a->∃ob,s.heap.get? a=O ob/\ob.dict=w4:=by
 cases x with
 |str z=>obtain⟨t,rfl⟩:=r;cases (ty);exact⟨typeIs_str s z t,λ_ e=>nomatch e⟩
 |int i=>obtain⟨t,rfl⟩:=r;cases (ty);exact⟨typeIs_int s i t,λ_ e=>nomatch e⟩
 |ref p=>
  cases r;rcases ty with ⟨rfl,xs,hq⟩|⟨rfl,o,hk,hc,hd⟩|⟨rfl,hk⟩|⟨rfl,S,n,hk⟩
  .obtain⟨its,_,pl,_⟩:=I.list hq
   refine⟨pl.isList.typeIs,λa e=>?_⟩;cases e;obtain⟨o,n,e,c,hd,_⟩:=pl;exact⟨o,e,hd⟩
  .refine⟨⟨o,I.kIn p o hk,hc⟩,λa e=>?_⟩
   cases e;exact⟨o,I.kIn _ o hk,hd⟩
  .have z:∃o,s.heap.get? p=O o/\o.ExactDict:=by
    rcases hk with ⟨kvs,hk⟩|⟨kvs,hk⟩
    .obtain⟨_,_,_,_,o,_,_,e,ex,_⟩:=I.hok p _ hk
     exact⟨o,e,ex⟩
    .obtain⟨_,_,_,_,o,_,_,e,ex,_⟩:=I.hok p _ hk
     exact⟨o,e,ex⟩
   obtain⟨o,e,ex⟩:=z;refine⟨⟨o,e,ex.1⟩,λa e2=>?_⟩;cases e2;exact⟨o,e,ex.2.1⟩
  .obtain⟨o,_,_,_,e,ex,_⟩:=I.hok p _ hk
   refine⟨⟨o,e,ex.1⟩,λa e2=>?_⟩;cases e2;exact⟨o,e,ex.2.1⟩
 |_=>exact False.elim ty
noncomputable def tBM(K:Frag)(T:String)(r:V->List V->Hp->VK->Prop)(to:TE)(t:TA):TE:=λσ H Q=>to σ H λx H1=>tyV K T x H1/\t σ H1 λxs H2=>r x xs H2 Q
variable{o e:Us}{es:yb}{to:TE}{t:TA}{name:Str}{apos cpos:Pos}{T id:String}{r:V->List V->Hp->VK->Prop}
theorem OP(pa:PlainAttrs T)(slot:Slot T name id)(hty:typeOf (.builtin id)=pure (.type "method_descriptor"))(hm:MtR X id r)(ho:PE X o to)(ha:PA X (e::es) t)
  (hbase:attributeBase o name X.env (eval o X.env)=eval o X.env:=by rfl)
  (hfew:((backTo cpos (Uv (e::es) X.env)).all (λx=>!x.1)&&(backToKw cpos (keywordEach [] X.env)).all (λx=>x.1.isSome)
   && decide ((e::es).length+([]:List Keyword).length+(if([]:List Keyword).isEmpty then 0 else 1)<30))=w5:=by rfl)
  (hline:(apos.endLine==cpos.line)=w5:=by rfl) (hs:Uv (e::es) X.env=(w6,eval e X.env)::Uv es X.env:=by rfl) (hplain:(backTo cpos (Uv es X.env)).any (·.1)=w6:=by rfl) :
  PE X (.Call (.Attribute o name apos) (e::es) [] cpos) (tBM X.K T r to t):=by
 intro pins s σ H Q I h;refine wpAny_Call_method_late hbase hfew hline wZ (thn (ho pins s σ H _ I h) λv s1 ⟨x,H1,I1,r1,ty,q1⟩=>?_);obtain⟨h1,h2⟩:=Bo I1 r1 ty;refine⟨T,id,pa,slot,hty,h1,h2,?_⟩;have hA:=ha cpos pins s1 σ H1 _ I1 q1;rw[hs]at hA⊢;refine Calls.callWith_builtin (by show(w6 || (backTo cpos _).any _)=w6;rw[hplain]<;>rfl) (Calls.evalArgs_plain ?_);exact thn hA λus s2 ⟨vs,H2,I2,r2,q2⟩=>hm pins s2 σ H2 x vs v us Q I2 r1 r2 q2
end
def MtM(X:Cx)(id:String)(r:V->List V->Hp->VK->Prop):Prop:=
 ∀(pins:List (Uq×Obj))(s:Uo)(σ:St)(H:Hp)(x:V)(xs:List V)(v:Um)(us:yc)(Q:VK),Inv X pins σ H s->RelV x v->Vals xs us->r x xs H Q ->
  Uu (model X.prog X.w) X.A (call (.builtin id) (v::us)) (EP X pins σ Q) X.xe s
theorem Vals.one:∀{x}{us},Vals [x] us->∃u,us=[u]/\RelV x u
 |_,_,.cons r .nil=>⟨_,rfl,r⟩
theorem Vals.two:∀{x y}{us},Vals [x,y] us->∃u v,us=[u,v]/\RelV x u/\RelV y v
 |_,_,_,.cons r (.cons q .nil)=>⟨_,_,rfl,r,q⟩
theorem Vals.reverse   (h:Vals xs us):Vals xs.reverse us.reverse:=by
 induction h with
 |nil=>exact .nil
 |cons r t ih=>rw[List.reverse_cons,List.reverse_cons];exact Vals.append ih (.cons r .nil)
theorem Vals.rep   (h:Vals xs us):∀k:Nat,Vals (Uy k xs).flatten (Uy k us).flatten
 |0=>.nil
 |k+1=>by exact Vals.append h (Vals.rep h k)
theorem FG(its):∀(k)(acc:yc),
  List.foldl (λx1 x2=>x1++x2) acc.toArray (Uy k its.toArray)=(acc++(Uy k its).flatten).toArray
 |0,acc=>by simp
 |k+1,acc=>by
  have e:acc.toArray++its.toArray=(acc++its).toArray:=by simp
  have e2:(acc++its)++(Uy k its).flatten=acc++(Uy (k+1) its).flatten:=by rw[Uf,Jz,Q6]
  rw[←e2,←FG its k _,←e,Uf,Jw]
section
variable{X:Cx}{pins:List (Uq×Obj)}{σ:St}{H:Hp}{s:Uo}{l b:Uq}{xs ys zs:List V}
theorem Inv.lset{its its':yc}{n}{f}{t'}(I:Inv X pins σ H s)(hH:H l=O (.lst xs))
  (e:s.heap.get? l=O {cls:=.type "list", data:=.seq its.toArray n}) (hf:f its.toArray=its'.toArray) (hv:Vals ys its') (hz:ys.length<=Ut) :
  Inv X pins σ (upd H l (.lst ys)) {s with heap:=s.heap.update l (Obj.mapSeq f),toks:=t'}:=by
 have q:=PySem.IsL.update e f;rw[hf]at q;refine I.write   (by rw[hH];exact trivial) (.inl wZ) (λb' u hb hu=>(Heap.get?_update_other s.heap _ (Ne.symm hb)).trans hu) ⟨_,q⟩ ?_;exact⟨hz,its',_,hv,q⟩
theorem Inv.lnew   (I:Inv X pins σ H s)(hv:Vals ys its)(hz:ys.length<=Ut) :
  Inv X pins σ (upd H s.heap.objs.size (.lst ys)) {s with heap:=s.heap.push {cls:=.type "list", data:=.seq its.toArray},toks:=t'}:=
 I.laid (λ_ _ q=>Qm _ q) (Qv _) ⟨hz,its,0,hv,QD _ wZ⟩
theorem Inv.fresh(I:Inv X pins σ H s):H s.heap.objs.size=w4:=I.hok.fresh (Qv _)
theorem Inv.lstM(I:Inv X pins σ H s)(hH:H l=O (.lst xs)):xs.length<=Ut/\∃(its:yc)(n:Nat),Vals xs its/\xs.length=its.length/\s.heap.get? l=O {cls:=.type "list", data:=.seq its.toArray n}:=by obtain⟨z,its,n,r,e⟩:=I.hok l _ hH;exact⟨z,its,n,r,r.length,e⟩
theorem jA  (h:n<=Ut):Builtin.List.listTooLong n=w6:=by exact QQ (by omega)
end
section
variable{X:Cx}
noncomputable def AR:V->List V->Hp->VK->Prop:=λx vs H Q=>∃l xs y,x=.ref l/\vs=[y]/\H l=O (.lst xs)/\xs.length<Ut/\Q .non (upd H l (.lst (xs++[y])))
theorem FF:MtM X "list.append" AR:=by
 intro pins s σ H x vs v us Q I rx rv h;obtain⟨l,xs,y,rfl,rfl,hH,hz,q⟩:=h;cases rx;obtain⟨u,rfl,ru⟩:=rv.one;obtain⟨z,its,n,r,hl,e⟩:=I.lstM hH;refine call_meets F.slot_list_append ⟨_,e,rfl⟩ F.entry_list_append (F.args_list_append_2 _ _) (PySem.list_append l its.toArray n u (by grind)) ⟨e,?_⟩;refine⟨.non,_,I.lset  hH e (by simp) (r.append (.cons ru .nil)) ?_,rfl,q⟩
 grind
theorem AQ{α:Type}(xs:List α)(k):(Uy k xs).flatten.length=k*xs.length:=by simp_all
end
section
variable{prog:Up}{w:World}{A:Around}{E:Um->Uo->Prop}{s:Uo}
set_option maxRecDepth 100000 in
end
end L2
namespace Att
open PySem PySem.W PySem.Calls PyProof.Rows
theorem wW   : ∀(ns)(vs),WellAll P h vs (ns.map WData.int)->IntsAre vs ns:=by
 intro ns;induction ns with
 |nil=>intro vs w;cases w;exact .nil
 |cons n ns ih=>
  intro vs w;cases w with
  |cons a b=>cases a;exact .cons _ _ (ih _ b)
theorem va{l:OpenLaw}{n:Nat}(hn:l.most=O n){P}{h}{args}{vals}
  (hpre:l.row.toRowW.claim.pre args=w5) (zQ:WellAll P h vals args) :
  ∃a vs ns,vals=[Value.ref a]/\args=[WData.list (ns.map WData.int)]/\h.get? a=O {cls:=.type "list", data:=.seq vs.toArray}/\IntsAre vs ns/\ns.length<=n:=by
 have hsh:WShape.hasAll [] args [.list .int]=w5:=(pre_splitW hpre).1;have hc   :=(pre_splitW hpre).2;obtain⟨d,r,rfl,h1,h2⟩:=hasAllW_cons hsh;obtain rfl:=hasAllW_nil h2;obtain⟨xs,rfl,h3⟩:=hasW_list h1;obtain⟨ns,rfl⟩:=items_int h3
 have hlen   :=by
  have h4   :=by have h4:=(holds_andW hc).1;rw[hn]at h4;exact h4
  have h5:=condW_of h4 (w_not (w_lt w_lit (w_len_list (w_arg wZ))))
  first
   |(exact absurd h5 _)
   |(simp at h5;omega)
 cases zQ with
 |cons w1 w2=>
  cases w2;cases w1 with
  |list ho hall=>exact⟨_,_,ns,rfl,rfl,ho,wW ns _ hall,hlen⟩
theorem xZ(l:OpenLaw)(args):l.row.toRowW.claim.post args (.bool w5) args=w5:=
 postW_of
  (show WShape.has [] _ .bool=w5 by first|rfl|decide|lia)
  (w_eq_bool (w_res wZ) w_lit) wZ
theorem attach_call{l:OpenLaw}{n:Nat}{q}{loose}{XP}{YP}{d}
  (hn:l.most=O n) (hdf:d.params.defaults=[])
  (call:∀(w:World)(s₀ s₁)(mg mb)(fa:Uq)(o:Obj)(pm cd doc)(a:Uq)(vs)(ns),
   Ground q loose [] XP w s₀ mg mb s₁.heap->YP w s₁.heap ->
   s₁.heap.get? fa=O o->o.data=.func (docDef d.name d.params d.body d.scope pm cd doc)->s₁.heap.CodeRec cd d.name->mg d.name=O (.ref fa) ->
   s₁.heap.get? a=O {cls:=.type "list", data:=.seq vs.toArray}->IntsAre vs ns->ns.length<=n->s₁.gens=#[] ->
   codeAny (model l.prog w) callerA (.call (.ref fa) ⟨[.ref a],[]⟩) (λr s'=>r=.ok (.ret (.bool w5))/\OldK s₁.heap s'.heap/\s'.os=s₁.os/\AllBare s'.gens) s₁) :
  WalkO q loose XP YP l.row.toRowW d [] (λf vs=>PySem.call f vs):=by
 intro w s₀ s₁ mg mb G Y fa o pm cd doc dV kV ho hd hcd hD hmg hg args vals as hpre hlay hrd zQ hlo;obtain rfl:dV=.none:=Dflts.none hD hdf;obtain rfl:kV=.none:=Dflts.noKw hD;obtain⟨a,vs,ns,rfl,rfl,hobj,hints,hlen⟩:=va hn hpre zQ;refine enter_call (codeAny_mono (call w s₀ s₁ mg mb fa o pm cd doc a vs ns G Y ho (fd_plain hd) hcd hmg hobj hints hlen hg) λr s' hq=>?_);obtain⟨rfl,h2,h3,h4⟩:=hq;exact⟨.inl ⟨.bool w5,.bool w5,[],rfl,λ_=>rfl,.bool w5,xZ l _,λ_=>⟨List.Pairwise.nil,λ_ hm=>(nomatch hm)⟩⟩,h2,h3,h4⟩
end Att
namespace L2
open PySem PySem.Spec PyProof.Rows
theorem Tb:∀{vs}{ns},IntsAre vs ns->Vals (ns.map V.int) vs
 |_,_,.nil=>.nil
 |_,_,.cons n t h=>.cons ⟨t,rfl⟩ (Tb h)
def Only(H:Hp):Prop:=∀b,H b=w4 ∨ ∃o xs,H b=O (.frz o (.lst xs))
theorem jz{P:Up}{w:World}{K:Frag}{mg mb:Str->yf}{CX:CXT}{k:Nat}{fa a:Uq}{fd:Ur}{x:Str}{sp:Sp}{s₁:Uo}{vs:yc}{ns:w8}
  (KX:K.In s₁.heap) (hns:s₁.heap.Ns mainGlobals mg) (hb:s₁.heap.Ns builtinsNs mb) (hbb:∀x:Str,x ≠ "__name__" -> mb x=bootBuiltins x) (hlim:s₁.heap.NoLimit) (hg:s₁.gens=#[])
  (ha:s₁.heap.get? a=O {cls:=.type "list", data:=.seq vs.toArray}) (hi:IntsAre vs ns) (hl:ns.length<=Ut) (hr:Room k callerA)
  (F:∀base:Heap,K.In base->base.Ns mainGlobals mg->FnOk P w K mg base CX k fa fd [x] sp) (hbind:∀(s:Uo)(u:Um),BindsTo s fd ⟨[u],[]⟩ [(x,u)])
  (zG:∀H:Hp,Only H->SqL K H a (ns.map V.int)->sp [.ref a] H (λv _=>v=.bl w5) λ_ _ _=>False)
  (hCX:∀H e s',CX [] H s₁ (λ_ _ _=>False) e s'->False) :
  codeAny (model P w) callerA (.call (.ref fa) ⟨[.ref a],[]⟩) (λr s'=>r=.ok (.ret (.bool w5))/\OldK s₁.heap s'.heap/\s'.os=s₁.os/\AllBare s'.gens) s₁:=by
 have rv:=Tb hi;have lenV:=hi.length
 have core:∀H:Hp,Only H->SqL K H a (ns.map V.int)->HOk P w H s₁.heap->(∀b,H b≠w4->b=a)->(H a≠w4->K.lookup a=w4) ->
   codeAny (model P w) callerA (.call (.ref fa) ⟨[.ref a],[]⟩) (λr s'=>r=.ok (.ret (.bool w5))/\OldK s₁.heap s'.heap/\s'.os=s₁.os/\AllBare s'.gens) s₁:=by
  intro H hO hS hok hA hK;have base_of:∀{b:Uq}{o:Obj},s₁.heap.get? b=O o->H b=w4->(YN s₁.heap H).get? b=O o:=λe n=>jJ e n
  have noA:∀{b:Uq}{o:Obj}{es:Array DictEntry}{ep:Nat},s₁.heap.get? b=O o->o.data=.dict es ep->H b=w4:=λ{b o es ep} e d=>by
   cases q:H b with
   |none=>rfl
   |some u=>have e':b=a:=hA b (by rw[q];simp);subst e';rw[ha]at e;cases e;have d'   :=d;cases d'
  have nsK:∀{b:Uq}{m:Str->yf},s₁.heap.Ns b m->(YN s₁.heap H).Ns b m:=λ{b m} ⟨o,es,ep,e,d,r⟩=>⟨o,es,ep,base_of e (noA e d),d,r⟩
  have hKb:K.In (YN s₁.heap H):=λb o e=>base_of (KX b o e) (by
   cases q:H b with
   |none=>rfl
   |some u=>have e':b=a:=hA b (by rw[q];simp);subst e';rw[hK (by rw[q];simp)]at e;cases e)
  have hM:Mod K mg (YN s₁.heap H):=⟨hKb,nsK hns,⟨mb,nsK hb,hbb⟩,let ⟨mc,h1,h2⟩:=hlim;⟨mc,nsK h1,h2⟩⟩
  have e0:Env0 P w K mg (YN s₁.heap H) callerA [] s₁ H:=⟨rfl,hM,λb o e=>AD e,Nat.le_of_eq (xz _ _),trivial,λb hb=>absurd (show b∈([]:ye)from hb) (by simp),hok,.of_eq hg⟩
  refine codeAny_mono ((F _ hKb (nsK hns)).run callerA [] s₁ H ⟨[.ref a],[]⟩ [.ref a] [.ref a] _ _ hr e0 (hbind s₁ (.ref a)) (.cons wZ .nil) (zG H hO hS)) λr s' h=>?_
  cases r with
  |error e=>exact(hCX H e s' h).elim
  |ok fl=>
   cases fl with
   |next=>exact False.elim h
   |brk=>exact False.elim h
   |cont=>exact False.elim h
   |ret u=>
    obtain⟨v,H',os,bare,un,hok',r',q⟩:=h;have q':v=.bl w5:=q;subst q';obtain rfl:u=Value.bool w5:=r';refine⟨rfl,OldK.of_keep λb o e=>?_,os,bare⟩;cases q:H b with
    |none=>exact un.keep b o e q (by intro z;exact absurd (show b∈([]:ye)from z) (by simp)) (by simp)
    |some u=>
     rcases hO b with z|⟨ob,xs,z⟩
     .rw[q]at z;cases z
     .have z2:=un.frzs b ob _ z
      obtain⟨e1,_⟩:=hok b _ z;obtain⟨e2,_⟩:=hok' b _ z2;rw[e]at e1;cases e1;exact e2
 cases hk:K.lookup a with
 |some o=>have e:=KX a o hk;rw[ha]at e;cases e;refine core (λ_=>w4) (λ_=>.inl wZ) (.inr ⟨_,vs.toArray,_,hk,rfl,rfl,rfl,by rw[List.size_toArray,lenV];exact hl,by simpa using rv⟩) (λb u z=>by have z':(none:Option HO)=O u:=z;cases z') (λb z=>absurd wZ z) λz=>absurd wZ z
 |none=>
  refine core (λb=>if b=a then O _ else w4) (λb=>?_) (.inl (.inr ⟨{cls:=.type "list", data:=.seq vs.toArray},Qp wZ⟩)) (λb u z=>?_) (λb z=>?_) λ_=>hk
  .by_cases hb:b=a
   .exact .inr ⟨_,_,Qp hb⟩
   .exact .inl (Qw hb)
  .by_cases hb:b=a
   .have z':=(Qp hb).symm.trans z
    cases z';subst hb;exact⟨ha,by rw[Qb];exact hl,vs,_,rv,ha⟩
   .have z':=(Qw hb).symm.trans z
    cases z'
  .by_cases hb:b=a
   .exact hb
   .exact absurd (Qw hb) z
noncomputable def Rk(s:Stmt):Arguments:=match s with
 |.FunctionDef _ a _ _ _ _ _ _ _ _=>a
 |_=>{posonlyargs:=[],args:=[],vararg:=w4,kwonlyargs:=[],kw_defaults:=[],kwarg:=w4,defaults:=[]}
noncomputable def WT(s:Stmt):List Stmt:=match s with
 |.FunctionDef _ _ b _ _ _ _ _ _ _=>b
 |_=>[]
noncomputable def Yh(s:Stmt):Scope:=match s with
 |.FunctionDef _ _ _ _ _ _ sc _ _ _=>sc
 |_=>{kind:=.function,names:=[],isGenerator:=w6,isCoroutine:=w6}
noncomputable abbrev CX0:CXT:=λ_ _ _ _ _ _=>False
noncomputable abbrev E0:XK:=λ_ _ _=>False
theorem Dj{X:Cx}:O6 CX0 X E0:=λ_ _ _ _ _ _ _ h=>h.elim
structure Fun(K:Frag)(x qual:Str)(st:Stmt)(f:Uq)(fd:Ur):Prop where
 ex:∃(oc:Um)(od:yk)(kV doc pm:Um)(an:yk)(cdv ct:Um)(osl:Array yf),
  fd=PySem.W.fnOf x qual (Rk st) (WT st) (Yh st) .none kV doc pm an cdv ct/\K.lookup f=O ⟨oc,od,.func fd,osl⟩/\PySem.W.codeIn K cdv qual=w5
 kp:PySem.W.keepIn K (.ref f)=w5
section
variable{P:Up}{w:World}{K:Frag}{mg:Str->yf}{base:Heap}
theorem Fun.ok  {st}{f}{fd}{N ps}{k}{sp}(F:Fun K x qual st f fd)(S:RX N ps (Yh st))(len:∀vs H Q E,sp vs H Q E->vs.length=ps.length)
  (hbody:∀(cdv)(A)(outer)(s)(H)(vs)(Q:VK)(E),Room k (A.deeper (envOfC qual (Yh st) s.heap.objs.size f cdv))->sp vs H Q E ->
   ∃t,PSs (Xg CX0 P w K mg base N qual (Yh st) f cdv A outer s H E).nox (WT st) t/\t {nx:=λ_ H'=>Q .non H',rt:=Q} (Wk N vs) H):FnOk P w K mg base CX0 (k+1) f fd ps sp:=by
 obtain⟨oc,od,kV,doc,pm,an,cdv,ct,osl,rfl,lk,hcd⟩:=F.ex;refine Dl lk hcd S len λA outer s H vs Q E hr zG=>?_
 obtain⟨t,h,q⟩:=hbody cdv A outer s H vs Q E hr zG;exact⟨t,h.nox,q⟩
theorem Fun.binds  {st}{f}{fd}{ps}(F:Fun K x qual st f fd)
  (h:∀(kV doc pm)(an)(cdv ct)(us),us.length=ps.length->bindArgs (PySem.W.fnOf x qual (Rk st) (WT st) (Yh st) .none kV doc pm an cdv ct) ⟨us,[]⟩=pure (ps.zip us)):VS K fd ps []:=by
 obtain⟨oc,od,kV,doc,pm,an,cdv,ct,osl,rfl,lk,hcd⟩:=F.ex;exact .all (h kV doc pm an cdv ct)
end
def Same(H H':Hp):Prop:=∀b o,H b=O o->H' b=O o
theorem Same.refl(H:Hp):Same H H:=λ_ _ h=>h
theorem Same.trans{H H1 H2:Hp}(a:Same H H1)(b:Same H1 H2):Same H H2:=λc o h=>b c o (a c o h)
theorem Same.free  (e:Same H H'){l}(h:H' l=Option.none):H l=Option.none:=by
 cases q:H l with
 |none=>rfl
 |some o=>rw[e l o q]at h;cases h
theorem Same.seq{K}{H H'}{a}{xs}(e:Same H H')(h:SqL K H a xs):SqL K H' a xs:=by
 rcases h with (h|⟨o,h⟩)|h
 .exact .inl (.inl (e _ _ h))
 .exact .inl (.inr ⟨o,e _ _ h⟩)
 .exact .inr h
section
variable{X:Cx}{pins:List (Uq×Obj)}{σ:St}{H:Hp}{s:Uo}{h':Heap}
theorem Inv.turnedNew  {fp:ye}{p:Uq}{o:HO}(I:Inv X pins σ H s)(hf:∀b∈fp,ZO X pins H b)
  (k:∀b o,b∉fp->s.heap.get? b=O o->h'.get? b=O o) (hp:s.heap.objs.size<=p) (new:Ys X.prog X.w (upd H p o) h' p o) :
  Inv X pins σ (upd H p o) {s with heap:=h',toks:=t'}:=by
 have hn   :=I.hok.fresh hp;have trk:∀b u,H b=O u->b∉fp:=λb u e z=>by rw[(hf b z).1]at e;cases e
 refine I.step   (ch:=fp) (λb hb=>?_) (λb o _ _ hc e _=>k b o hc e) (λb o _ _ hc e _=>⟨o.slots,k b o hc e⟩)
  (λb o _ e n=>by rw[KH (QX (QH (Ql e) hp))];exact n) (λb o hc e=>⟨o,k b o hc e⟩)
  (λb xs e=>by rw[KH (Yx e hn)];exact e) (λb ob u e=>by rw[KH (Yx e hn)];exact e) (λb ps e=>⟨#[],by rw[KH (Yx e hn),e];simp⟩)
  (λm hm=>?_) (λb u e=>?_) I.bare
 .obtain⟨_,f1,_,f3,f4,f5⟩:=hf b hb
  exact⟨f3,f1,f4,f5⟩
 .obtain⟨ob,es,ep,ho,r⟩:=hm
  exact⟨ob,es,ep,k _ ob (λz=>(hf _ z).2.1 wZ) ho,r⟩
 .by_cases hb:b=p
  .subst hb;rw[Zp]at e;cases e;exact new
  .rw[KH hb]at e
   refine(I.hok b u e).stay (λc v hc q=>k c v ?_ q) (λc q=>by rw[KH (Yx q hn)];exact q) λc xs q=>by rw[KH (Yx q hn)];exact q
   rcases hc with z|z
   .rw[z];exact trk b u e
   .exact trk c _ z
theorem Inv.turnedL  {fp:ye}(I:Inv X pins σ H s)(hf:∀b∈fp,ZO X pins H b)
  (k:∀b o,b∉fp->s.heap.get? b=O o->h'.get? b=O o):Inv X pins σ H {s with heap:=h',toks:=t'}:=by
 have trk:∀b u,H b=O u->b∉fp:=λb u e z=>by rw[(hf b z).1]at e;cases e
 refine I.step    (λb hb=>?_) (λb o _ _ hc e _=>k b o hc e) (λb o _ _ hc e _=>⟨o.slots,k b o hc e⟩)
  (λ_ _ _ _ n=>n) (λb o hc e=>⟨o,k b o hc e⟩) (λ_ _ e=>e) (λ_ _ _ e=>e) (λb ps e=>⟨#[],by simp_all⟩) (λm hm=>?_) (λb u e=>?_) I.bare
 .obtain⟨_,f1,_,f3,f4,f5⟩:=hf b hb
  exact⟨f3,f1,f4,f5⟩
 .obtain⟨ob,es,ep,ho,r⟩:=hm
  exact⟨ob,es,ep,k _ ob (λz=>(hf _ z).2.1 wZ) ho,r⟩
 .refine(I.hok b u e).stay (λc v hc q=>k c v ?_ q) (λc q=>q) λc xs q=>q
  rcases hc with z|z
  .rw[z];exact trk b u e
  .exact trk c _ z
end
noncomputable def Ite(K:Frag)(a:Uq):It:=
 ⟨λi H=>∃xs x,SqL K H a xs/\xs[i]?=O x,
  λi H v H'=>∃p x,H p=w4/\v=.ref p/\(∀xs,SqL K H a xs->xs[i]?=O x)/\H'=upd H p (.tup [.int i,x]),
  λi H=>∃xs,SqL K H a xs/\xs.length<=i⟩
theorem xY{P:Up}{w:World}{K:Frag}{elts:yb}{x1}{tp:Pos}(a e it:Uq)(hne:e≠it) :
  Turn P w K (.Tuple elts x1 tp) (Ite K a) [e,it] e (λi h=>(∃old,IsEnum h e it i old)/\h.IsListIter it a i) where
 mem:=by simp
 obj:=λi h st b hb=>by
  obtain⟨⟨old,he⟩,o,ho,c,d⟩:=st;have hb':b=e∨b=it:=by simpa using hb
  rcases hb' with rfl|rfl
  .exact⟨_,he,λv z=>by have z'   :=z;cases z'⟩
  .exact⟨o,ho,λv z=>by rw[d]at z;cases z⟩
 keep:=λi h h' st k=>by obtain⟨⟨old,he⟩,hi⟩:=st;exact⟨⟨old,k e (by simp) _ he⟩,hi.at λo q=>k it (by simp) o q⟩
 item:=by
  intro X hP hw hK hc i pins s σ H E I hf st hg;subst hP hw hK;obtain⟨⟨old,he⟩,hi⟩:=st;obtain⟨xs,x,hq,hx⟩:=hg;obtain⟨its,rv,p,hz⟩:=I.list hq;obtain⟨u,hu,ru⟩:=rv.get hx;refine wpAny_pyNext_enum_item he hi p.isList (x:=u) (by simpa using hu) hne λh1 out hi1 ht hsz kk=>?_
  refine⟨_,rfl,wpAny_letOwnedTupleGo_enum out λh2 yQ hs2=>?_⟩;have hel:e<s.heap.objs.size:=Ql he;have yu:Heap.SameBut e h1 h2:=hs2;have ht2   :=(yu.2 _ (JJ hel)).trans ht
  have kk2:∀b o,b∉[e,it]->s.heap.get? b=O o->h2.get? b=O o:=λb o hb q=>by
   have yw:b≠e:=λz=>hb (by simp[z])
   have hbi:b≠it:=λz=>hb (by simp[z])
   exact(yu.2 b yw).trans (kk b o yw hbi q)
  have hn:H s.heap.objs.size=w4:=I.hok.fresh (Qv _)
  have I2:Inv X pins σ (upd H s.heap.objs.size (.tup [.int i,x])) {s with heap:=h2,toks:=s.toks+1}:=
   I.turnedNew (fp:=[e,it]) hf kk2 (Qv _) ⟨by show 2<=Ut;decide,[.int i s.toks,u],.cons ⟨_,rfl⟩ (.cons ru .nil),⟨_,ht2,rfl,_,rfl⟩⟩
  refine⟨.ref s.heap.objs.size,_,I2,rfl,⟨_,x,hn,rfl,λys hy=>by rw[I.list_inj hy hq];exact hx,rfl⟩,⟨⟨u,?_⟩,?_⟩,λb hb=>?_⟩
  .have:=yQ
   simpa using this
  .have hi2:h2.IsListIter it a (i+1):=hi1.at λo q=>(yu.2 it (Ne.symm hne)).trans q
   exact hi2
  .have fr:=(hf b hb)
   have hlt:b<s.heap.objs.size:=by
    have hb':b=e∨b=it:=by simpa using hb
    rcases hb' with rfl|rfl
    .exact hel
    .obtain⟨o,ho,_⟩:=hi;exact Ql ho
   rw[KH (QX hlt)];exact fr.1
 done:=by intro X hP hw hK hc i pins s σ H E I hf st hg;subst hP hw hK;obtain⟨⟨old,he⟩,hi⟩:=st;obtain⟨xs,hq,hx⟩:=hg;obtain⟨its,rv,p,hz⟩:=I.list hq;have hl:=rv.length;exact wpAny_pyNext_enum_end (I.ok.hd hc) he hi p.isList (by simp;omega) λh' eb=>⟨rfl,I.turnedL (t':=s.toks) hf λb o hb q=>eb b o (λz=>hb (by simp[z])) q⟩
 self:=λ_ _ _ _ _ st h=>by obtain⟨⟨old,he⟩,_⟩:=st;exact wpAny_pyIter_enum he h
section
variable{X:Cx}
noncomputable def Di(K:Frag)(ta:TA):TI:=λσ H R=>ta σ H λvs H1=>∃a xs,vs=[.ref a]/\SqL K H1 a xs/\R (Ite K a) H1
theorem AO   {p pos:Pos}{elts}{x1}{tp:Pos}(hg:Gl X "enumerate")(hm:X.mg "enumerate" = w4)(ha:PA X [a] ta)
  (hs:Uv [a] X.env=[(w6,eval a X.env)]:=by rfl):PI X (.Tuple elts x1 tp) (.Call (.Name "enumerate" p) [a] [] pos) (Di X.K ta):=by
 intro pins s σ H R I h;refine Call_ (Th I hg hm boot_enumerate (PyProof.Rows.callWith_type1 (thn (ha pos pins s σ H _ I h) λus s1 ⟨vs,H1,I1,r1,q1⟩=>?_) hs wZ));obtain⟨l,xs,e,hq,q⟩:=q1;subst e;cases r1 with
 |cons r rr=>
  cases rr;cases (r);obtain⟨its,rv,pl,hz⟩:=I1.list hq;refine call_enumerate_list pl.isList λh' he hi hsz kk=>?_;have I2   :=I1.kept (t':=s1.toks) kk;refine wpAny_pyIter_enum he ?_
  refine⟨s1.heap.objs.size+1,[s1.heap.objs.size+1,s1.heap.objs.size],_,_,H1,rfl,I2,xY l _ _ (Nat.succ_ne_self _),⟨⟨_,he⟩,hi⟩,λb hb=>?_,q⟩;have hb'   :=by simpa using hb
  rcases hb' with rfl|rfl
  .exact I1.fpOk (JV _) (I1.hok.fresh (JV _))
  .exact I1.fpOk (Qv _) (I1.hok.fresh (Qv _))
end
section
variable{κ:Type}[DecidableEq κ]
noncomputable def ZL(kvs:List (κ×V))(k:κ):Option V:=(kvs.find? λkv=>decide (kv.1=k)).map (·.2)
noncomputable def Zl(kvs:List (κ×V))(k:κ)(v:V):List (κ×V):=
 if(kvs.any λkv=>decide (kv.1=k))=w5 then kvs.map (λkv=>if kv.1=k then(kv.1,v)else kv)else kvs++[(k,v)]
theorem NS   {k:κ}(e:p.1=k):ZL (p::r) k=O p.2:=by simp[ZL,e]
theorem NR   {k:κ}(e:¬p.1=k):ZL (p::r) k=ZL r k:=by simp[ZL,e]
theorem Og(k):∀kvs:List (κ×V),(kvs.any λkv=>decide (kv.1=k))=(ZL kvs k).isSome
 |[]=>rfl
 |p::r=>by
  rw[List.any_cons];by_cases e:p.1=k
  .simp only[NS e,QW e,Bool.true_or,Option.isSome_some]
  .rw[NR e,QQ e];exact Og k r
theorem MG(kvs)(k:κ)(v):(Zl kvs k v).length<=kvs.length+1:=by
 unfold Zl;split
 .simp_all
 simp_all
theorem RelO.isSome_eq   (r:RelO o u):o.isSome=u.isSome:=by
 cases o with
 |none=>cases u with
  |none=>rfl
  |some _=>exact(r).elim
 |some _=>cases u with
  |none=>exact(r).elim
  |some _=>rfl
theorem KV.val   (r:KV kvs vs)(k:κ):RelO (ZL kvs k) (valueAt vs k):=by
 induction r with
 |nil=>exact True.intro
 |@cons p q ps qs h t ih=>
  obtain⟨h1,h2⟩:=h;by_cases e:p.1=k
  .have e'   :=h1.symm.trans e
   have b:valueAt (q::qs) k=O q.2:=by simp[valueAt,e']
   rw[NS e,b];exact h2
  .have e':¬q.1=k:=λz=>e (h1.trans z)
   have b:valueAt (q::qs) k=valueAt qs k:=by simp[valueAt,e']
   rw[NR e,b];exact ih
theorem KV.any   (r:KV kvs vs)(k:κ):(kvs.any λkv=>decide (kv.1=k))=vs.any λkv=>decide (kv.1=k):=by
 induction r with
 |nil=>rfl
 |cons h t ih=>simp_all
theorem KV.repl   (r:KV kvs vs)(k:κ){y}{u}(ry:RelV y u) :
  KV (kvs.map λkv=>if kv.1=k then(kv.1,y)else kv) (vs.map λkv=>if kv.1=k then(kv.1,u)else kv):=by
 induction r with
 |nil=>exact .nil
 |@cons p q ps qs h t ih=>
  rw[Qt,Qt];refine .cons ?_ ih;obtain⟨h1,h2⟩:=h;by_cases e:p.1=k
  .rw[Qp e,Qp (h1.symm.trans e)];exact⟨h1,ry⟩
  .rw[Qw e,Qw (λz=>e (h1.trans z))];exact⟨h1,h2⟩
theorem KV.put   (r:KV kvs vs)(k:κ){y}{u}(ry:RelV y u):KV (Zl kvs k y) (stored vs k u):=by
 unfold Zl stored;rw[r.any k];by_cases e:(vs.any λkv=>decide (kv.1=k))=w5
 .rw[Qp e,Qp e];exact r.repl k ry
 .rw[Qw e,Qw e];exact Paired.snoc r ⟨rfl,ry⟩
theorem KV.length  {vs:List (κ×Um)}(r:KV kvs vs):kvs.length=vs.length:=Paired.length r
end
theorem SK   {k}{u}(r:RelV (kV k) u):(Y7 P w).is k u=w5:=by
 cases k with
 |inl i=>obtain⟨t,e⟩:=(r);subst e;exact v4 P w i t
 |inr x=>obtain⟨t,e⟩:=(r);subst e;exact v3 P w x t
theorem FE   : ∀{ks}{us},Vals (ks.map kV) us->ItemsAre (Y7 P w) ks us
 |[],_,r=>by cases r;exact .nil
 |k::ks,_,r=>by
  cases r with
  |cons h t=>exact .cons (SK h) (FE t)
noncomputable abbrev KT(H:Hp):List (yj×V)->List (yj×Uq×Um)->Prop:=Paired λp q=>p.1=q.1/\H q.2.1=O (.tup (p.1.map kV))/\RelV p.2 q.2.2
theorem KT.val    (r:KT H kvs xs)(k):RelO (ZL kvs k) ((atKey xs k).map (·.2)):=by
 induction r with
 |nil=>exact True.intro
 |@cons p q ps qs h t ih=>
  obtain⟨h1,_,h2⟩:=h;by_cases e:p.1=k
  .have e'   :=h1.symm.trans e
   have b:atKey (q::qs) k=O q.2:=by simp[atKey,e']
   rw[NS e,b];exact h2
  .have e':¬q.1=k:=λz=>e (h1.trans z)
   have b:atKey (q::qs) k=atKey qs k:=by simp[atKey,e']
   rw[NR e];simp_all
theorem KT.repl    (r:KT H kvs xs)(k){y}{u}(ry:RelV y u) :
  KT H (kvs.map λkv=>if kv.1=k then(kv.1,y)else kv) (xs.map (putAt k u)):=by
 induction r with
 |nil=>exact .nil
 |@cons p q ps qs h t ih=>
  rw[Qt];refine .cons ?_ ih;obtain⟨h1,h2,h3⟩:=h;unfold putAt;by_cases e:p.1=k
  .rw[Qp e,Qp (h1.symm.trans e)];exact⟨h1,h2,ry⟩
  .rw[Qw e,Qw (λz=>e (h1.trans z))];exact⟨h1,h2,h3⟩
theorem KT.put  {kvs}{xs}(r:KT H kvs xs)(k){b}{y:V}{u}(hb:H b=O (.tup (k.map kV)))(ry:RelV y u) :
  KT H (Zl kvs k y) (storedH xs k b u):=by
 have e:(kvs.any λkv=>decide (kv.1=k))=(atKey xs k).isSome:=by rw[Og,(r.val k).isSome_eq,Option.isSome_map]
 unfold Zl storedH;rw[e];by_cases q:(atKey xs k).isSome=w5
 .rw[Qp q,Qp q];exact r.repl k ry
 .rw[Qw q,Qw q];exact Paired.snoc r ⟨rfl,hb,ry⟩
theorem KT.keeps  {kvs}{xs}(r:KT H kvs xs)(ht:∀b ys,H b=O (.tup ys)->H' b=O (.tup ys)):KT H' kvs xs:=
 Paired.mapP r λ_ _ z=>⟨z.1,ht _ _ z.2.1,z.2.2⟩
section
variable{P:Up}{w:World}{H:Hp}{h:Heap}{a:Uq}
theorem M0{u:HO}(ok:HOk P w H h)(e:Rd H a u):Ys P w H h a u:=e.ok ok
theorem RD  (ok:HOk P w H h)(e:Rd H a (.dK kvs)):kvs.length<=Ut/\(a==sysModules)=w6/\∃vs,KV kvs vs/\h.DictOf (Y7 P w) a vs:=
 M0 ok e
theorem MZ  (ok:HOk P w H h)(e:H a=O (.dK kvs)):kvs.length<=Ut/\(a==sysModules)=w6/\∃vs,KV kvs vs/\h.DictOf (Y7 P w) a vs:=RD ok (.inl e)
theorem RP  (ok:HOk P w H h)(e:H a=O (.tup (ks.map kV))):(tupleKind (Y7 P w)).is h ks a:=by
 obtain⟨_,its,r,o,h1,h2,n,h3⟩:=(ok a _ e)
 exact⟨o,its.toArray,n,h1,h2,h3,by simpa using FE r⟩
theorem RC  (ok:HOk P w H h)(e:Rd H a (.dT kvs)):kvs.length<=Ut/\(a==sysModules)=w6 /\
  ∃xs,KT H kvs xs/\h.DictOfH (tupleKind (Y7 P w)) a xs:=by
 obtain⟨z,y,xs,r,o,es,ep,h1,h2,h3,h4,h5⟩:=(M0 ok e)
 refine⟨z,y,xs,r,o,es,ep,h1,h2,h3,h4,λx hx=>?_,h5⟩
 have all:∀{l:List _}{m:List _},KT H l m->∀x∈m,(tupleKind (Y7 P w)).is h x.1 x.2.1:=by
  intro l m q;induction q with
  |nil=>simp_all
  |@cons p q ps qs hq t ih=>
   intro x hx;rcases QE.mp hx with e|hx
   .exact RP ok (by simp_all)
   .exact ih x hx
 exact all r x hx
theorem Dh  (ok:HOk P w H h)(e:H a=O (.dT kvs)):kvs.length<=Ut/\(a==sysModules)=w6 /\
  ∃xs,KT H kvs xs/\h.DictOfH (tupleKind (Y7 P w)) a xs:=RC ok (.inl e)
end
def YT(H:Hp)(a:Uq)(y:V)(r:Option V):Prop:=
 (∃kvs k,Rd H a (.dK kvs)/\y=kV k/\r=ZL kvs k) ∨ ∃kvs k b,Rd H a (.dT kvs)/\y=.ref b/\H b=O (.tup (k.map kV))/\r=ZL kvs k
def DPut(H:Hp)(a:Uq)(y v:V)(H':Hp):Prop:=
 (∃kvs k,H a=O (.dK kvs)/\y=kV k/\kvs.length<Ut/\H'=upd H a (.dK (Zl kvs k v))) ∨
 ∃kvs k b,H a=O (.dT kvs)/\y=.ref b/\H b=O (.tup (k.map kV))/\kvs.length<Ut/\H'=upd H a (.dT (Zl kvs k v))
theorem DPut.k    {k}{v}(e:H a=O (.dK kvs))(hl:kvs.length<Ut):DPut H a (kV k) v (upd H a (.dK (Zl kvs k v))):=.inl ⟨kvs,k,e,rfl,hl,rfl⟩
section
variable{X:Cx}{pins:List (Uq×Obj)}{σ:St}{H:Hp}{s:Uo}{a:Uq}{y v:V}{u r:Um}{o:Option V}{A:Around}{E:Um->Uo->Prop}
theorem Inv.big(I:Inv X pins σ H s):sysModules<s.heap.objs.size:=by have h   :=(I.mod.glob.keeps I.bk).lt;exact Nat.lt_trans (by decide) h
theorem xX  (hu:A.units+1<cLine)(I:Inv X pins σ H s)(g:YT H a y (O v))(ry:RelV y u)(h:∀w' s',Inv X pins σ H s'->RelV v w'->Q w' s') :
  Uu (model X.prog X.w) A (getItem (.ref a) u) Q E s:=by
 rcases g with ⟨kvs,k,e,ey,l⟩|⟨kvs,k,b,e,ey,eb,l⟩
 .subst ey
  obtain⟨z,hd,vs,rel,dd⟩:=RD I.hok e;obtain⟨w',hw,yr⟩:=RelO.some_of   (by rw[l];exact rel.val k);exact wpAny_getItem_of (SK ry) dd.mapOf hw (h w' _ (I.tok _) yr)
 .subst ey
  cases (ry);obtain⟨z,hd,xs,rel,dd⟩:=RC I.hok e;obtain⟨w',hw,yr⟩:=RelO.some_of   (by rw[l];exact rel.val k);obtain⟨p,hp,zn⟩:=Option.map_eq_some_iff.mp hw;refine wpAny_getItem_heap (tupleKind_room_in1 hu) (RP I.hok eb) dd hp ?_;rw[zn];exact h w' _ (I.tok _) yr
theorem d_in  (hu:A.units+1<cLine)(I:Inv X pins σ H s)(g:YT H a y o)(ry:RelV y u)(h:∀s',Inv X pins σ H s'->Q (.bool o.isSome) s') :
  Uu (model X.prog X.w) A (Uw .In u (.ref a)) Q E s:=by
 rcases g with ⟨kvs,k,e,ey,l⟩|⟨kvs,k,b,e,ey,eb,l⟩
 .subst ey
  obtain⟨z,hd,vs,rel,dd⟩:=RD I.hok e;refine wpAny_in_of (SK ry) hd dd.mapOf ?_;rw[←(rel.val k).isSome_eq,←l];exact h _ (I.tok _)
 .subst ey
  cases (ry);obtain⟨z,hd,xs,rel,dd⟩:=RC I.hok e;refine wpAny_in_heap (tupleKind_room_in1 hu) (RP I.hok eb) hd dd ?_;have q:=(rel.val k).isSome_eq;rw[Option.isSome_map]at q;rw[←q,←l];exact h _ (I.tok _)
theorem AN  (hu:A.units+1<cLine)(I:Inv X pins σ H s)(g:YT H a y o)(ry:RelV y u)(h:∀s',Inv X pins σ H s'->Q (.bool (!o.isSome)) s') :
  Uu (model X.prog X.w) A (Uw .NotIn u (.ref a)) Q E s:=by
 rcases g with ⟨kvs,k,e,ey,l⟩|⟨kvs,k,b,e,ey,eb,l⟩
 .subst ey
  obtain⟨z,hd,vs,rel,dd⟩:=RD I.hok e;refine wpAny_notIn_of (SK ry) hd dd.mapOf ?_;rw[←(rel.val k).isSome_eq,←l];exact h _ (I.tok _)
 .subst ey
  cases (ry);obtain⟨z,hd,xs,rel,dd⟩:=RC I.hok e;refine wpAny_notIn_heap (tupleKind_room_in1 hu) (RP I.hok eb) hd dd ?_;have q:=(rel.val k).isSome_eq;rw[Option.isSome_map]at q;rw[←q,←l];exact h _ (I.tok _)
theorem Nx   {ob}(I:Inv X pins σ H s)(mu:Mut (H a))(hs:Heap.SameBut a s.heap h')(he:∃q,h'.get? a=O q)(new:Ys X.prog X.w (upd H a ob) h' a ob) :
  Inv X pins σ (upd H a ob) {s with heap:=h',toks:=t'}:=
 I.write   mu (.inl wZ) (λb q hb z=>(hs.2 b hb).trans z) he new
theorem LA     {kvs}{vs}(z:kvs.length<=Ut)(hd:(a==sysModules)=w6)(rel:KV kvs vs)(dd:h'.DictOf (Y7 P w) a vs) :
  Ys P w H' h' a (.dK kvs):=⟨z,hd,vs,rel,dd⟩
theorem xW{H':Hp}{Q}(hu:A.units+1<cLine)(I:Inv X pins σ H s)(g:DPut H a y v H')(ry:RelV y u)(rv:RelV v r)(h:∀s',Inv X pins σ H' s'->Q () s') :
  Uu (model X.prog X.w) A (setItem (.ref a) u r) Q E s:=by
 rcases g with ⟨kvs,k,e,ey,l,eH⟩|⟨kvs,k,b,e,ey,eb,l,eH⟩
 .subst ey eH
  obtain⟨z,hd,vs,rel,dd⟩:=MZ I.hok e;have hz:vs.length<=Ut:=by rw[←rel.length];exact z
  have hl:(Zl kvs k v).length<=Ut:=by have:=MG kvs k v;omega
  refine wpAny_setItem_pairs (hsz:=hz) (SK ry) dd λh' yJ hs=>h _ ?_;have he:∃q,h'.get? a=O q:=let ⟨q,_,_,hq,_⟩:=yJ;⟨q,hq⟩
  exact Nx I (by rw[e];exact True.intro) hs he (LA hl hd (rel.put k rv) yJ)
 .subst ey eH
  cases (ry);obtain⟨z,hd,xs,rel,dd⟩:=Dh I.hok e;have hz:xs.length<=Ut:=by rw[←Paired.length rel];exact z
  have hl:(Zl kvs k v).length<=Ut:=by have:=MG kvs k v;omega
  refine wpAny_setItem_heap (hsz:=hz) (tupleKind_room_in1 hu) (RP I.hok eb) dd λh' yJ hs=>h _ ?_
  obtain⟨q,es,ep,hq,h2,h3,h4,_,h5⟩:=yJ;refine Nx I (by rw[e];exact True.intro) hs ⟨q,hq⟩ ⟨hl,hd,_,(rel.put k eb rv).keeps λc ys ec=>?_,q,es,ep,hq,h2,h3,h4,h5⟩;rw[KH (Ce ec e (λz=>nomatch z))];exact ec
end
def Va(i:Us):Prop:=∀ov iv,subscripted i w6 ov iv=operate [ov,iv] (getItem ov iv)
theorem AM    {E}{s}{env:Env}{value slice}{pos}{T id}{Q}
  (hl:typeLookup (.type T) "__getitem__" = pure (O (.builtin id))) (hs:Va slice)
  (h:Uu (model prog w) A (eval value env) (λo s₁=>Uu (model prog w) A (eval slice env) (λi s₂=>s₂.TypeIs o T/\Uu (model prog w) A (getItem o i) Q E s₂) E s₁) E s) :
  Uu (model prog w) A (eval (.Subscript value slice pos) env) Q E s:=by
 refine Subscript_ (QL h (λo s₁ h₁=>QL h₁ (λi s₂ h₂=>?_) λ_ _ x=>x) λ_ _ x=>x);obtain⟨hT,h₂⟩:=h₂;refine Qf ?_;refine Qf (wpAny_specialOf hT hl ?_);have fin:Uu (model prog w) A (subscripted slice w6 o i) (λr s₃=>Uu (model prog w) A (letTemporaryGo value o r >>= λ_=>pure r) Q E s₃) E s₂:=by rw[hs o i];exact wpAny_operating (QL h₂ (λr s₃ h₃=>Qf (wpAny_letTemporaryGo (Qq h₃))) λ_ _ x=>x)
 first
  |exact Qq (Qf fin)
  |exact Qf _
  |exact Qf fin
theorem wo   {σ:St}{H}{s}{a}{y}{o}(I:Inv X pins σ H s)(g:YT H a y o):s.TypeIs (.ref a) "dict" :=by
 rcases g with ⟨kvs,k,e,_,_⟩|⟨kvs,k,b,e,_,_,_⟩
 .obtain⟨_,_,vs,_,dd⟩:=RD I.hok e
  exact dd.typeIs
 .obtain⟨_,_,xs,_,dd⟩:=RC I.hok e
  exact dd.typeIs
noncomputable def Dg(td ty:TE):TE:=λσ H Q=>td σ H λx H1=>ty σ H1 λy H2=>∃a v,x=.ref a/\YT H2 a y (O v)/\Q v H2
noncomputable def tDIn(ty td:TE):TE:=λσ H Q=>ty σ H λy H1=>td σ H1 λx H2=>∃a o,x=.ref a/\YT H2 a y o/\Q (.bl o.isSome) H2
noncomputable def AL(ty td:TE):TE:=λσ H Q=>ty σ H λy H1=>td σ H1 λx H2=>∃a o,x=.ref a/\YT H2 a y o/\Q (.bl (!o.isSome)) H2
noncomputable def Df(td ty tv:TE):TS:=λD σ H=>tv σ H λv H1=>td σ H1 λx H2=>ty σ H2 λy H3=>∃a H4,x=.ref a/\DPut H3 a y v H4/\D.nx σ H4
section
variable{X:Cx}{o i e value:Us}{pos pos' tpos:Pos}{td ty tv:TE}
theorem HX(hu:X.A.units+1<cLine)(ho:PE X o td)(hi:PE X i ty)(hs:Va i):PE X (.Subscript o i pos) (Dg td ty):=by intro pins s σ H Q I h;refine AM PySem.F.slot_dict_getitem.lookup hs (thn (ho pins s σ H _ I h) λu s1 ⟨x,H1,I1,rx,q1⟩=>thn (hi pins s1 σ H1 _ I1 q1) λiv s2 ⟨y,H2,I2,ry,a,v,ex,g,q2⟩=>?_);subst ex;obtain rfl:u=Value.ref a:=rx;exact⟨wo I2 g,xX hu I2 g ry λw' s3 I3 yr=>⟨v,H2,I3,yr,q2⟩⟩
theorem Bm(hu:X.A.units+1<cLine)(hi:PE X i ty)(ho:PE X o td):PC X .In i o (tDIn ty td):=by intro pins s σ H Q I h;refine thn (hi pins s σ H _ I h) λiv s1 ⟨y,H1,I1,ry,q1⟩=>thn (ho pins s1 σ H1 _ I1 q1) λu s2 ⟨x,H2,I2,rx,a,ov,ex,g,q2⟩=>?_;subst ex;obtain rfl:u=Value.ref a:=rx;exact d_in hu I2 g ry λs3 I3=>⟨.bl ov.isSome,H2,I3,rfl,q2⟩
theorem xV(hu:X.A.units+1<cLine)(hi:PE X i ty)(ho:PE X o td):PC X .NotIn i o (AL ty td):=by intro pins s σ H Q I h;refine thn (hi pins s σ H _ I h) λiv s1 ⟨y,H1,I1,ry,q1⟩=>thn (ho pins s1 σ H1 _ I1 q1) λu s2 ⟨x,H2,I2,rx,a,ov,ex,g,q2⟩=>?_;subst ex;obtain rfl:u=Value.ref a:=rx;exact AN hu I2 g ry λs3 I3=>⟨.bl _,H2,I3,rfl,q2⟩
theorem AK(hu:X.A.units+1<cLine)(ho:PE X o td)(hi:PE X i ty)(hv:PE X value tv)(hs:swapsWith value (O (.Subscript o i pos')) pos.line X.env=pure w6) :
  PS X (.Assign [.Subscript o i pos'] value pos) (Df td ty tv):=by
 intro pins s σ H D I h;refine wpAny_Assign_Subscript (thn (hv pins s σ H _ I h) λr s1 ⟨v,H1,I1,rv,q1⟩=>thn (ho pins s1 σ H1 _ I1 q1) λu s2 ⟨x,H2,I2,rx,q2⟩=>thn (hi pins s2 σ H2 _ I2 q2) λiv s3 ⟨y,H3,I3,ry,a,H4,ex,g,q3⟩=>?_) hs;subst ex;obtain rfl:u=Value.ref a:=rx;exact xW hu I3 g ry rv λs4 I4=>⟨σ,H4,I4,q3⟩
end
theorem jy    (h:Heap)(hb:sysModules<h.objs.size):Ys P w H (h.push {cls:=.type "dict", data:=.dict #[]}) h.objs.size (.dK []):=
 ⟨JM _,beq_eq_false_iff_ne.mpr (Ne.symm (QX hb)),[],.nil,Heap.DictOf.new h⟩
noncomputable def PM:List (TE×TE)->St->Hp->(List (V×V)->Hp->Prop)->Prop
 |[],_,H,Q=>Q [] H
 |(tk,tv)::r,σ,H,Q=>tk σ H λx H1=>tv σ H1 λy H2=>PM r σ H2 λps H3=>Q ((x,y)::ps) H3
noncomputable abbrev VV:List (V×V)->List (Um×Um)->Prop:=Paired λp q=>RelV p.1 q.1/\RelV p.2 q.2
def PPs(X:Cx)(pos:Pos)(keys:List (Option Us))(values:yb)(trs:List (TE×TE)):Prop:=
 ∀(pins:List (Uq×Obj))(s:Uo)(σ:St)(H:Hp)(Q:List (V×V)->Hp->Prop),Inv X pins σ H s->PM trs σ H Q ->
  Uu (model X.prog X.w) X.A (evalPairs (pairTrees keys values X.env pos)) (λvs s'=>∃ps H',Inv X pins σ H' s'/\VV ps vs/\Q ps H') X.xe s
theorem AJ   : PPs X pos [] [] []:=λpins s σ H Q I h=>pairTrees_nil_walk ⟨[],H,I,.nil,h⟩
theorem jw   {k v}{ks}{vs}{tk tv}{trs}(hk:PE X k tk)(hv:PE X v tv)(hr:PPs X pos ks vs trs) :
  PPs X pos (O k::ks) (v::vs) ((tk,tv)::trs):=λpins s σ H Q I h=>
 pairTrees_cons_walk (thn (hk pins s σ H _ I h) λu s1 ⟨x,H1,I1,rx,q1⟩=>thn (hv pins s1 σ H1 _ I1 q1) λw2 s2 ⟨y,H2,I2,ry,q2⟩=>
  thn (hr pins s2 σ H2 _ I2 q2) λws s3 ⟨ps,H3,I3,rel,q3⟩=>⟨(x,y)::ps,H3,I3,.cons ⟨rx,ry⟩ rel,q3⟩)
noncomputable def VY(kvs more:List (Key×V)):List (Key×V):=more.foldl (λacc kv=>Zl acc kv.1 kv.2) kvs
theorem KV.merge:∀{more}{rs}{kvs}{vs},KV more rs->KV kvs vs->KV (VY kvs more) (merged vs rs):=by
 intro more rs kvs vs r;induction r generalizing kvs vs with
 |nil=>intro q;exact q
 |@cons p q ps qs h t ih=>
  intro r0;have e:KV (Zl kvs p.1 p.2) (stored vs q.1 q.2):=by have:=r0.put p.1 h.2;simp_all
  exact ih e
theorem EW:∀(more kvs),(VY kvs more).length<=kvs.length+more.length
 |[],kvs=>by show kvs.length<=kvs.length+0;omega
 |p::r,kvs=>by
  have h1:=EW r (Zl kvs p.1 p.2);have h2:=MG kvs p.1 p.2
  show(VY _ r).length<=_
  grind
theorem Ex   : ∀{kvs}{ws},VV (kvs.map λkv=>(kV kv.1,kv.2)) ws->∃rs,Carries (Y7 P w) ws rs/\KV kvs rs
 |[],_,r=>by cases r;exact⟨[],True.intro,.nil⟩
 |p::kvs,_,r=>by
  cases r with
  |@cons a b as bs h t=>obtain⟨rs,c,q⟩:=Ex (P:=P) (w:=w) t;obtain⟨b1,b2⟩:=b;exact⟨(p.1,b2)::rs,⟨SK h.1,rfl,c⟩,.cons ⟨rfl,h.2⟩ q⟩
end L2
namespace L2
open PySem PySem.Spec
def Xh(bmB bm:yc):Prop:=∀(X:String)(b:Bool),bmB.contains (.type X)=b->bm.contains (.type X)=b
def Yv(M:Model)(C:Uq)(name:Str)(r:yf)(h:Heap):Prop:=∀(A:Around)(E:Um->Uo->Prop)(Q:yf->Uo->Prop)(h':Heap)(g:Array GenState)(d:Drawn)(t:Nat)(os:OsState),
 (∀b o,h.get? b=O o->h'.get? b=O o)->Q r ⟨h',g,d,t,os⟩->Uu M A (typeLookup (.ref C) name) Q E ⟨h',g,d,t,os⟩
theorem Yv.keeps      (x:Yv M C name r h)(k:∀b o,h.get? b=O o->h'.get? b=O o):Yv M C name r h':=
 λA E Q h2 g d t os k2 q=>x A E Q h2 g d t os (λb o e=>k2 b o (k b o e)) q
theorem Yv.at    {Q}{C}{name}{r}{h}{g}{d}{t}{os}(x:Yv M C name r h)(q:Q r ⟨h,g,d,t,os⟩):Uu M A (typeLookup (.ref C) name) Q E ⟨h,g,d,t,os⟩:=
 x A E Q h g d t os (λ_ _ e=>e) q
section
variable{prog:Up}{w:World}{A:Around}{E:Um->Uo->Prop}{h:Heap}{g:Array GenState}{d:Drawn}{t:Nat}{os:OsState}{R:Result->Uo->Prop}
variable{nm q:Str}{C N x:Uq}{bs bm bmB:yc}{hdct:Bool}{sn:List Str}{sub:yc}{ab:Bool}{col:yl}{dd:yk}{k0 k1 k2 k3 k5:yf}{B newId sa owner:String}{mN mA:Str->yf}{name:Str}{v:Um}
theorem xU{M:Model}{o:Obj}{nameV:Um}{Q:Unit->Uo->Prop}(T:Xh bmB bm)(hb:bmB.contains (.type "BaseException")=w5)(hC:h.get? C=O (excClassObj nm q C N bs bm hdct sn sub ab col dd k0 k1 k2 k3 k5 newId))
  (hx:h.get? x=O o) (hc:o.cls=.ref C) (hq:Q () ⟨h,g,d,t,os⟩):Uu M A (checkBuiltinCall "BaseException.__getattribute__" ⟨[.ref x,nameV],[]⟩) Q E ⟨h,g,d,t,os⟩:=by
 have hk:builtinKind "BaseException.__getattribute__" = O .slot:=by decide +kernel
 have hsplit:splitId "BaseException.__getattribute__" = O ("BaseException", "__getattribute__"):=by decide +kernel
 have hcB:(Value.ref C::bm).contains (.type "BaseException")=w5:=by rw[List.contains_cons,T _ _ hb];rfl
 have ha:=PySem.F.args_bexc_ga (.ref x) nameV;simp only[checkBuiltinCall,hk,hsplit];refine Qf ?_
 .unfold isInstance
  repeat (first|(with_reducible refine Q5 hx ?_;rw[hc])|(with_reducible refine Js hC ?_;rw[hcB])|wp_step)
  exact hq
end
end L2
namespace L2
open PySem PySem.Spec PyProof.Rows PySem.Calls PyProof.V
noncomputable def XO(fr:Bool)(e C:Uq)(dd:yk):Heap->Prop:=λh=>∃vs sl,h.get? e=O {cls:=.ref C,dict:=dd,data:=.fields vs,slots:=sl}/\(fr=w5->vs[1]?=O .none/\(∃t0,vs[0]?=O (.ref t0))/\vs[2]?=O .none/\4<vs.size)
noncomputable abbrev VB:yc:=[.type "ValueError", .type "Exception", .type "BaseException", .type "object"]
structure XCls(M:Model)(base:Heap)(C:Uq)(bm:yc)(fI:Uq):Prop where
 obj:∃nm q N bs sn sub ab col dd k0 k1 k2 k3 k5,base.get? C=O (excClassObj nm q C N bs bm w5 sn sub ab col dd k0 k1 k2 k3 k5 "ValueError.__new__")
 tail:Xh VB bm
 init:Yv M C "__init__" (O (.ref fI)) base
 fn:∃o,base.get? fI=O o/\o.cls=.type "function"
 sa:Yv M C "__setattr__" (O (.builtin "object.__setattr__")) base
 ga:Yv M C "__getattribute__" (O (.builtin "BaseException.__getattribute__")) base
 gh:Yv M C "__getattr__" none base
 cl:Yv M C "__class__" (O (.builtin "object.__class__")) base
 pass:∀v,refuseLoop v "__setattr__" bm=pure ()
noncomputable def XD(dx:Uq)(fs:List (Str×V)):Heap->Prop:=λh=>∃mA,h.Ns1 dx mA/\h.ExactDictFk dx/\(∀f,RelO (fs.lookup f) (mA f))/\PySem.Within mA (fs.map (·.1))
end L2
namespace L2
open PySem PySem.Spec
section
variable{prog:Up}{w:World}{A:Around}{E:Um->Uo->Prop}{h:Heap}{g:Array GenState}{d:Drawn}{t:Nat}{os:OsState}{R:Result->Uo->Prop}
variable{nm q:Str}{C N a:Uq}{bs bm bmB:yc}{hdct:Bool}{sn:List Str}{sub:yc}{ab:Bool}{col:yl}{dd:yk}{k0 k1 k2 k3 k5:yf}{newId:String}{o:Obj}
theorem vG(T:Xh bmB bm)(ho:bmB.contains (.type "object")=w5)(hC:h.get? C=O (excClassObj nm q C N bs bm hdct sn sub ab col dd k0 k1 k2 k3 k5 newId))(hx:h.get? a=O o)(hc:o.cls=.ref C)(hq:R (.ok (.ret (.ref C))) ⟨h,g,d,t,os⟩) :
  codeAny (model prog w) A (.call (.builtin "getset_descriptor.__get__") ⟨[.builtin "object.__class__", .ref a,.ref C],[]⟩) R ⟨h,g,d,t,os⟩:=by
 have hT5   :=PySem.F.typeOf_object_class;have hcB:(Value.ref C::bm).contains (.type (".".intercalate ("object.__class__".cutAt '.').dropLast))=w5:=by rw[PySem.F.owner_object_class,List.contains_cons,T _ _ ho];rfl
 refine codeAny_call_builtin PySem.F.slot_gs_get.plain PySem.F.entry_gs_get (PySem.F.slot_gs_get.check _ _ _ _ _ _ _ _ hT5 (PySem.F.args_gs_get _ _ _) ?_)
 repeat (any_goals (first|assumption|(with_reducible rw[hc])|(with_reducible refine Js hC ?_;rw[hcB])|wp_step))
 refine⟨Code.quiet_builtin _ (by decide +kernel),codeAny_builtin PySem.F.entry_object_class ?_⟩
 repeat (any_goals (first|assumption|(with_reducible rw[hc])|wp_step))
theorem wz  {Q}(T:Xh bmB bm)(ho:bmB.contains (.type "object")=w5)(hC:h.get? C=O (excClassObj nm q C N bs bm hdct sn sub ab col dd k0 k1 k2 k3 k5 newId))(fc:Yv (model prog w) C "__class__" (O (.builtin "object.__class__")) h)(hx:h.get? a=O o)(hc:o.cls=.ref C)(hq:Q (.done (.ret (.ref C))) ⟨h,g,d,t,os⟩) :
  Uu (model prog w) A (Builtin.«object.__getattribute__» ⟨[.ref a,.str "__class__" tk],[]⟩) Q E ⟨h,g,d,t,os⟩:=by
 have f5:=PySem.F.typeOf_object_class;have f6:=PySem.F.slot_gs_get.lookup;have f7:=PySem.F.slot_gs_set.lookup
 repeat (any_goals (first|assumption|(with_reducible rw[hc])|with_reducible refine fc.at ?_|wp_step))
 refine vG T ho hC hx hc ?_
 repeat (any_goals (first|assumption|wp_step))
theorem ES  (FB:ExcAttrFacts "ValueError")(T:Xh VB bm)(hC:h.get? C=O (excClassObj nm q C N bs bm hdct sn sub ab col dd k0 k1 k2 k3 k5 newId))(fc:Yv (model prog w) C "__class__" (O (.builtin "object.__class__")) h)
  (fg:Yv (model prog w) C "__getattribute__" (O (.builtin "BaseException.__getattribute__")) h) (fa:Yv (model prog w) C "__getattr__" none h) (hx:h.get? a=O o) (hc:o.cls=.ref C) (hq:Q (O (.ref C)) ⟨h,g,d,t+1,os⟩) :
  Uu (model prog w) A (getAttr? (.ref a) "__class__") Q E ⟨h,g,d,t,os⟩:=by
 have f3:=FB.ga.bind (.ref a)
 repeat (any_goals (first|assumption|(with_reducible rw[hc])|with_reducible refine fg.at ?_|with_reducible refine fa.at ?_|wp_step))
 refine codeAny_call_builtin FB.ga.plain PySem.F.entry_bexc_ga (xU T wZ hC hx hc (wz T wZ hC fc hx hc ?_))
 repeat (any_goals (first|assumption|wp_step))
end
end L2
namespace L2
open PySem PySem.Spec PyProof.Rows
section
variable{prog:Up}{w:World}{A:Around}{E:Um->Uo->Prop}{h:Heap}{g:Array GenState}{d:Drawn}{t:Nat}{os:OsState}
variable{nm q nm' q':Str}{C N D N' a:Uq}{bs bm bs' bm':yc}{hdct yZ:Bool}{sn sn':List Str}{sub sub':yc}{ab ab':Bool}{col col':yl}{dd yJ:yk}{k0 k1 k2 k3 k5 j0 j1 j2 j3 j5:yf}{newId newId':String}{o:Obj}{b:Bool}
theorem AI{Q:Um->Uo->Prop}(T:Xh VB bm)(hC:h.get? C=O (excClassObj nm q C N bs bm hdct sn sub ab col dd k0 k1 k2 k3 k5 newId))(hD:h.get? D=O (excClassObj nm' q' D N' bs' bm' yZ sn' sub' ab' col' yJ j0 j1 j2 j3 j5 newId'))
  (fc:Yv (model prog w) C "__class__" (O (.builtin "object.__class__")) h) (fg:Yv (model prog w) C "__getattribute__" (O (.builtin "BaseException.__getattribute__")) h) (fa:Yv (model prog w) C "__getattr__" none h)
  (hx:h.get? a=O o) (hc:o.cls=.ref C) (hb:(Value.ref C::bm).contains (.ref D)=b) (hq:∀tk,Q (.bool b) ⟨h,g,d,tk,os⟩):Uu (model prog w) A (call (.builtin "isinstance") [.ref a,.ref D]) Q E ⟨h,g,d,t,os⟩:=by
 have f2:=tc_sub;refine call_isinstance_of ?_ (λz=>nomatch z);refine Qf ?_;unfold typeOf;refine Qf (Q5 hx (Qq ?_));rw[hc];by_cases e:C=D
 .subst e
  have hb1:b=w5:=by rw[←hb];simp
  subst hb1;rw[if_pos (by simp)];exact Qf (wpAny_rule (Qq (hq t)))
 .rw[if_neg (by simp[e])]
  refine Qf (Qf (Q5 hD (Qq ?_)));rw[Qp (show(Value.type "type" == Value.type "type")=w5 by decide)]
  k_delta "plainIsInstance"
  unfold isType isInstance
  repeat (first|(with_reducible refine Q5 hx ?_;rw[hc])|with_reducible refine Q5 hD ?_|with_reducible refine Q5 hC ?_|(with_reducible refine Js hC ?_;rw[hb])|wp_step)
  cases b with
  |true=>wp_walk;exact hq t
  |false=>
   rw[Qw (by decide)];refine Qf (ES PySem.F.excAttr_ValueError T hC fc fg fa hx hc ?_)
   repeat (first|with_reducible refine Q5 hC ?_|(with_reducible refine Js hC ?_;rw[hb])|wp_step)
   exact hq _
theorem Bl{Q:Um->Uo->Prop}{X:String}(T:Xh VB bm)(hC:h.get? C=O (excClassObj nm q C N bs bm hdct sn sub ab col dd k0 k1 k2 k3 k5 newId))(hX:typeOf (.type X)=pure (.type "type"))
  (fc:Yv (model prog w) C "__class__" (O (.builtin "object.__class__")) h) (fg:Yv (model prog w) C "__getattribute__" (O (.builtin "BaseException.__getattribute__")) h) (fa:Yv (model prog w) C "__getattr__" none h)
  (hx:h.get? a=O o) (hc:o.cls=.ref C) (hb:(Value.ref C::bm).contains (.type X)=b) (hq:∀tk,Q (.bool b) ⟨h,g,d,tk,os⟩):Uu (model prog w) A (call (.builtin "isinstance") [.ref a,.type X]) Q E ⟨h,g,d,t,os⟩:=by
 refine call_isinstance_of ?_ (λz=>nomatch z);refine Qf ?_;have ty:∀{M:Model}{A:Around}{Q:Um->Uo->Prop}{E:Um->Uo->Prop},Q (.ref C) ⟨h,g,d,t,os⟩->Uu M A (typeOf (.ref a)) Q E ⟨h,g,d,t,os⟩:=λq=>by unfold typeOf;refine Qf (Q5 hx (Qq ?_));rw[hc];exact q
 refine ty ?_;rw[if_neg (by simp)];refine Qf (wpAny_of_eq hX ?_);rw[Qp (show _=w5 by decide)]
 k_delta "plainIsInstance"
 unfold isType isInstance
 repeat (first|(with_reducible refine Q5 hx ?_;rw[hc])|with_reducible refine Q5 hC ?_|(with_reducible refine Js hC ?_;rw[hb])|wp_step)
 cases b with
 |true=>wp_walk;exact hq t
 |false=>
  rw[Qw (by decide)];refine Qf (ES PySem.F.excAttr_ValueError T hC fc fg fa hx hc ?_)
  repeat (first|with_reducible refine Q5 hC ?_|(with_reducible refine Js hC ?_;rw[hb])|wp_step)
  exact hq _
end
noncomputable def rIsX(KC:Uq->yc->Prop):List V->Hp->VK->Prop:=λxs H Q=>∃a C dd bm fr c b,xs=[.ref a,c]/\KC C bm/\H a=O (.ext (XO fr a C dd)) /\
 ((∃D bm',c=.ref D/\KC D bm'/\(Value.ref C::bm).contains (.ref D)=b) ∨ ∃T,c=.ty T/\typeOf (.type T)=pure (.type "type")/\(Value.ref C::bm).contains (.type T)=b)/\Q (.bl b) H
theorem jv  {KC}(hcls:∀C bm,KC C bm->∃fI,XCls (model X.prog X.w) X.base C bm fI):Y6 X (.builtin "isinstance") (rIsX KC):=by
 rintro pins s σ H xs us Q I r ⟨a,C,dd,bm,fr,c,b,rfl,kc,hx,hD,q⟩;cases r with
 |cons ra r=>
 cases r with
 |cons rc r=>
 cases r;have ra'   :=ra;subst ra';obtain⟨fI,XC⟩:=hcls C bm kc;obtain⟨nm,qn,N,bs,sn,sub,ab,col,dd1,k0,k1,k2,k3,k5,hC⟩:=XC.obj;obtain⟨⟨vs,sl,ga,_⟩,_,_⟩:=I.hok a _ hx;rcases hD with ⟨D,bm',rfl,kd,hb⟩|⟨T,rfl,hT,hb⟩
 .have rc'   :=rc
  subst rc';obtain⟨fI',XD'⟩:=hcls D bm' kd;obtain⟨nm',qn',N',bs',sn',sub',ab',col',dd2,j0,j1,j2,j3,j5,zK⟩:=XD'.obj;exact AI XC.tail (I.bk _ _ hC) (I.bk _ _ zK) (XC.cl.keeps I.bk) (XC.ga.keeps I.bk) (XC.gh.keeps I.bk) ga wZ hb λtk'=>⟨.bl b,H,I.tok tk',rfl,q⟩
 .have rc'   :=rc
  subst rc';exact Bl XC.tail (I.bk _ _ hC) hT (XC.cl.keeps I.bk) (XC.ga.keeps I.bk) (XC.gh.keeps I.bk) ga wZ hb λtk'=>⟨.bl b,H,I.tok tk',rfl,q⟩
noncomputable def De(nm:Str):List Str:=if nm = "NoWishes" then ["part", "number"]else if nm = "NoAim" then ["part"]else if nm = "NoText" then ["row"]else []
noncomputable def MY(K:Frag)(nm:Str):yk:=match PySem.W.nsIn K mainGlobals nm with|some (O (.ref C))=>O C|_=>w4
def NmAt(K:Frag)(nm:Str)(C:Uq):Prop:=∃o cd,K.lookup C=O o/\o.data=.cls cd/\cd.name=nm
structure ClsK(K:Frag)(nm:Str)(C:Uq)(bm:yc):Prop where
 ad:MY K nm=O C
 nmd:NmAt K nm C
 up:nm = "DealError" /\ bm=VB∨nm ≠ "DealError" /\ ∃D,MY K "DealError" = O D/\bm=.ref D::VB/\NmAt K "DealError" D
 cls:∀(M:Model)(h:Heap),K.In h->∃fI,XCls M h C bm fI
 fld:∀(M:Model)(h:Heap),K.In h->∀f∈(["part", "number", "row"]:List Str),Yv M C f w4 h
noncomputable def KC(K:Frag):Uq->yc->Prop:=λC bm=>∃nm,ClsK K nm C bm
section
variable{K:Frag}{nm x:Str}{C D:Uq}{bm bm':yc}
theorem ClsK.ty(c:ClsK K nm C bm)(T):(Value.ref C::bm).contains (.type T)=VB.contains (.type T):=by
 rcases c.up with ⟨_,rfl⟩|⟨_,D',g,rfl,n⟩
 .rfl
 .rfl
end
section
variable{X:Cx}{e:Us}{st:Stmt}{sts:List Stmt}{t:TE}{ts:TS}
theorem Dd(k:X.K.In X.base):∀C bm,KC X.K C bm->∃fI,XCls (model X.prog X.w) X.base C bm fI:=λ_ _ ⟨_,c⟩=>c.cls _ _ k
end
end L2
namespace DL
open PySem PySem.Spec L2
open PyProof.Rows hiding St
abbrev D:=PyData
abbrev w9:=List D
abbrev ya:=Option D
abbrev XW:=V->St->Hp->Prop
noncomputable abbrev KX0:XW:=λ_ _ _=>False
def XFs(G:Hp)(dd:yk)(fs:List Str)(vs:List V):Prop:=match dd with
 |none=>fs=[]/\vs=[]
 |some dx=>fs.length=vs.length/\G dx=O (.ext (XD dx (fs.zip vs)))
theorem XFs.mono     (e:Same G G1)(h:XFs G dd fs vs):XFs G1 dd fs vs:=by
 cases dd with
 |none=>exact h
 |some dx=>exact⟨h.1,e _ _ h.2⟩
noncomputable def kD:Key->D
 |.inl i=>.int i
 |.inr x=>.str x
noncomputable def tkD(k:yj):D:=.tuple (k.map kD)
noncomputable def pdD(ks:List yj)(ds:w9):List (D×D):=(.bool w5,.none)::(ks.map tkD).zip ds
mutual
inductive Rep(K:Frag)(G:Hp):V->D->Prop where
 |non:Rep K G .non .none
 |bl (b:Bool):Rep K G (.bl b) (.bool b)
 |int (i:Int):Rep K G (.int i) (.int i)
 |str (x:Str):Rep K G (.str x) (.str x)
 |lst {a:Uq} {vs:List V} {ds:w9} (h:SqL K G a vs) (r:Reps K G vs ds):Rep K G (.ref a) (.list ds)
 |tup {a:Uq} {vs:List V} {ds:w9} (h:SqT K G a vs) (r:Reps K G vs ds):Rep K G (.ref a) (.tuple ds)
 |dic {a:Uq} (h:G a=O (.dK [])):Rep K G (.ref a) (.dict [])
 |exc {a C:Uq} {dd:yk} {bm:yc} {nm:Str} {vs:List V} {ds:w9} (c:ClsK K nm C bm) (h:G a=O (.ext (XO w6 a C dd))) (hd:XFs G dd (De nm) vs) (r:Reps K G vs ds):Rep K G (.ref a) (.dict [(.none,.tuple [.str nm,.list ds])])
 |dct {a:Uq} {ks:yj} {vs:List V} {ds:w9} {kvs:List (D×D)} (e:kvs=(ks.map kD).zip ds) (hne:ks≠[]) (hl:ks.length=ds.length) (h:G a=O (.dK (ks.zip vs))) (r:Reps K G vs ds):Rep K G (.ref a) (.dict kvs)
 |dtt {a:Uq} {o:Obj} {ks:List yj} {vs:List V} {ds:w9} {kvs:List (D×D)} (e:kvs=pdD ks ds) (hl:ks.length=ds.length) (h:G a=O (.frz o (.dT (ks.zip vs)))) (r:Reps K G vs ds):Rep K G (.ref a) (.dict kvs)
inductive Reps(K:Frag)(G:Hp):List V->w9->Prop where
 |nil:Reps K G [] []
 |cons {v:V} {d:D} {vs:List V} {ds:w9} (h:Rep K G v d) (t:Reps K G vs ds):Reps K G (v::vs) (d::ds)
end
variable{K:Frag}{B G0 G G1 G2 H H1 H2:Hp}
theorem Xl   (e:Same G G1)(h:SqT K G a xs):SqT K G1 a xs:=by
 rcases h with (h|⟨o,h⟩)|h
 .exact .inl (.inl (e _ _ h))
 .exact .inl (.inr ⟨o,e _ _ h⟩)
 .exact .inr h
theorem Rep.mono(e:Same G G1){v}{d}(r:Rep K G v d):Rep K G1 v d:=Rep.rec   .non .bl .int .str (λh _ r=>.lst (e.seq h) r) (λh _ r=>.tup (Xl e h) r) (λh=>.dic (e _ _ h)) (λc h hd _ r=>.exc c (e _ _ h) (hd.mono e) r) (λz n l h _ r=>.dct z n l (e _ _ h) r) (λz l h _ r=>.dtt z l (e _ _ h) r) .nil (λ_ _=>.cons) r
theorem Reps.mono(e:Same G G1){vs}{ds}(r:Reps K G vs ds):Reps K G1 vs ds:=Reps.rec   .non .bl .int .str (λh _ r=>.lst (e.seq h) r) (λh _ r=>.tup (Xl e h) r) (λh=>.dic (e _ _ h)) (λc h hd _ r=>.exc c (e _ _ h) (hd.mono e) r) (λz n l h _ r=>.dct z n l (e _ _ h) r) (λz l h _ r=>.dtt z l (e _ _ h) r) .nil (λ_ _=>.cons) r
section
variable{v:V}{vs ws:List V}{ds es:w9}
theorem Rep.bl_inv{b:Bool}(h:Rep K G v (.bool b)):v=.bl b:=by cases h;rfl
theorem Rep.int_inv{i:Int}(h:Rep K G v (.int i)):v=.int i:=by cases h;rfl
theorem Rep.str_inv{x:Str}(h:Rep K G v (.str x)):v=.str x:=by cases h;rfl
theorem Rep.lst_inv(h:Rep K G v (.list ds)):∃a vs,v=.ref a/\SqL K G a vs/\Reps K G vs ds:=by
 cases h with
 |lst h r=>exact⟨_,_,rfl,h,r⟩
theorem Rep.tup_inv(h:Rep K G v (.tuple ds)):∃a vs,v=.ref a/\SqT K G a vs/\Reps K G vs ds:=by
 cases h with
 |tup h r=>exact⟨_,_,rfl,h,r⟩
theorem Reps.length:∀{vs}{ds},Reps K G vs ds->vs.length=ds.length
 |_,_,.nil=>rfl
 |_,_,.cons _ t=>by rw[Qz,Qz,Reps.length t]
theorem Reps.get:∀{vs}{ds}{i:Nat}{d},Reps K G vs ds->ds[i]?=O d->∃v,vs[i]?=O v/\Rep K G v d
 |_,_,_,_,.nil,e=>by simp_all
 |_,_,0,_,.cons h _,e=>by simp at e;subst e;exact⟨_,rfl,h⟩
 |_,_,i+1,d,.cons _ t,e=>by obtain⟨u,h1,h2⟩:=Reps.get   t (by simpa using e);exact⟨u,by simpa using h1,h2⟩
theorem Reps.append:∀{vs ws}{ds es},Reps K G vs ds->Reps K G ws es->Reps K G (vs++ws) (ds++es)
 |_,_,_,_,.nil,s=>s
 |_,_,_,_,.cons r t,s=>.cons r (Reps.append t s)
theorem Reps.take:∀{vs}{ds}(n),Reps K G vs ds->Reps K G (vs.take n) (ds.take n)
 |_,_,0,_=>by exact .nil
 |_,_,_+1,.nil=>.nil
 |_,_,n+1,.cons r t=>.cons r (Reps.take n t)
theorem Reps.drop:∀{vs}{ds}(n),Reps K G vs ds->Reps K G (vs.drop n) (ds.drop n)
 |_,_,0,r=>r
 |_,_,_+1,.nil=>.nil
 |_,_,n+1,.cons _ t=>Reps.drop n t
theorem Reps.reverse:∀{vs}{ds},Reps K G vs ds->Reps K G vs.reverse ds.reverse
 |_,_,.nil=>.nil
 |_,_,.cons r t=>by rw[List.reverse_cons,List.reverse_cons];exact Reps.append (Reps.reverse t) (.cons r .nil)
theorem Reps.set   (r:Rep K G v d):∀{vs}{ds}(i),Reps K G vs ds->Reps K G (vs.set i v) (ds.set i d)
 |_,_,_,.nil=>.nil
 |_,_,0,.cons _ t=>.cons r t
 |_,_,i+1,.cons q t=>.cons q (Reps.set r i t)
theorem Reps.ints:∀(ns:w8),Reps K G (ns.map V.int) (ns.map int)
 |[]=>.nil
 |n::ns=>.cons (.int n) (Reps.ints ns)
end
inductive MO where
 |l (vs:List V)|k (kvs:List (Key×V))|t (kvs:List (yj×V))|s (S:Int->Bool) (n:Nat)
noncomputable def MO.ho:MO->HO
 |.l vs=>.lst vs
 |.k kvs=>.dK kvs
 |.t kvs=>.dT kvs
 |.s S n=>.set S n
structure Ext(G H G' H':Hp):Prop where
 h:Same H H'
 g:Same G G'
 gh:Same G' H'
 np:∀a(u:MO),H a=O u.ho->G a=w4->G' a=w4
theorem Ext.refl(e:Same G H):Ext G H G H:=⟨.refl _,.refl _,e,λ_ _ _ q=>q⟩
theorem ZQ   (h:H p=w4):Same H (upd H p o):=λb u e=>by rw[KH (Yx e h)];exact e
theorem Ext.new   (e:Same G H)(h:H p=w4):Ext G H (upd G p o) (upd H p o):=by
 have hg   :=e.free h;refine⟨ZQ h,ZQ hg,λb u q=>?_,λa u q n=>?_⟩
 .by_cases z:b=p
  .subst z;rw[Zp]at q⊢;exact q
  .rw[KH z]at q⊢;exact e b u q
 .rw[KH (Yx q h)];exact n
theorem Ext.hid   (e:Same G H)(h:H p=w4):Ext G H G (upd H p o):=
 ⟨ZQ h,.refl _,e.trans (ZQ h),λ_ _ _ n=>n⟩
inductive Pat where
 |leaf|lst (p:Pat)|tup (ps:List Pat)|dic
mutual
inductive RepO(K:Frag)(G H:Hp):Pat->V->D->ye->Prop where
 |leaf {v:V} {d:D} (r:Rep K G v d):RepO K G H .leaf v d []
 |lst {p:Pat} {a:Uq} {vs:List V} {ds:w9} {fp:ye} (h:H a=O (.lst vs)) (r:RepOl K G H p vs ds fp):RepO K G H (.lst p) (.ref a) (.list ds) (a::fp)
 |tup {ps:List Pat} {a:Uq} {vs:List V} {ds:w9} {fp:ye} (h:H a=O (.tup vs)) (r:RepOs K G H ps vs ds fp):RepO K G H (.tup ps) (.ref a) (.tuple ds) fp
 |dic {a:Uq} {ks:yj} {vs:List V} {ds:w9} {kvs:List (D×D)} (e:kvs=(ks.map kD).zip ds) (hl:ks.length=ds.length) (h:H a=O (.dK (ks.zip vs))) (r:Reps K G vs ds):RepO K G H .dic (.ref a) (.dict kvs) [a]
inductive RepOl(K:Frag)(G H:Hp):Pat->List V->w9->ye->Prop where
 |nil {p:Pat}:RepOl K G H p [] [] []
 |cons {p:Pat} {v:V} {d:D} {vs:List V} {ds:w9} {f1 f2:ye} (h:RepO K G H p v d f1) (t:RepOl K G H p vs ds f2):RepOl K G H p (v::vs) (d::ds) (f1++f2)
inductive RepOs(K:Frag)(G H:Hp):List Pat->List V->w9->ye->Prop where
 |nil:RepOs K G H [] [] [] []
 |cons {p:Pat} {ps:List Pat} {v:V} {d:D} {vs:List V} {ds:w9} {f1 f2:ye} (h:RepO K G H p v d f1) (t:RepOs K G H ps vs ds f2):RepOs K G H (p::ps) (v::vs) (d::ds) (f1++f2)
end
def X7(K:Frag)(G H:Hp)(M1:Pat->V->D->ye->Prop)(M2:Pat->List V->w9->ye->Prop)(M3:List Pat->List V->w9->ye->Prop):Prop:=
 (∀{p v d fp},RepO K G H p v d fp->M1 p v d fp)/\(∀{p vs ds fp},RepOl K G H p vs ds fp->M2 p vs ds fp)/\∀{ps vs ds fp},RepOs K G H ps vs ds fp->M3 ps vs ds fp
theorem RepO.ind3
  (c1:∀{v d},Rep K G v d->M1 .leaf v d []) (c2:∀{p a vs ds fp},H a=O (.lst vs)->M2 p vs ds fp->M1 (.lst p) (.ref a) (.list ds) (a::fp)) (c3:∀{ps a vs ds fp},H a=O (.tup vs)->M3 ps vs ds fp->M1 (.tup ps) (.ref a) (.tuple ds) fp)
  (c4:∀{a:Uq}{ks:yj}{vs}{ds}{kvs},kvs=(ks.map kD).zip ds->ks.length=ds.length->H a=O (.dK (ks.zip vs))->Reps K G vs ds->M1 .dic (.ref a) (.dict kvs) [a])
  (c5:∀{p},M2 p [] [] []) (c6:∀{p v d vs ds f1 f2},M1 p v d f1->M2 p vs ds f2->M2 p (v::vs) (d::ds) (f1++f2)) (c7:M3 [] [] [] []) (c8:∀{p ps v d vs ds f1 f2},M1 p v d f1->M3 ps vs ds f2->M3 (p::ps) (v::vs) (d::ds) (f1++f2)) :
  X7 K G H M1 M2 M3:=
 ⟨λh=>RepO.rec    c1 (λh _=>c2 h) (λh _=>c3 h) c4 c5 (λ_ _=>c6) c7 (λ_ _=>c8) h,
  λh=>RepOl.rec    c1 (λh _=>c2 h) (λh _=>c3 h) c4 c5 (λ_ _=>c6) c7 (λ_ _=>c8) h,
  λh=>RepOs.rec    c1 (λh _=>c2 h) (λh _=>c3 h) c4 c5 (λ_ _=>c6) c7 (λ_ _=>c8) h⟩
theorem RepO.mono3(sg:Same G G1)(sh:Same H H1):X7 K G H (RepO K G1 H1) (RepOl K G1 H1) (RepOs K G1 H1):=
 RepO.ind3 (λr=>.leaf (r.mono sg)) (λh r=>.lst (sh _ _ h) r) (λh r=>.tup (sh _ _ h) r) (λe hl h r=>.dic e hl (sh _ _ h) (r.mono sg)) .nil .cons .nil .cons
theorem RepO.mono(sg:Same G G1)(sh:Same H H1){p}{v}{d}{fp}(r:RepO K G H p v d fp):RepO K G1 H1 p v d fp:=(RepO.mono3 sg sh).1 r
theorem RepO.upd3   (nt:∀vs,H a≠O (.tup vs)):X7 K G H (λp v d fp=>a∉fp->RepO K G (upd H a o) p v d fp) (λp v d fp=>a∉fp->RepOl K G (upd H a o) p v d fp) (λp v d fp=>a∉fp->RepOs K G (upd H a o) p v d fp):=
 RepO.ind3
 (λr _=>.leaf r) (λh r n=>.lst (by rw[KH (λz=>n (by rw[z];exact List.mem_cons_self))];exact h) (r λz=>n (List.mem_cons_of_mem _ z))) (λh r n=>.tup (by rw[KH (λz=>by simp_all)];exact h) (r n))
 (λe hl h r n=>.dic e hl (by rw[KH (λz=>n (by rw[z];exact Qj))];exact h) r) (λ_=>.nil) (λh t n=>.cons (h λz=>n (Q9 _ z)) (t λz=>n (QJ _ z))) (λ_=>.nil) (λh t n=>.cons (h λz=>n (Q9 _ z)) (t λz=>n (QJ _ z)))
theorem RepO.upd   (nt:∀vs,H a≠O (.tup vs)){p}{v}{d}{fp}(r:RepO K G H p v d fp)(n:a∉fp):RepO K G (upd H a o) p v d fp:=(RepO.upd3 nt).1 r n
theorem RepO.rep3(gh:Same G H):X7 K G H (λ_ v d _=>Rep K H v d) (λ_ v d _=>Reps K H v d) (λ_ v d _=>Reps K H v d):=
 RepO.ind3 (λr=>r.mono gh) (λh r=>.lst (SqL.of h) r) (λh r=>.tup (SqT.of h) r)
 (λ{a ks vs ds kvs} e hl h r=>by
  cases ks with
  |nil=>subst e;exact .dic h
  |cons k ks=>exact .dct e (λz=>by cases z) hl h (r.mono gh)) .nil .cons .nil .cons
theorem RepO.rep(gh:Same G H){p}{v}{d}{fp}(r:RepO K G H p v d fp):Rep K H v d:=(RepO.rep3 gh).1 r
theorem RepO.isl3:X7 K G H (λ_ _ _ fp=>∀a∈fp,∃u:MO,H a=O u.ho) (λ_ _ _ fp=>∀a∈fp,∃u:MO,H a=O u.ho) (λ_ _ _ fp=>∀a∈fp,∃u:MO,H a=O u.ho):=
 RepO.ind3 (λ_ a m=>by cases m)
 (λh r b m=>(QE.mp m).elim (λe=>⟨.l _,e ▸ h⟩) (r b)) (λ_ r=>r) (λ_ _ h _ b m=>⟨.k _,Qu.mp m ▸ h⟩) (λa m=>by cases m) (λh t b m=>(QI.mp m).elim (h b) (t b)) (λa m=>by cases m) (λh t b m=>(QI.mp m).elim (h b) (t b))
theorem RepO.isl     (r:RepO K G H p v d fp):∀a∈fp,∃u:MO,H a=O u.ho:=RepO.isl3.1 r
theorem RepO.uniq3(sh:Same H H1):X7 K G H (λp v _ fp=>∀d' fp',RepO K G1 H1 p v d' fp'->fp=fp') (λp v _ fp=>∀d' fp',RepOl K G1 H1 p v d' fp'->fp=fp') (λp v _ fp=>∀d' fp',RepOs K G1 H1 p v d' fp'->fp=fp'):=
 RepO.ind3
 (λ_ d' fp' h=>by cases h;rfl)
 (λh r d' fp' h'=>by
  cases h' with
  |lst h2 r2=>have e:=sh _ _ h;rw[h2]at e;cases e;rw[r _ _ r2])
 (λh r d' fp' h'=>by
  cases h' with
  |tup h2 r2=>have e:=sh _ _ h;rw[h2]at e;cases e;exact r _ _ r2)
 (λ_ _ _ _ d' fp' h=>by cases h;rfl) (λd' fp' h=>by cases h;rfl)
 (λh t d' fp' h'=>by
  cases h' with
  |cons h2 t2=>rw[h _ _ h2,t _ _ t2])
 (λd' fp' h=>by cases h;rfl)
 (λh t d' fp' h'=>by
  cases h' with
  |cons h2 t2=>rw[h _ _ h2,t _ _ t2])
theorem RepO.uniq(sh:Same H H1){p}{v}{d d'}{fp fp'}(r:RepO K G H p v d fp)(r':RepO K G1 H1 p v d' fp'):fp=fp':=(RepO.uniq3 sh).1 r _ _ r'
inductive Sl where
 |pub (d:D)|own (ds:w9)|deep (p:Pat) (d:D)
abbrev US:=List (Option Sl)
abbrev yg:=Option US
def DpOk(K:Frag)(B G H:Hp)(σ:St)(Z:US):Prop:=∃ω:Uq->Nat,
 (∀(i:Nat) p d,Z[i]?=O (O (.deep p d))->∃v fp,σ[i]?=O (O v)/\RepO K G H p v d fp/\fp.Nodup/\∀a∈fp,B a=w4/\G a=w4/\ω a=i) /\
 (∀(i:Nat) ds a,Z[i]?=O (O (.own ds))->σ[i]?=O (O (.ref a))->ω a=i)
theorem DpOk.of  {Z}(h1:∀(i:Nat) p d,Z[i]?=O (O (.deep p d))->False)(h2:∀(i:Nat) ds,Z[i]?=O (O (.own ds))->False):DpOk K B G H σ Z:=
 ⟨λ_=>0,λi p d q=>(h1 i p d q).elim,λi ds a q=>(h2 i ds q).elim⟩
theorem DpOk.map  {σ σ1}{Z Z1}(k:DpOk K B G H σ Z)
  (h1:∀(i:Nat) p d,Z1[i]?=O (O (.deep p d))->Z[i]?=O (O (.deep p d))/\σ1[i]?=σ[i]?)
  (h2:∀(i:Nat) ds,Z1[i]?=O (O (.own ds))->∃es,Z[i]?=O (O (.own es))/\σ1[i]?=σ[i]?)
  (h3:∀(i:Nat) p d v fp,Z[i]?=O (O (.deep p d))->σ[i]?=O (O v)->RepO K G H p v d fp->(∀a∈fp,B a=w4/\G a=w4)->(∀(j:Nat) ds a,Z[j]?=O (O (.own ds))->σ[j]?=O (O (.ref a))->a∉fp)->RepO K G1 H1 p v d fp/\∀a∈fp,B1 a=w4/\G1 a=w4):DpOk K B1 G1 H1 σ1 Z1:=by
 obtain⟨ω,k1,k2⟩:=k;refine⟨ω,λi p d q=>?_,λi ds a q s=>?_⟩
 .obtain⟨q1,e1⟩:=h1 i p d q
  obtain⟨v,fp,s,r,n,w⟩:=k1 i p d q1;obtain⟨r1,w1⟩:=h3 i p d v fp q1 s r (λa m=>⟨(w a m).1,(w a m).2.1⟩) λj ds a qj sj m=>by have z1:=k2 j ds a qj sj;have z2:=(w a m).2.2;rw[z1]at z2;subst z2;rw[q1]at qj;cases qj
  exact⟨v,fp,by rw[e1];exact s,r1,n,λa m=>⟨(w1 a m).1,(w1 a m).2,(w a m).2.2⟩⟩
 .obtain⟨es,q1,e1⟩:=h2 i ds q
  rw[e1]at s;exact k2 i es a q1 s
structure EOk(K:Frag)(B G0 G H:Hp)(σ:St)(Z:US):Prop where
 bh:Same B H
 gh:Same G H
 g0:Same G0 G
 np:∀a(u:MO),B a=O u.ho->G0 a=w4->G a=w4
 len:Z.length=σ.length
 pub:∀(i:Nat) d,Z[i]?=O (O (.pub d))->∃v,σ[i]?=O (O v)/\Rep K G v d
 own:∀(i:Nat) ds,Z[i]?=O (O (.own ds))->∃a vs,σ[i]?=O (O (.ref a))/\B a=w4/\G a=w4/\H a=O (.lst vs)/\Reps K G vs ds
 sep:∀(i j:Nat) a ds es,Z[i]?=O (O (.own ds))->Z[j]?=O (O (.own es))->σ[i]?=O (O (.ref a))->σ[j]?=O (O (.ref a))->i=j
 dp:DpOk K B G H σ Z
theorem EOk.ext  {σ:St}{Z}(k:EOk K B G0 G H σ Z)(e:Ext G H G' H'):EOk K B G0 G' H' σ Z where
 bh:=k.bh.trans e.h
 gh:=e.gh
 g0:=k.g0.trans e.g
 np:=λa o q n=>e.np a o (k.bh a _ q) (k.np a o q n)
 len:=k.len
 pub:=λi d q=>let ⟨v,h1,h2⟩:=k.pub i d q;⟨v,h1,h2.mono e.g⟩
 own:=λi ds q=>let ⟨a,vs,h1,h2,h3,h4,h5⟩:=k.own i ds q;⟨a,vs,h1,h2,e.np a (.l _) h4 h3,e.h a _ h4,h5.mono e.g⟩
 sep:=k.sep
 dp:=k.dp.map (λ_ _ _ q=>⟨q,rfl⟩) (λ_ ds q=>⟨ds,q,rfl⟩) λi p d v fp q s r w n=>⟨r.mono e.g e.h,λa m=>let ⟨_,hl⟩:=r.isl a m;⟨(w a m).1,e.np a _ hl (w a m).2⟩⟩
theorem EOk.publish{σ:St}{Z:US}{i:Nat}{ds:w9}(k:EOk K B G0 G H σ Z)(h:Z[i]?=O (O (.own ds))) :
  ∃a G',σ[i]?=O (O (.ref a))/\Same G G'/\Rep K G' (.ref a) (.list ds)/\EOk K B G0 G' H σ (Z.set i (O (.pub (.list ds)))):=by
 obtain⟨a,vs,h1,h2,h3,h4,h5⟩:=k.own i ds h;have sg:Same G (upd G a (.lst vs)):=ZQ h3;have hr:Rep K _ (.ref a) (.list ds):=.lst (SqL.of Zp) (h5.mono sg);refine⟨a,upd G a (.lst vs),h1,sg,hr,⟨k.bh,λb u q=>?_,k.g0.trans sg,λb o q n=>?_,by rw[QS];exact k.len,λj d q=>?_,λj es q=>?_,λj l c es fs q1 q2 s1 s2=>?_,?_⟩⟩
 .by_cases z:b=a
  .subst z;rw[Zp]at q;cases q;exact h4
  .rw[KH z]at q;exact k.gh b u q
 .have z:b≠a:=λz=>by subst z;rw[h2]at q;cases q
  rw[KH z];exact k.np b o q n
 .by_cases z:i=j
  .subst z
   have hl:i<Z.length:=(Qg.mp h).1;rw[QG hl]at q;cases q;exact⟨.ref a,h1,hr⟩
  .rw[Qr z]at q
   obtain⟨v,g1,g2⟩:=k.pub j d q;exact⟨v,g1,g2.mono sg⟩
 .by_cases z:i=j
  .subst z
   have hl:i<Z.length:=(Qg.mp h).1;rw[QG hl]at q;cases q
  .rw[Qr z]at q
   obtain⟨b,ws,g1,g2,g3,g4,g5⟩:=k.own j es q;have zb:b≠a:=λe=>z (k.sep i j a ds es h q h1 (by rw[←e];exact g1))
   exact⟨b,ws,g1,g2,by rw[KH zb];exact g3,g4,g5.mono sg⟩
 .have nz:∀{m:Nat}{ts:w9},(Z.set i (O (Sl.pub (.list ds))))[m]?=O (O (.own ts))->Z[m]?=O (O (.own ts)):=λ{m ts} q=>by
   by_cases z:i=m
   .subst z
    have hl:i<Z.length:=(Qg.mp h).1;rw[QG hl]at q;cases q
   .rw[Qr z]at q;exact q
  exact k.sep j l c es fs (nz q1) (nz q2) s1 s2
 .have hl:i<Z.length:=(Qg.mp h).1
  have nz:∀{m:Nat}{s:Sl},(Z.set i (O (Sl.pub (.list ds))))[m]?=O (O s)->(∃d,s=.pub d)∨Z[m]?=O (O s):=λ{m s} q=>by
   by_cases z:i=m
   .subst z
    rw[QG hl]at q;cases q;exact .inl ⟨_,rfl⟩
   .rw[Qr z]at q;exact .inr q
  refine k.dp.map (λm p d q=>?_) (λm es q=>?_) λm p d v fp q s r w n=>⟨r.mono sg (.refl _),λb mb=>⟨(w b mb).1,?_⟩⟩
  .rcases nz q with ⟨_,e⟩|q
   .cases e
   .exact⟨q,rfl⟩
  .rcases nz q with ⟨_,e⟩|q
   .cases e
   .exact⟨es,q,rfl⟩
  .rw[KH (λz=>by subst z;exact n i ds b h h1 mb)];exact(w b mb).2
inductive Res(α:Type) where
 |ok (a:α) (Z:US)|bad
noncomputable abbrev M(α:Type):=US->Res α
noncomputable def UT{α:Type}(a:α):M α:=λZ=>.ok a Z
noncomputable def Kf{α:Type}(o:Option α):M α:=λZ=>match o with|some a=>.ok a Z|none=>.bad
noncomputable def Ke{α β:Type}(f:M α)(k:α->M β):M β:=λZ=>match f Z with | .ok a Z'=>k a Z' | .bad=>.bad
section
variable(K:Frag)(B G0:Hp)
def aft{α γ:Type}(R:Hp->γ->α->Prop)(r:Res α)(G:Hp)(σ:St)(Q:γ->Hp->Prop):Prop:=
 match r with
 |.ok d Z'=>∀v G' H',EOk K B G0 G' H' σ Z'->Same G G'->R G' v d->Q v H'
 |.bad=>False
noncomputable def tM{α γ:Type}(R:Hp->γ->α->Prop)(f:M α):St->Hp->(γ->Hp->Prop)->Prop:=λσ H Q=>
 ∃G Z,EOk K B G0 G H σ Z/\aft K B G0 R (f Z) G σ Q
noncomputable abbrev tD(f:M D):TE:=tM K B G0 (Rep K) f
noncomputable abbrev tDs(f:M w9):TA:=tM K B G0 (Reps K) f
noncomputable abbrev tBo(f:M Bool):TT:=tM K B G0 (λ_ b c=>b=c) f
noncomputable abbrev tOi(f:M yd):TO:=tM K B G0 (λ_ b c=>b=c) f
end
section
variable{K:Frag}{B G0:Hp}{α β γ δ ε:Type}{R:Hp->γ->α->Prop}{S:Hp->δ->β->Prop}{T:Hp->ε->α->Prop}{σ:St}{H:Hp}
theorem aft.mono  {G G'}{Q}(e:Same G G')(h:aft K B G0 R r G σ Q):aft K B G0 R r G' σ Q:=by
 cases r with
 |ok d Z=>exact λv G2 H2 k s q=>h v G2 H2 k (e.trans s) q
 |bad=>exact h
theorem aft.done   {G G' H H'}{v}{Q}(h:aft K B G0 R (.ok d Z) G σ Q)(k:EOk K B G0 G H σ Z)(e:Ext G H G' H')(r:R G' v d):Q v H':=
 h v G' H' (k.ext e) e.g r
theorem aft.now   {G H}{v}{Q}(h:aft K B G0 R (.ok d Z) G σ Q)(k:EOk K B G0 G H σ Z)(r:R G v d):Q v H:=
 h v G H k (.refl _) r
theorem aft.opt     (h:aft K B G0 R (Kf o Z) G σ Q):∃d,o=O d/\aft K B G0 R (.ok d Z) G σ Q:=by
 cases o with
 |none=>exact h.elim
 |some d=>exact⟨d,rfl,h⟩
theorem tM.bind    (h:tM K B G0 S (Ke f k) σ H Q) :
  tM K B G0 R f σ H (λv H1=>∃G Z d,EOk K B G0 G H1 σ Z/\R G v d/\aft K B G0 S (k d Z) G σ Q):=by
 obtain⟨G,Z,e,a⟩:=h;refine⟨G,Z,e,?_⟩;unfold Ke at a;cases q:f Z with
 |bad=>rw[q]at a;exact a.elim
 |ok d Z1=>rw[q]at a;exact λv G' H' e' s r=>⟨G',Z1,d,e',r,aft.mono s a⟩
theorem tM.bind2{α' γ'}{R':Hp->γ'->α'->Prop}{f}{g:α->M α'}{k:α->α'->M β}{Q}(mo:∀G G' v d,Same G G'->R G v d->R G' v d)
  (h:tM K B G0 S (Ke f λx=>Ke (g x) λy=>k x y) σ H Q) :
  tM K B G0 R f σ H (λv H1=>∃x,tM K B G0 R' (g x) σ H1 λu H2=>∃G Z y,EOk K B G0 G H2 σ Z/\R G v x/\R' G u y/\aft K B G0 S (k x y Z) G σ Q):=by
 obtain⟨G,Z,e,a⟩:=tM.bind  h;refine⟨G,Z,e,?_⟩;cases q:f Z with
 |bad=>rw[q]at a;exact a.elim
 |ok d Z1=>
  rw[q]at a;intro v G' H' e' s r;obtain⟨G2,Z2,d2,e2,r2,a2⟩:=a v G' H' e' s r;refine⟨d2,G2,Z2,e2,?_⟩;unfold Ke at a2;cases q2:g d2 Z2 with
  |bad=>rw[q2]at a2;exact a2.elim
  |ok d3 Z3=>rw[q2]at a2;exact λu G3 H3 e3 s3 r3=>⟨G3,Z3,d3,e3,mo _ _ _ _ s3 r2,r3,aft.mono s3 a2⟩
end
theorem HW{K}(G G')(v)(d)(e:Same G G')(r:Rep K G v d):Rep K G' v d:=r.mono e
theorem tM.two{K}{B G0}{β δ}{S}{σ}{H}{f g}{k:D->D->M β}{Q:δ->Hp->Prop}{P:V->V->Hp->Prop}
  (h:tM K B G0 S (Ke f λx=>Ke g λy=>k x y) σ H Q)
  (i:∀v u H2 G Z x y,EOk K B G0 G H2 σ Z->Rep K G v x->Rep K G u y->aft K B G0 S (k x y Z) G σ Q->P v u H2) :
  tD K B G0 f σ H (λv H1=>tD K B G0 g σ H1 λu H2=>P v u H2):=by
 obtain⟨G,Z,e,a⟩:=tM.bind2   HW h;refine⟨G,Z,e,?_⟩;cases q:f Z with
 |bad=>rw[q]at a;exact a.elim
 |ok d Z1=>
  rw[q]at a;intro v G' H' e' s r;obtain⟨x,G2,Z2,e2,a2⟩:=a v G' H' e' s r;refine⟨G2,Z2,e2,?_⟩;cases q2:g Z2 with
  |bad=>rw[q2]at a2;exact a2.elim
  |ok d3 Z3=>rw[q2]at a2;intro u G3 H3 e3 s3 r3;obtain⟨G4,Z4,y,e4,r4,r5,a5⟩:=a2 u G3 H3 e3 s3 r3;exact i v u H3 G4 Z4 x y e4 r4 r5 a5
theorem tM.one{K}{B G0}{α β γ δ}{R}{S}{σ}{H}{f}{k:α->M β}{Q:δ->Hp->Prop}{P:γ->Hp->Prop}
  (h:tM K B G0 S (Ke f k) σ H Q) (i:∀v H2 G Z x,EOk K B G0 G H2 σ Z->R G v x->aft K B G0 S (k x Z) G σ Q->P v H2):tM K B G0 R f σ H P:=by
 obtain⟨G,Z,e,a⟩:=tM.bind  h;refine⟨G,Z,e,?_⟩;cases q:f Z with
 |bad=>rw[q]at a;exact a.elim
 |ok d Z1=>rw[q]at a;intro v G' H' e' s r;obtain⟨G2,Z2,d2,e2,r2,a2⟩:=a v G' H' e' s r;exact i v H' G2 Z2 d2 e2 r2 a2
section
variable{X:Cx}{B G0:Hp}{e a b:Us}{pos:Pos}
theorem Kt  (h:PE X e t)(i:∀σ H Q,t' σ H Q->t σ H Q):PE X e t':=λpins s σ H Q I q=>h pins s σ H Q I (i σ H Q q)
theorem Yo  (h:PT X e t)(i:∀σ H Q,t' σ H Q->t σ H Q):PT X e t':=λpins s σ H Q I q=>h pins s σ H Q I (i σ H Q q)
theorem paof   (h:PA X es t)(i:∀σ H Q,t' σ H Q->t σ H Q):PA X es t':=λps pins s σ H Q I q=>h ps pins s σ H Q I (i σ H Q q)
theorem poof   (h:PO X eo t)(i:∀σ H Q,t' σ H Q->t σ H Q):PO X eo t':=λpins s σ H Q I q=>h pins s σ H Q I (i σ H Q q)
theorem ZG{st}{t t'}(h:PS X st t)(i:∀D σ H,t' D σ H->t D σ H):PS X st t':=λpins s σ H D I q=>h pins s σ H D I (i D σ H q)
theorem MX{st}{t t'}(h:PSs X st t)(i:∀D σ H,t' D σ H->t D σ H):PSs X st t':=λpins s σ H D I q=>h pins s σ H D I (i D σ H q)
noncomputable def UM(i:Nat):M D:=λZ=>match Z[i]? with
 |some (O (.pub d))=>.ok d Z
 |some (O (.own ds))=>.ok (.list ds) (Z.set i (O (.pub (.list ds))))
 |_=>.bad
theorem Yj  (h:PE X e (Zg i)):PE X e (tD X.K B G0 (UM i)):=Kt h λσ H Q ⟨G,Z,k,a⟩=>by
 unfold UM at a;cases q:Z[i]? with
 |none=>rw[q]at a;exact a.elim
 |some o=>
  cases o with
  |none=>rw[q]at a;exact a.elim
  |some sl=>
   cases sl with
   |deep _ _=>rw[q]at a;exact a.elim
   |pub d=>rw[q]at a;obtain⟨v,h1,h2⟩:=k.pub i d q;exact⟨v,h1,a.now k h2⟩
   |own ds=>rw[q]at a;obtain⟨ad,G',h1,h2,h3,h4⟩:=k.publish q;exact⟨.ref ad,h1,a _ G' H h4 h2 h3⟩
theorem PL   (h:PE X e (tC v))(r:∀G,Rep X.K G v d):PE X e (tD X.K B G0 (UT d)):=Kt h λσ H Q ⟨G,Z,k,a⟩=>a.now k (r G)
theorem Lz   : PE X (.Constant (.int i) j pos) (tD X.K B G0 (UT (.int i))):=PL C5 λ_=>.int i
theorem AH   : PE X (.Constant (.bool i) j pos) (tD X.K B G0 (UT (.bool i))):=PL Cd λ_=>.bl i
theorem AG{j}:PE X (.Constant .none j pos) (tD X.K B G0 (UT .none)):=PL C4 λ_=>.non
theorem Bk   : PE X (.Constant (.str x) j pos) (tD X.K B G0 (UT (.str x))):=PL C3 λ_=>.str x
noncomputable def UR{β:Type}(op:D->D->Option β)(f g:M D):M β:=Ke f λx=>Ke g λy=>Kf (op x y)
def OpD(X:Cx)(f:Um->Um->Sem Um)(op:D->D->ya):Prop:=
 ∃r:R2,OpR X f r/\∀v u G H x y d Q,Same G H->Rep X.K G v x->Rep X.K G u y->op x y=O d->(∀w G' H',Ext G H G' H'->Rep X.K G' w d->Q w H')->r v u H Q
theorem VP    (o:OpD X (binaryOp op) p)(ha:PE X a (tD X.K B G0 f))(hb:PE X b (tD X.K B G0 g)):PE X (.BinOp a op b pos) (tD X.K B G0 (UR p f g)):=by
 obtain⟨r,h,i⟩:=o;refine Kt (M6 h ha hb) λσ H Q q=>?_;refine tM.two q λv u H2 G Z x y k rx ry a=>?_
 obtain⟨d,e,a⟩:=a.opt;exact i v u G H2 x y d Q k.gh rx ry e λw G' H' ex rw=>a.done k ex rw
theorem OpD.or   (h:OpD X f p)(h':OpD X f q):OpD X f (λx y=>(p x y).orElse λ_=>q x y):=by
 obtain⟨r,h1,i1⟩:=h;obtain⟨r',h2,i2⟩:=h';refine⟨_,h1.or h2,λv u G H x y d Q s rx ry e k=>?_⟩;dsimp only at e;cases z:p x y with
 |some d'=>rw[z]at e;have e'   :=Q3 e;subst e';exact .inl (i1 v u G H x y d' Q s rx ry z k)
 |none=>rw[z]at e;exact .inr (i2 v u G H x y d Q s rx ry e k)
noncomputable def oII(g:Int->Int->ya):D->D->ya
 |.int i,.int j=>g i j
 |_,_=>w4
theorem HV   (e:oII g x y=O d):∃i j,x=.int i/\y=.int j/\g i j=O d:=by
 unfold oII at e;split at e
 .exact⟨_,_,rfl,rfl,e⟩
 simp_all
theorem OpD.int     (h:OpR X f (rI C g))(i:∀i j d,p i j=O d->C i j/\∀G,Rep X.K G (g i j) d):OpD X f (oII p):=by refine⟨_,h,λv u G H x y d Q s rx ry e k=>?_⟩;obtain⟨a,b,rfl,rfl,e⟩:=HV e;obtain⟨c,r⟩:=i a b d e;exact⟨a,b,rx.int_inv,ry.int_inv,c,k _ G H (.refl s) (r G)⟩
theorem OpD.int0   {p:Int->Int->D}(h:OpR X f (rI0 g))(i:∀i j G,Rep X.K G (g i j) (p i j)):OpD X f (oII λi j=>O (p i j)):=by refine⟨_,h,λv u G H x y d Q s rx ry e k=>?_⟩;obtain⟨a,b,rfl,rfl,e⟩:=HV e;cases e;exact⟨a,b,rx.int_inv,ry.int_inv,k _ G H (.refl s) (i a b G)⟩
end
section
variable{X:Cx}{B G0:Hp}{e a b c:Us}{pos:Pos}
theorem Bj:OpD X (binaryOp .Add) (oII λi j=>O (.int (i+j))):=.int0 Bz λ_ _ _=>.int _
theorem Bh:OpD X (binaryOp .Sub) (oII λi j=>O (.int (i-j))):=.int0 By λ_ _ _=>.int _
noncomputable def Xf(i j:Int):ya:=if(-(2 ^ 64)<i/\i<2 ^ 64)∨(-(2 ^ 64)<j/\j<2 ^ 64)then O (.int (i*j))else w4
theorem AF:OpD X (binaryOp .Mult) (oII Xf):=.int Bx λi j d h=>by
 unfold Xf at h;split at h
 .rename_i c
  cases h;exact⟨c,λ_=>.int _⟩
 simp_all
noncomputable def Sy(i j:Int):ya:=if 0<j then O (.int (i % j))else w4
theorem Bg:OpD X (binaryOp .Mod) (oII Sy):=.int Bw λi j d h=>by
 unfold Sy at h;split at h
 .rename_i c
  cases h;exact⟨c,λ_=>.int _⟩
 simp_all
theorem ju:OpR X (binaryOp .FloorDiv) (rI (λi j=>0<j/\j<2 ^ 200) λi j=>.int (i / j)):=opI λi j _ _ _ _ _ hc q=>by
 refine floordiv_int (by lia) (by rw[Int.fdiv_eq_ediv_of_nonneg i (by lia)];exact q) (.inl (PyProof.noPylong_of_log2 ?_));have h0:j.natAbs≠0:=by lia
 have:j.natAbs.log2<200:=(Nat.log2_lt h0).mpr (by lia)
 lia
noncomputable def Sz(i j:Int):ya:=if 0<j/\j<2 ^ 200 then O (.int (i / j))else w4
theorem BF:OpD X (binaryOp .FloorDiv) (oII Sz):=.int ju λi j d h=>by
 unfold Sz at h;split at h
 .rename_i c
  cases h;exact⟨c,λ_=>.int _⟩
 simp_all
noncomputable def Sx(i j:Int):ya:=if 0<=j/\j<=1000000/\i.natAbs<2 ^ 64 then O (.int (i ^ j.toNat))else w4
theorem BE:OpD X (binaryOp .Pow) (oII Sx):=.int Bv λi j d h=>by
 unfold Sx at h;split at h
 .rename_i c
  cases h;exact⟨c,λ_=>.int _⟩
 simp_all
theorem lim:(1000000:Nat)<=Ut:=by decide
noncomputable def OS:D->D->ya
 |.str x,.str y=>if x.length+y.length<=1000000 then O (.str (x++y))else w4
 |_,_=>w4
theorem qc:OpD X (binaryOp .Add) OS:=by
 refine⟨_,vH,λv u G H x y d Q s rx ry e k=>?_⟩;unfold OS at e;split at e
 .split at e
  .rename_i c
   cases e;exact⟨_,_,rx.str_inv,ry.str_inv,QN c lim,k _ G H (.refl s) (.str _)⟩
  simp_all
 simp_all
noncomputable def Dc(K:Frag):R2:=λx y H Q=>∃l b xs zs,x=.ref l/\y=.ref b/\SqL K H l xs/\SqL K H b zs/\xs.length+zs.length<=Ut/\∀p,H p=w4->Q (.ref p) (upd H p (.lst (xs++zs)))
theorem qb:OpR X (binaryOp .Add) (Dc X.K):=by
 intro pins s σ H x y v u Q I rx ry h;obtain⟨l,b,xs,zs,rfl,rfl,hH,hB,hz,q⟩:=h;cases rx;cases ry;obtain⟨its,r,⟨⟨c1,d1,t1,s1⟩,n1,e1,au,ar,aq⟩,z1⟩:=I.list hH;obtain⟨its2,r2,⟨⟨c2,d2,t2,s2⟩,n2,e2,ec2,ed2,et2⟩,z2⟩:=I.list hB;simp only at au ar aq ec2 ed2 et2;subst au ar aq ec2 ed2 et2;have hl:=r.length;have hl2:=r2.length;refine concat_meets ⟨_,e1,rfl⟩ ⟨_,e2,rfl⟩ noFill_list_add seq_list_add PySem.F.slot_list_add PySem.F.entry_list_add (PySem.F.args_list_add_2 _ _) (list_addW l b its.toArray its2.toArray n1 n2 w4 w4 s1 s2 (by grind)) ⟨e1,e2,?_⟩;have ea:its.toArray++its2.toArray=(its++its2).toArray:=by simp
 rw[ea];exact⟨.ref _,_,I.lnew  (r.append r2) (by simp_all),rfl,q _ I.fresh⟩
theorem Db(a)(t)(l)(items)(n)(sl) :
  Meets (Builtin.«int.__rmul__» ⟨[.int a t,.ref l],[]⟩) (λ_ R s=>s.heap.get? l=O {cls:=.type "list", dict:=w4,data:=.seq items n,slots:=sl}/\R (.ok (.ret Value.notImplemented)) s):=
 .of_wp λprog w A R s h=>by obtain⟨hl,h⟩:=h;wp_walk;exact⟨_,rfl,h⟩
theorem mulW(l)(items)(n:Nat)(x:Int)(u:Tok)(sl)(hc0:¬(!Builtin.List.listFitsIndex x)=w5)(hc1:¬items.size*x.toNat > (2 ^ 63-1) / 8)(hc2:¬Builtin.List.listTooLong (items.size*x.toNat)=w5) :
  Meets (Builtin.«list.__mul__» ⟨[.ref l,.int x u],[]⟩) (λ_ R s=>s.heap.get? l=O {cls:=.type "list", dict:=w4,data:=.seq items n,slots:=sl}/\R (.ok (.ret (Value.ref s.heap.objs.size))) {s with heap:=s.heap.push {cls:=Value.type "list", data:=Data.seq (List.foldl (λx1 x2=>x1++x2) #[] (Uy (if items.isEmpty=w5 then 0 else x.toNat) items))},toks:=s.toks}):=
 .of_wp λprog w A R s h=>by
  obtain⟨hl,h⟩:=h;have hsz:=AutoListH.joined_fits hc2
  wp_walk;refine wpAny_ite_false (QQ (Nat.not_lt.mpr hsz)) ?_;wp_walk;exact⟨_,rfl,h⟩
noncomputable def Da(K:Frag):R2:=λx y H Q=>∃l k xs,x=.ref l/\y=.int k/\SqL K H l xs /\ -(2 ^ 63)<=k/\k<2 ^ 63/\xs.length*k.toNat<=Ut /\
 ∀p,H p=w4->Q (.ref p) (upd H p (.lst (Uy k.toNat xs).flatten))
theorem HU:OpR X (binaryOp .Mult) (Da X.K):=by
 intro pins s σ H x y v u Q I rx ry h;obtain⟨l,k,xs,rfl,rfl,hH,h1,h2,hz,q⟩:=h;cases rx;obtain⟨t,rfl⟩:=ry;obtain⟨its,r,⟨⟨c1,d1,t1,sl⟩,n,e,au,ar,aq⟩,z⟩:=I.list hH;simp only at au ar aq;subst au ar aq;have hl:=r.length;have hlen:its.toArray.size*k.toNat<=Ut:=by rw[Jf,←hl];exact hz
 have hcap:¬its.toArray.size*k.toNat > (2 ^ 63-1) / 8:=by
  have:(Ut:Nat)<=(2 ^ 63-1) / 8:=by decide
  lia
 have hfit:¬(!Builtin.List.listFitsIndex k)=w5:=by rw[fitsIndex_both h1 h2];exact Bool.false_ne_true
 have zZ:¬Builtin.List.listTooLong (its.toArray.size*k.toNat)=w5:=by rw[jA hlen];exact Bool.false_ne_true
 have hnew:List.foldl (λx1 x2=>x1++x2) #[] (Uy (if its.toArray.isEmpty=w5 then 0 else k.toNat) its.toArray)=(Uy k.toNat its).flatten.toArray:=by
  have f0   :=λm=>by have:=FG its m [];rw[QR]at this;exact this
  rw[f0];cases its with
  |nil=>simp
  |cons a r'=>rw[if_neg (by simp)]
 refine wpAny_binaryOp_repeat_ref  (U:= "int") (by decide) ⟨_,e,rfl⟩ (λs'=>typeIs_int s' k t) noFill_list_mul F.fills_int_mul F.slot_int_rmul repeat_list F.slot_int_index.lookup
  (call_meets F.slot_int_rmul (typeIs_int s k t) F.entry_int_rmul (F.args_int_rmul_2 _ _) (Db k t l its.toArray n sl)
   ⟨e,rfl,⟨_,e,rfl⟩,call_meets F.slot_list_mul ⟨_,e,rfl⟩ F.entry_list_mul (F.args_list_mul_2 _ _) (mulW l its.toArray n k t sl hfit hcap zZ) ⟨e,?_⟩⟩)
 rw[hnew];exact⟨.ref _,_,I.lnew  (r.rep k.toNat) (by rw[AQ,Nat.mul_comm];exact hz),rfl,q _ I.fresh⟩
noncomputable def Lb:D->D->ya
 |.list x,.list y=>if x.length+y.length<=1000000 then O (.list (x++y))else w4
 |_,_=>w4
theorem qa:OpD X (binaryOp .Add) Lb:=by
 refine⟨_,qb,λv u G H x y d Q s rx ry e k=>?_⟩;unfold Lb at e;split at e
 .split at e
  .rename_i c
   cases e;obtain⟨l,vs,rfl,h1,r1⟩:=rx.lst_inv;obtain⟨b,ws,rfl,h2,r2⟩:=ry.lst_inv;refine⟨l,b,vs,ws,rfl,rfl,s.seq h1,s.seq h2,by rw[r1.length,r2.length];exact QN c lim,λp hp=>k _ _ _ (Ext.new s hp) ?_⟩;exact .lst (SqL.of Zp) ((r1.append r2).mono (ZQ (s.free hp)))
  simp_all
 simp_all
theorem Reps.rep{K}{G}{vs}{ds}(r:Reps K G vs ds):∀n:Nat,Reps K G (Uy n vs).flatten (Uy n ds).flatten
 |0=>.nil
 |n+1=>by exact r.append (r.rep n)
noncomputable def La:D->D->ya
 |.list x,.int k=>if -1000000<=k/\k<=1000000/\x.length*k.toNat<=1000000 then O (.list (Uy k.toNat x).flatten)else w4
 |_,_=>w4
theorem A9:OpD X (binaryOp .Mult) La:=by
 refine⟨_,HU,λv u G H x y d Q s rx ry e k=>?_⟩;unfold La at e;split at e
 .split at e
  .rename_i c
   cases e;obtain⟨l,vs,rfl,h1,r1⟩:=rx.lst_inv;refine⟨l,_,vs,rfl,ry.int_inv,s.seq h1,by lia,by lia,by rw[r1.length];exact QN c.2.2 lim,λp hp=>k _ _ _ (Ext.new s hp) ?_⟩;exact .lst (SqL.of Zp) ((r1.rep _).mono (ZQ (s.free hp)))
  simp_all
 simp_all
noncomputable def U8:D->D->ya
 |.int i,.int j=>O (.int (i+j))
 |.str x,.str y=>if x.length+y.length<=1000000 then O (.str (x++y))else w4
 |.list x,.list y=>if x.length+y.length<=1000000 then O (.list (x++y))else w4
 |_,_=>w4
noncomputable def K9:D->D->ya
 |.int i,.int j=>O (.int (i-j))
 |_,_=>w4
noncomputable def KF:D->D->ya
 |.int i,.int j=>Xf i j
 |.list x,.int k=>if -1000000<=k/\k<=1000000/\x.length*k.toNat<=1000000 then O (.list (Uy k.toNat x).flatten)else w4
 |_,_=>w4
noncomputable def YA:D->D->ya
 |.int i,.int j=>Sy i j
 |_,_=>w4
noncomputable def Wq:D->D->ya
 |.int i,.int j=>Sz i j
 |_,_=>w4
noncomputable def W5:D->D->ya
 |.int i,.int j=>Sx i j
 |_,_=>w4
theorem OpD.congr   (h:OpD X f p)(e:∀x y,q x y=p x y):OpD X f q:=by
 have   :=by funext x y;exact e x y
 simp_all
theorem M9:OpD X (binaryOp .Add) U8:=(Bj.or (qc.or qa)).congr λx y=>by cases x<;>cases y<;>first|rfl|(done)|(simp only[U8,OS];split<;>rfl)
theorem M8:OpD X (binaryOp .Sub) K9:=Bh.congr λx y=>by cases x<;>cases y<;>rfl
theorem M7:OpD X (binaryOp .Mult) KF:=(AF.or A9).congr λx y=>by cases x<;>cases y<;>first|rfl|(done)|(simp only[Option.orElse];split<;>first|rfl|assumption)
theorem E9:OpD X (binaryOp .Mod) YA:=Bg.congr λx y=>by cases x<;>cases y<;>rfl
theorem E8:OpD X (binaryOp .FloorDiv) Wq:=BF.congr λx y=>by cases x<;>cases y<;>rfl
theorem E7:OpD X (binaryOp .Pow) W5:=BE.congr λx y=>by cases x<;>cases y<;>rfl
end
section
variable{X:Cx}{B G0:Hp}{e a b c:Us}{pos:Pos}
def OpB(X:Cx)(f:Um->Um->Sem Um)(op:D->D->yl):Prop:=
 ∃r:R2,OpR X f r/\∀v u G H x y d Q,Same G H->Rep X.K G v x->Rep X.K G u y->op x y=O d->Q (.bl d) H->r v u H Q
theorem OpB.or   (h:OpB X f p)(h':OpB X f q):OpB X f (λx y=>(p x y).orElse λ_=>q x y):=by
 obtain⟨r,h1,i1⟩:=h;obtain⟨r',h2,i2⟩:=h';refine⟨_,h1.or h2,λv u G H x y d Q s rx ry e k=>?_⟩;dsimp only at e;cases z:p x y with
 |some d'=>rw[z]at e;have e'   :=Q3 e;subst e';exact .inl (i1 v u G H x y d' Q s rx ry z k)
 |none=>rw[z]at e;exact .inr (i2 v u G H x y d Q s rx ry e k)
theorem OpB.congr   (h:OpB X f p)(e:∀x y,q x y=p x y):OpB X f q:=by
 have   :=by funext x y;exact e x y
 simp_all
theorem Nw    (o:OpB X (Uw op) p)(ha:PE X a (tD X.K B G0 f))(hb:PE X b (tD X.K B G0 g))(hm:behindInMarks op b=w6) :
  PT X (.Compare a [op] [b] pos) (tBo X.K B G0 (UR p f g)):=by
 obtain⟨r,h,i⟩:=o;refine Yo (Nn h ha hb hm) λσ H Q q=>?_;refine tM.two q λv u H2 G Z x y k rx ry a=>?_
 obtain⟨d,e,a⟩:=a.opt;exact i v u G H2 x y d _ k.gh rx ry e ⟨d,rfl,a.now k wZ⟩
noncomputable def U7{α β:Type}(h:α->β)(f:M α):M β:=Ke f λx=>UT (h x)
theorem tM.map{K}{α β γ δ}{R}{S}{σ}{H}{h:α->β}{f}{Q}(j:γ->δ)(q:tM K B G0 S (U7 h f) σ H Q)
  (i:∀G v x,R G v x->S G (j v) (h x)):tM K B G0 R f σ H (λv H'=>Q (j v) H'):=
 tM.one   q λv H2 G Z x k r a=>aft.now (a) k (i G v x r)
theorem tBo.val{K}{σ}{H}{f}{Q}(q:tD K B G0 (U7 UA f) σ H Q):tBo K B G0 f σ H (λb H'=>Q (.bl b) H'):=
 tM.map  V.bl q λG v x e=>by rw[e];exact .bl x
theorem A8    (o:OpB X (Uw op) p)(ha:PE X a (tD X.K B G0 f))(hb:PE X b (tD X.K B G0 g))(hm:behindInMarks op b=w6) :
  PE X (.Compare a [op] [b] pos) (tD X.K B G0 (U7 UA (UR p f g))):=by
 obtain⟨r,h,i⟩:=o;refine Kt (HY h ha hb hm) λσ H Q q=>?_;refine tM.two (tBo.val q) λv u H2 G Z x y k rx ry a=>?_
 obtain⟨d,e,a⟩:=a.opt;exact i v u G H2 x y d _ k.gh rx ry e (a.now k wZ)
noncomputable def SY(p q:D->D->yl)(f g h:M D):M Bool:=Ke f λx=>Ke g λy=>Ke (Kf (p x y)) λt=>if t=w5 then Ke h λz=>Kf (q y z)else UT w6
theorem xT  {p q}{f g h}(o:OpB X (Uw op) p)(o':OpB X (Uw op') q)(ha:PE X a (tD X.K B G0 f))(hb:PE X b (tD X.K B G0 g))(hc:PE X c (tD X.K B G0 h))
  (hm:lastMarks [op,op'] [b,c]=w6:=by with_unfolding_all rfl):PT X (.Compare a [op,op'] [b,c] pos) (tBo X.K B G0 (SY p q f g h)):=by
 obtain⟨r,h1,i⟩:=o;obtain⟨r',h2,i'⟩:=o';refine Yo (jD h1 h2 ha hb hc hm) λσ H Q w=>?_;refine tM.two w λv u H2 G Z x y k rx ry a=>?_
 cases z:p x y with
 |none=>rw[z]at a;exact a.elim
 |some t=>
  rw[z]at a;refine i v u G H2 x y t _ k.gh rx ry z ⟨t,rfl,?_⟩;cases t with
  |false=>exact⟨w6,rfl,aft.now a k wZ⟩
  |true=>
   refine⟨G,Z,k,?_⟩;have a4:aft X.K B G0 _ ((Ke h λz=>Kf _) Z) G σ Q:=a;unfold Ke at a4;cases z2:h Z with
   |bad=>rw[z2]at a4;exact a4.elim
   |ok d Z1=>rw[z2]at a4;intro w G5 H5 k5 s5 r5;obtain⟨t2,e2,a6⟩:=a4.opt;exact i' u w G5 H5 y d t2 _ k5.gh (ry.mono s5) r5 e2 ⟨t2,rfl,a6 t2 G5 H5 k5 s5 wZ⟩
theorem xS  {p q}{f g h}(o:OpB X (Uw op) p)(o':OpB X (Uw op') q)(ha:PE X a (tD X.K B G0 f))(hb:PE X b (tD X.K B G0 g))(hc:PE X c (tD X.K B G0 h))
  (hm:lastMarks [op,op'] [b,c]=w6:=by with_unfolding_all rfl):PE X (.Compare a [op,op'] [b,c] pos) (tD X.K B G0 (U7 UA (SY p q f g h))):=by
 obtain⟨r,h1,i⟩:=o;obtain⟨r',h2,i'⟩:=o';refine Kt (jE h1 h2 ha hb hc hm) λσ H Q w=>?_;refine tM.two (tBo.val w) λv u H2 G Z x y k rx ry a=>?_
 cases z:p x y with
 |none=>rw[z]at a;exact a.elim
 |some t=>
  rw[z]at a;refine i v u G H2 x y t _ k.gh rx ry z ⟨t,rfl,?_⟩;cases t with
  |false=>exact aft.now (v:=w6) a k wZ
  |true=>
   refine⟨G,Z,k,?_⟩;have a4:aft X.K B G0 _ ((Ke h λz=>Kf _) Z) G σ _:=a;unfold Ke at a4;cases z2:h Z with
   |bad=>rw[z2]at a4;exact a4.elim
   |ok d Z1=>rw[z2]at a4;intro w G5 H5 k5 s5 r5;obtain⟨t2,e2,a6⟩:=a4.opt;exact i' u w G5 H5 y d t2 _ k5.gh (ry.mono s5) r5 e2 (a6 t2 G5 H5 k5 s5 wZ)
noncomputable def oIB(g:Int->Int->Bool):D->D->yl
 |.int i,.int j=>O (g i j)
 |_,_=>w4
theorem OpB.int   (h:OpR X f (rI0 λi j=>.bl (g i j))):OpB X f (oIB g):=by
 refine⟨_,h,λv u G H x y d Q s rx ry e k=>?_⟩;unfold oIB at e;split at e
 .cases e
  exact⟨_,_,rx.int_inv,ry.int_inv,k⟩
 simp_all
theorem B_lt:OpB X (Uw .Lt) (oIB λi j=>decide (i<j)):=.int Ds
theorem B_le:OpB X (Uw .LtE) (oIB λi j=>decide (i<=j)):=.int Dr
theorem B_gt:OpB X (Uw .Gt) (oIB λi j=>decide (j<i)):=.int Dq
theorem B_ge:OpB X (Uw .GtE) (oIB λi j=>decide (j<=i)):=.int Dp
mutual
theorem Xb{pins:List (Uq×Obj)}{s:Uo}{σ:St}{G H:Hp}(I:Inv X pins σ H s)(sg:Same G H):∀{v:V}{d:D}{u:Um},Rep X.K G v d->RelV v u->d.canLay0=w5->∃as,Reads s.heap u d as
 |_,_,_,.non,r,_=>by cases r;exact⟨_,.none⟩
 |_,_,_,.bl b,r,_=>by cases r;exact⟨_,.bool b⟩
 |_,_,_,.int i,r,_=>by obtain⟨t,rfl⟩:=r;exact⟨_,.int i t⟩
 |_,_,_,.str x,r,_=>by obtain⟨t,rfl⟩:=r;exact⟨_,.str x t⟩
 |_,_,_,.lst h q,r,c=>by cases r;obtain⟨its,rv,⟨o,n,e,hc,_,hd⟩,hz⟩:=I.list (sg.seq h);obtain⟨as,ra⟩:=readsAll_of I sg q rv (show UD _=w5 by simpa[PyData.canLay0]using c);exact⟨_,.list e hc hd (by simpa using ra)⟩
 |_,_,_,.tup h q,r,c=>by cases r;obtain⟨its,rv,p,hz⟩:=I.tuple (Xl sg h);obtain⟨o,e,hc,n,hd⟩:=p;obtain⟨as,ra⟩:=readsAll_of I sg q rv (show UD _=w5 by simpa[PyData.canLay0]using c);exact⟨_,.tuple e hc hd (by simpa using ra)⟩
 |_,_,_,.dic h,r,c=>by simp[PyData.canLay0]at c
 |_,_,_,.exc _ _ _ _,r,c=>by simp[PyData.canLay0]at c
 |_,_,_,.dct _ _ _ _ _,r,c=>by simp[PyData.canLay0]at c
 |_,_,_,.dtt _ _ _ _,r,c=>by simp[PyData.canLay0]at c
theorem readsAll_of{pins:List (Uq×Obj)}{s:Uo}{σ:St}{G H:Hp}(I:Inv X pins σ H s)(sg:Same G H):∀{vs:List V}{ds:w9}{us:yc},Reps X.K G vs ds->Vals vs us->UD ds=w5->∃as,ReadsAll s.heap us ds as
 |_,_,_,.nil,r,_=>by cases r;exact⟨_,.nil⟩
 |_,_,_,.cons h t,r,c=>by
  cases r with
  |cons r1 r2=>have c':=c;rw[UD,Jd]at c';obtain⟨as,ra⟩:=Xb I sg h r1 c'.1;obtain⟨bs,rb⟩:=readsAll_of I sg t r2 c'.2;exact⟨_,.cons ra rb⟩
end
noncomputable def oEq(x y:D):yl:=if x.canLay0=w5/\y.canLay0=w5/\x.depth<=60 then O (UF x y)else w4
noncomputable def oNe(x y:D):yl:=if x.canLay0=w5/\y.canLay0=w5/\x.depth<=60 then O (!UF x y)else w4
theorem B_eq(hu:X.A.units+64<cLine):OpB X (Uw .Eq) oEq:=by
 refine⟨λv u H Q=>∃G x y d,Same G H/\Rep X.K G v x/\Rep X.K G u y/\oEq x y=O d/\Q _ H,?_,λv u G H x y d Q s rx ry e k=>⟨G,x,y,d,s,rx,ry,e,k⟩⟩;intro pins s σ H x y v u Q I rx ry ⟨G,dx,dy,d,sg,px,py,e,q⟩;unfold oEq at e;split at e
 .rename_i c
  cases e;obtain⟨as,ra⟩:=Xb I sg px rx c.1;obtain⟨bs,rb⟩:=Xb I sg py ry c.2.1;exact SeqAt.compareEq_reads ra rb c.1 c.2.1 (by lia) ⟨.bl _,H,I,rfl,q⟩
 simp_all
theorem B_ne(hu:X.A.units+64<cLine):OpB X (Uw .NotEq) oNe:=by
 refine⟨λv u H Q=>∃G x y d,Same G H/\Rep X.K G v x/\Rep X.K G u y/\oNe x y=O d/\Q _ H,?_,λv u G H x y d Q s rx ry e k=>⟨G,x,y,d,s,rx,ry,e,k⟩⟩;intro pins s σ H x y v u Q I rx ry ⟨G,dx,dy,d,sg,px,py,e,q⟩;unfold oNe at e;split at e
 .rename_i c
  cases e;obtain⟨as,ra⟩:=Xb I sg px rx c.1;obtain⟨bs,rb⟩:=Xb I sg py ry c.2.1;exact SeqAt.compareNe_reads ra rb c.1 c.2.1 (by have:=c.2.2;lia) ⟨.bl _,H,I,rfl,q⟩
 simp_all
noncomputable def isNon:D->Bool
 |.none=>w5
 |_=>w6
theorem Rep.isNon{K}{G}{v}{d}(r:Rep K G v d):DL.isNon d=decide (v=.non):=by cases r<;>simp[DL.isNon]
end
section
variable{X:Cx}{B G0:Hp}{e a b c:Us}{pos:Pos}{es rest:yb}
theorem tM.nx{K}{α β γ δ}{R}{S}{σ}{G H}{Z}{f}{g:α->M β}{Q:δ->Hp->Prop}{P:γ->Hp->Prop}
  (k:EOk K B G0 G H σ Z) (a:aft K B G0 S (Ke f g Z) G σ Q) (i:∀v H' G' Z' x,EOk K B G0 G' H' σ Z'->Same G G'->R G' v x->aft K B G0 S (g x Z') G' σ Q->P v H'):tM K B G0 R f σ H P:=by
 refine⟨G,Z,k,?_⟩;unfold Ke at a;cases q:f Z with
 |bad=>rw[q]at a;exact a.elim
 |ok d Z1=>rw[q]at a;exact λv G' H' e s r=>i v H' G' Z1 d e s r (aft.mono s a)
noncomputable def ZW(f g:M Bool):M Bool:=Ke f λt=>if t=w5 then g else UT w6
noncomputable def mOr(f g:M Bool):M Bool:=Ke f λt=>if t=w5 then UT w5 else g
noncomputable def K4(f:M Bool):M Bool:=U7 (λt=>!t) f
theorem A7{K}{f g}{σ}{H}{Q}(q:tBo K B G0 (ZW f g) σ H Q):tAnd (tBo K B G0 f) (tBo K B G0 g) σ H Q:=
 tM.one  q λv H2 G Z x k r a=>by
  subst r;cases v with
  |true=>exact⟨G,Z,k,a⟩
  |false=>exact aft.now  a k wZ
theorem BD{K}{f g}{σ}{H}{Q}(q:tBo K B G0 (mOr f g) σ H Q):tOr (tBo K B G0 f) (tBo K B G0 g) σ H Q:=
 tM.one  q λv H2 G Z x k r a=>by
  subst r;cases v with
  |false=>exact⟨G,Z,k,a⟩
  |true=>exact aft.now  a k wZ
theorem pwof  (h:PW X e t)(i:∀σ H Q,t' σ H Q->t σ H Q):PW X e t':=λwh pins s σ H Q I q=>h wh pins s σ H Q I (i σ H Q q)
theorem jt  (ha:PT X a (tBo X.K B G0 f)):PW X (.BoolOp .And [a] pos) (tBo X.K B G0 f):=AA ha
theorem A6{f:M Bool}(ha:PT X a (tBo X.K B G0 f)):PW X (.BoolOp .Or [a] pos) (tBo X.K B G0 f):=CY ha
theorem A5  (ha:PT X a (tBo X.K B G0 f))(hb:PW X (.BoolOp .And (b::rest) pos) (tBo X.K B G0 g)):PW X (.BoolOp .And (a::b::rest) pos) (tBo X.K B G0 (ZW f g)):=pwof (CW ha hb) λ_ _ _ q=>A7 q
theorem BC  (ha:PT X a (tBo X.K B G0 f))(hb:PW X (.BoolOp .Or (b::rest) pos) (tBo X.K B G0 g)):PW X (.BoolOp .Or (a::b::rest) pos) (tBo X.K B G0 (mOr f g)):=pwof (Cb ha hb) λ_ _ _ q=>BD q
theorem A4  (ha:PT X a (tBo X.K B G0 f)):PT X (.UnaryOp .Not a pos) (tBo X.K B G0 (K4 f)):=Yo (CV ha) λσ H Q q=>tM.map  _ q λ_ v x e=>by rw[e]
noncomputable def Yu(f:M D):M Bool:=Ke f λx=>match x with | .bool t=>UT t|_=>λ_=>.bad
theorem B5  (h:PE X e (tD X.K B G0 f))(he:∀whole,isTrue e X.env whole=(do let v ←whole;standAt e.pos;holding [v] (truthy v)):=by intro _;rfl):PT X e (tBo X.K B G0 (Yu f)):=
 Yo (CZ h he) λσ H Q q=>tM.one  q λv H2 G Z x k r a=>by
  cases x with
  |bool t=>exact⟨t,r.bl_inv,aft.now  a k wZ⟩
  |_=>exact a.elim
noncomputable def SJ(f g:M D):M D:=Ke f λx=>match x with | .bool w5=>g | .bool w6=>UT (.bool w6)|_=>λ_=>.bad
noncomputable def W6(f g:M D):M D:=Ke f λx=>match x with | .bool w5=>UT (.bool w5) | .bool w6=>g|_=>λ_=>.bad
noncomputable def OI(f:M D):M D:=Ke f λx=>match x with | .bool t=>UT (.bool (!t))|_=>λ_=>.bad
theorem B4  (ha:PE X a (tD X.K B G0 f))(hb:PE X (.BoolOp .And (b::rest) pos) (tD X.K B G0 g)):PE X (.BoolOp .And (a::b::rest) pos) (tD X.K B G0 (SJ f g)):=
 Kt (CT ha hb) λσ H Q q=>tM.one  q λv H2 G Z x k r a=>by
  cases x with
  |bool t=>
   refine⟨t,r.bl_inv,?_⟩;cases t with
   |true=>exact⟨G,Z,k,a⟩
   |false=>exact aft.now a k (.bl w6)
  |_=>exact a.elim
theorem BB  (ha:PE X a (tD X.K B G0 f))(hb:PE X (.BoolOp .Or (b::rest) pos) (tD X.K B G0 g)):PE X (.BoolOp .Or (a::b::rest) pos) (tD X.K B G0 (W6 f g)):=
 Kt (CJ ha hb) λσ H Q q=>tM.one  q λv H2 G Z x k r a=>by
  cases x with
  |bool t=>
   refine⟨t,r.bl_inv,?_⟩;cases t with
   |false=>exact⟨G,Z,k,a⟩
   |true=>exact aft.now a k (.bl w5)
  |_=>exact a.elim
theorem B3{op}{f:M D}(h:PE X a (tD X.K B G0 f)):PE X (.BoolOp op [a] pos) (tD X.K B G0 f):=CU h
theorem B0  (ha:PE X a (tD X.K B G0 f)):PE X (.UnaryOp .Not a pos) (tD X.K B G0 (OI f)):=
 Kt (CS ha) λσ H Q q=>tM.one  q λv H2 G Z x k r a=>by
  cases x with
  |bool t=>exact⟨t,r.bl_inv,aft.now a k (.bl _)⟩
  |_=>exact a.elim
noncomputable def mIf{α:Type}(f:M Bool)(g h:M α):M α:=Ke f λt=>if t=w5 then g else h
theorem xR   (hc:PT X c (tBo X.K B G0 f))(ha:PE X a (tD X.K B G0 g))(hb:PE X b (tD X.K B G0 h)):PE X (.IfExp c a b pos) (tD X.K B G0 (mIf f g h)):=
 Kt (jI hc ha hb) λσ H Q q=>tM.one  q λv H2 G Z x k r a=>by
  subst r;cases v with
  |true=>exact⟨G,Z,k,a⟩
  |false=>exact⟨G,Z,k,a⟩
theorem BZ   (ha:PE X a (tD X.K B G0 f)):PT X (.Compare a [.Is] [.Constant .none j p2] pos) (tBo X.K B G0 (U7 isNon f)):=
 Yo (Pz (LG ha)) λσ H Q q=>tM.one  q λv H2 G Z x k r a=>⟨_,rfl,aft.now a k (by rw[r.isNon])⟩
theorem GS   (ha:PE X a (tD X.K B G0 f)):PT X (.Compare a [.IsNot] [.Constant .none j p2] pos) (tBo X.K B G0 (U7 (λd=>!isNon d) f)):=
 Yo (Pz (AB ha)) λσ H Q q=>tM.one  q λv H2 G Z x k r a=>⟨_,rfl,aft.now a k (by dsimp only;rw[r.isNon])⟩
theorem BY   (ha:PE X a (tD X.K B G0 f)):PE X (.Compare a [.Is] [.Constant .none j p2] pos) (tD X.K B G0 (U7 (λd=>.bool (isNon d)) f)):=
 Kt (C0 (LG ha)) λσ H Q q=>tM.one  q λv H2 G Z x k r a=>aft.now a k (by dsimp only;rw[r.isNon];exact .bl _)
noncomputable def UN:M w9:=UT []
noncomputable def UP(f:M D)(g:M w9):M w9:=Ke f λx=>Ke g λxs=>UT (x::xs)
theorem Rj:PA X [] (tDs X.K B G0 UN):=paof SZ λσ H Q ⟨G,Z,k,a⟩=>aft.now a k .nil
theorem tM.twoA{K}{σ}{H}{f}{g}{β δ}{S}{k:D->w9->M β}{Q:δ->Hp->Prop}{P:V->List V->Hp->Prop}
  (h:tM K B G0 S (Ke f λx=>Ke g λy=>k x y) σ H Q)
  (i:∀v u H2 G Z x y,EOk K B G0 G H2 σ Z->Rep K G v x->Reps K G u y->aft K B G0 S (k x y Z) G σ Q->P v u H2) :
  tD K B G0 f σ H (λv H1=>tDs K B G0 g σ H1 λu H2=>P v u H2):=by
 obtain⟨G,Z,e,a⟩:=tM.bind2   HW h;refine⟨G,Z,e,?_⟩;cases q:f Z with
 |bad=>rw[q]at a;exact a.elim
 |ok d Z1=>
  rw[q]at a;intro v G' H' e' s r;obtain⟨x,G2,Z2,e2,a2⟩:=a v G' H' e' s r;refine⟨G2,Z2,e2,?_⟩;cases q2:g Z2 with
  |bad=>rw[q2]at a2;exact a2.elim
  |ok d3 Z3=>rw[q2]at a2;intro u G3 H3 e3 s3 r3;obtain⟨G4,Z4,y,e4,r4,r5,a5⟩:=a2 u G3 H3 e3 s3 r3;exact i v u H3 G4 Z4 x y e4 r4 r5 a5
theorem Xu   (ha:PE X e (tD X.K B G0 f))(hr:PA X es (tDs X.K B G0 g))(hs:Uv (e::es) X.env=(w6,eval e X.env)::Uv es X.env:=by rfl) :
  PA X (e::es) (tDs X.K B G0 (UP f g)):=paof (Tl ha hr hs) λσ H Q q=>tM.twoA q λv u H2 G Z x y k r1 r2 a=>aft.now a k (.cons r1 r2)
noncomputable def Kz(f:M w9):M D:=Ke f λxs=>if xs.length<=1000000 then UT (.tuple xs)else λ_=>.bad
noncomputable def Ks(f:M w9):M D:=Ke f λxs=>if xs.length<=1000000 then UT (.list xs)else λ_=>.bad
theorem P0  {f}(h:PA X es (tDs X.K B G0 f)):PE X (.Tuple es x1 pos) (tD X.K B G0 (Kz f)):=
 Kt (Bs h) λσ H Q q=>tM.one  q λv H2 G Z x k r a=>by
  split at a
  .rename_i c
   refine⟨by rw[r.length];exact QN c lim,λp hp=>?_⟩;exact aft.done a k (Ext.new k.gh hp) (.tup (SqT.of Zp) (r.mono (ZQ (k.gh.free hp))))
  .exact a.elim
theorem Nv  (h:PA X es (tDs X.K B G0 f)):PE X (.List es pos) (tD X.K B G0 (Ks f)):=
 Kt (LC h) λσ H Q q=>tM.one  q λv H2 G Z x k r a=>by
  split at a
  .rename_i c
   refine⟨by rw[r.length];exact QN c lim,λp hp=>?_⟩;exact aft.done a k (Ext.new k.gh hp) (.lst (SqL.of Zp) (r.mono (ZQ (k.gh.free hp))))
  .exact a.elim
noncomputable def oIx:D->D->ya
 |.list xs,.int i=>atI xs i
 |.tuple xs,.int i=>atI xs i
 |.str z,.int i=>if z.length<=1000000 then(atI z.cps.toList i).map λc=>.str ⟨#[c]⟩else w4
 |_,_=>w4
theorem Reps.atI{K}{G}{vs}{ds}{i}{d}(r:Reps K G vs ds)(h:L2.atI ds i=O d):∃v,L2.atI vs i=O v/\Rep K G v d:=by
 unfold L2.atI at h⊢;rw[r.length];cases z:ixN ds.length i with
 |none=>simp_all
 |some j=>rw[z]at h;exact r.get  h
theorem Ly{K}{v u}{G H}{x y d:D}{Q}(s:Same G H)(rx:Rep K G v x)(ry:Rep K G u y)(e:oIx x y=O d)(k:∀w,Rep K G w d->Q w H):rIx K v u H Q:=by
 unfold oIx at e;split at e
 .obtain⟨l,vs,rfl,h1,r1⟩:=rx.lst_inv
  obtain⟨w,e1,r2⟩:=r1.atI e;exact .inl ⟨l,vs,_,w,rfl,ry.int_inv,s.seq h1,e1,k w r2⟩
 .obtain⟨l,vs,rfl,h1,r1⟩:=rx.tup_inv
  obtain⟨w,e1,r2⟩:=r1.atI e;exact .inr (.inl ⟨l,vs,_,w,rfl,ry.int_inv,Xl s h1,e1,k w r2⟩)
 .split at e
  .rename_i z i hz
   cases q:L2.atI z.cps.toList i with
   |none=>rw[q]at e;cases e
   |some ch=>rw[q]at e;cases e;exact .inr (.inr ⟨z,i,ch,rx.str_inv,ry.int_inv,QN hz lim,q,k _ (.str _)⟩)
  .cases e
 .cases e
theorem Ca  (ha:PE X a (tD X.K B G0 f))(hb:PE X b (tD X.K B G0 g))(hs:Ny b):PE X (.Subscript a b pos) (tD X.K B G0 (UR oIx f g)):=
 Kt (M4 LB ha hb hs) λσ H Q q=>tM.two q λv u H2 G Z x y k rx ry a=>by obtain⟨d,e,a⟩:=a.opt;exact Ly k.gh rx ry e λw r=>a.now k r
noncomputable def U1(i:Nat)(g:M D):M D:=λZ=>match Z[i]? with
 |some (O (.pub d))=>(Ke g λy=>Kf (oIx d y)) Z
 |some (O (.own _))=>(Ke g λy=>λZ'=>match Z'[i]? with|some (O (.own ds))=>Kf (oIx (.list ds) y) Z'|_=>.bad) Z
 |_=>.bad
theorem Ri   (ha:PE X a (Zg i))(hb:PE X b (tD X.K B G0 g))(hs:Ny b):PE X (.Subscript a b pos) (tD X.K B G0 (U1 i g)):=
 Kt (M4 LB ha hb hs) λσ H Q ⟨G,Z,k,a⟩=>by
  unfold U1 at a;cases q:Z[i]? with
  |none=>rw[q]at a;exact a.elim
  |some o=>
   cases o with
   |none=>rw[q]at a;exact a.elim
   |some sl=>
    cases sl with
    |deep _ _=>rw[q]at a;exact a.elim
    |pub d=>
     rw[q]at a;obtain⟨v,h1,h2⟩:=k.pub i d q;refine⟨v,h1,G,Z,k,?_⟩;dsimp only[Ke]at a;cases z:g Z with
     |bad=>rw[z]at a;exact a.elim
     |ok y Z1=>rw[z]at a;intro u G' H' k' s' r';obtain⟨d',e',a'⟩:=aft.opt a;exact Ly k'.gh (h2.mono s') r' e' λw r=>a' w G' H' k' s' r
    |own ds=>
     rw[q]at a;obtain⟨ad,vs,h1,h2,h3,h4,h5⟩:=k.own i ds q;refine⟨.ref ad,h1,G,Z,k,?_⟩;dsimp only[Ke]at a;cases z:g Z with
     |bad=>rw[z]at a;exact a.elim
     |ok y Z1=>
      rw[z]at a;dsimp only at a;intro u G' H' k' s' r';cases z2:Z1[i]? with
      |none=>rw[z2]at a;exact a.elim
      |some o2=>
       cases o2 with
       |none=>rw[z2]at a;exact a.elim
       |some sl2=>
        cases sl2 with
        |deep _ _=>rw[z2]at a;exact a.elim
        |pub d2=>rw[z2]at a;exact a.elim
        |own es2=>
         rw[z2]at a;obtain⟨d',e',a'⟩:=aft.opt a;obtain⟨ad',vs',g1,g2,g3,g4,g5⟩:=k'.own i es2 z2;rw[h1]at g1;cases g1;cases y with
         |int j=>obtain⟨w,e1,r2⟩:=g5.atI e';exact .inl ⟨ad,vs',j,w,rfl,r'.int_inv,SqL.of g4,e1,a' w G' H' k' s' r2⟩
         |_=>cases e'
noncomputable def cutD(xs:w9)(lo hi:yd):w9:=(xs.drop (HT.sIx xs.length 0 lo)).take (HT.sIx xs.length xs.length hi-HT.sIx xs.length 0 lo)
theorem Reps.cut{K}{G}{vs}{ds}(r:Reps K G vs ds)(lo hi):Reps K G (Ws vs lo hi) (cutD ds lo hi):=by unfold Ws cutD;rw[r.length];exact(r.drop _).take _
noncomputable def YF:D->Option yd
 |.int i=>O (O i)
 |_=>w4
theorem js:PO X w4 (tOi X.K B G0 (UT w4)):=poof AW λσ H Q ⟨G,Z,k,a⟩=>aft.now a k wZ
theorem jr  (h:PE X e (tD X.K B G0 f)):PO X (O e) (tOi X.K B G0 (Ke f λx=>Kf (YF x))):=poof (AV h) λσ H Q q=>tM.one  q λv H2 G Z x k r a=>by
 cases x with
 |int i=>exact⟨i,r.int_inv,aft.now  a k wZ⟩
 |_=>exact a.elim
end
noncomputable def W7:List (D×D)->Bool
 |(.none,_)::_=>w5
 |_=>w6
noncomputable def XM:D->String
 |.none=> "NoneType"
 |.bool _=> "bool"
 |.int _=> "int"
 |.str _=> "str"
 |.list _=> "list"
 |.tuple _=> "tuple"
 |.dict kvs=>if W7 kvs=w5 then "" else "dict"
noncomputable def Zs(d:D)(c:String):Bool:=XM d==c || (XM d == "bool" && c == "int")
noncomputable def Pt:D->Bool
 |.dict kvs=>W7 kvs
 |_=>w6
theorem Lx{ks:yj}{ds:w9}:XM (.dict ((ks.map kD).zip ds)) = "dict" /\ Pt (.dict ((ks.map kD).zip ds))=w6:=by
 cases ks with
 |nil=>exact⟨rfl,rfl⟩
 |cons k ks=>
  cases ds with
  |nil=>exact⟨rfl,rfl⟩
  |cons d ds=>cases k<;>exact⟨rfl,rfl⟩
theorem BX(K)(d:D)(c)(nx:Pt d=w6)(hc:c = "int" ∨ c = "bool" ∨ c = "str" ∨ c = "list" ∨ c = "tuple" ∨ c = "dict"):PySem.W.kitOne K (.type (XM d)) (.type c)=O (Zs d c):=by
 cases d with
 |dict kvs=>
  have e:XM (.dict kvs) = "dict" :=by
   have nx:W7 kvs=w6:=nx
   show(if W7 kvs=w5 then "" else "dict")=_
   rw[nx];rfl
  unfold Zs;rw[e];rcases hc with rfl|rfl|rfl|rfl|rfl|rfl<;>rfl
 |_=>rcases hc with rfl|rfl|rfl|rfl|rfl|rfl<;>rfl
section
variable{X:Cx}{B G0:Hp}{e a b c:Us}{pos:Pos}{es rest:yb}
def Y9(X:Cx)(f:Um)(p:w9->ya):Prop:=
 ∃r,Y6 X f r/\∀vs G H ds d Q,Same G H->Reps X.K G vs ds->p ds=O d->(∀w G' H',Ext G H G' H'->Rep X.K G' w d->Q w H')->r vs H Q
noncomputable def ZB(p:w9->ya)(f:M w9):M D:=Ke f λxs=>Kf (p xs)
theorem Rn  {p2}{id}{p}{f}(hc:Y9 X (.builtin id) p)(hg:Gl X x)(hm:X.mg x=w4)(hv:bootBuiltins x=O (.builtin id))(ha:PA X (e::es) (tDs X.K B G0 f))(hn:x ≠ "__name__" :=by decide)(hdb:(x==("__debug__" : Str))=w6:=by decide)
  (he:Uv (e::es) X.env=(w6,eval e X.env)::Uv es X.env:=by rfl) (hpl:(backTo pos (Uv es X.env)).any (·.1)=w6:=by rfl):PE X (.Call (.Name x p2) (e::es) [] pos) (tD X.K B G0 (ZB p f)):=by
 obtain⟨r,h,i⟩:=hc;refine Kt (Oh h hg hm hv ha hn hdb he hpl) λσ H Q q=>tM.one  q λv H2 G Z x k rr a=>?_
 obtain⟨d,e,a⟩:=a.opt;exact i v G H2 x d Q k.gh rr e λw G' H' ex rw=>a.done k ex rw
theorem vF  {p2}{T}{p}{f}(hc:Y9 X (.type T) p)(hg:Gl X x)(hm:X.mg x=w4)(hv:bootBuiltins x=O (.type T))(ha:PA X (e::es) (tDs X.K B G0 f))(hn:x ≠ "__name__" :=by decide)(hdb:(x==("__debug__" : Str))=w6:=by decide)
  (he:Uv (e::es) X.env=(w6,eval e X.env)::Uv es X.env:=by rfl) (hpl:(backTo pos (Uv es X.env)).any (·.1)=w6:=by rfl):PE X (.Call (.Name x p2) (e::es) [] pos) (tD X.K B G0 (ZB p f)):=by
 obtain⟨r,h,i⟩:=hc;refine Kt (MB h hg hm hv ha hn hdb he hpl) λσ H Q q=>tM.one  q λv H2 G Z x k rr a=>?_
 obtain⟨d,e,a⟩:=a.opt;exact i v G H2 x d Q k.gh rr e λw G' H' ex rw=>a.done k ex rw
theorem Reps.nil_inv{K:Frag}{G:Hp}{vs:List V}(r:Reps K G vs []):vs=[]:=by cases r;rfl
theorem Reps.one_inv{K}{G}{vs}{d}(r:Reps K G vs [d]):∃v,vs=[v]/\Rep K G v d:=by
 cases r with
 |cons h t=>cases t;exact⟨_,rfl,h⟩
theorem Reps.two_inv{K}{G}{vs}{d d'}(r:Reps K G vs [d,d']):∃v v',vs=[v,v']/\Rep K G v d/\Rep K G v' d':=by
 cases r with
 |cons h t=>obtain⟨v',rfl,r'⟩:=t.one_inv;exact⟨_,v',rfl,h,r'⟩
noncomputable def Kk:w9->ya
 |[.list xs]=>O (.int xs.length)
 |[.tuple xs]=>O (.int xs.length)
 |[.str z]=>if z.length<=1000000 then O (.int z.length)else w4
 |_=>w4
theorem E6:Y9 X (.builtin "len") Kk:=by
 refine⟨_,GT,λvs G H ds d Q s r e k=>?_⟩;unfold Kk at e;split at e
 .cases e
  obtain⟨v,rfl,q⟩:=r.one_inv;obtain⟨l,ws,rfl,h1,r1⟩:=q.lst_inv;exact⟨.ref l,ws.length,rfl,.inl ⟨ws,s.seq h1,rfl⟩,by rw[r1.length];exact k _ G H (.refl s) (.int _)⟩
 .cases e
  obtain⟨v,rfl,q⟩:=r.one_inv;obtain⟨l,ws,rfl,h1,r1⟩:=q.tup_inv;exact⟨.ref l,ws.length,rfl,.inr ⟨ws,Xl s h1,rfl⟩,by rw[r1.length];exact k _ G H (.refl s) (.int _)⟩
 .split at e
  .rename_i z hz
   cases e;obtain⟨v,rfl,q⟩:=r.one_inv;exact⟨.str z,z.length,by rw[q.str_inv],⟨QN hz lim,rfl⟩,k _ G H (.refl s) (.int _)⟩
  simp_all
 simp_all
noncomputable def RB:w9->ya
 |[.int i,.int j]=>O (.int (if j > i then j else i))
 |_=>w4
theorem D9(hc:X.calm=w5):Y9 X (.builtin "max") RB:=by
 refine⟨_,vd hc,λvs G H ds d Q s r e k=>?_⟩;unfold RB at e;split at e
 .cases e
  obtain⟨v,v',rfl,r1,r2⟩:=r.two_inv;exact⟨_,_,by rw[r1.int_inv,r2.int_inv],k _ G H (.refl s) (.int _)⟩
 simp_all
noncomputable def Zu(i:Nat):M D:=λZ=>match Z[i]? with
 |some (O (.pub d))=>Kf (Kk [d]) Z
 |some (O (.own ds))=>.ok (.int ds.length) Z
 |_=>.bad
theorem GR  {p2:Pos}(hg:Gl X "len")(hm:X.mg "len" = w4)(ha:PE X e (Zg i))(he:Uv [e] X.env=[(w6,eval e X.env)]:=by rfl):PE X (.Call (.Name "len" p2) [e] [] pos) (tD X.K B G0 (Zu i)):=by
 refine Kt (Oh GT hg hm PySem.boot_len (Tl ha SZ (by rw[he];rfl)) (by decide) (by decide) (by rw[he];rfl) wZ) λσ H Q ⟨G,Z,k,a⟩=>?_
 unfold Zu at a;cases q:Z[i]? with
 |none=>rw[q]at a;exact a.elim
 |some o=>
  cases o with
  |none=>rw[q]at a;exact a.elim
  |some sl=>
   cases sl with
   |deep _ _=>rw[q]at a;exact a.elim
   |pub d=>
    rw[q]at a;obtain⟨v,h1,h2⟩:=k.pub i d q;refine⟨v,h1,?_⟩;obtain⟨d',e',a'⟩:=aft.opt a;show ∃x n,[v]=[x]/\LenV X.K x H n/\Q (.int n) H;unfold Kk at e';split at e'
    .rename_i xs he'
     injection he' with af yQ;subst af;cases e'
     obtain⟨l,ws,rfl,g1,r1⟩:=h2.lst_inv;exact⟨.ref l,ws.length,rfl,.inl ⟨ws,k.gh.seq g1,rfl⟩,by rw[r1.length];exact a'.now k (.int _)⟩
    .rename_i xs he'
     injection he' with af yQ;subst af;cases e'
     obtain⟨l,ws,rfl,g1,r1⟩:=h2.tup_inv;exact⟨.ref l,ws.length,rfl,.inr ⟨ws,Xl k.gh g1,rfl⟩,by rw[r1.length];exact a'.now k (.int _)⟩
    .rename_i z he'
     injection he' with af yQ;subst af
     split at e'
     .rename_i hz
      cases e';exact⟨.str z,z.length,by rw[h2.str_inv],⟨QN hz lim,rfl⟩,a'.now k (.int _)⟩
     .cases e'
    .cases e'
   |own ds=>rw[q]at a;obtain⟨ad,vs,h1,g2,g3,h4,h5⟩:=k.own i ds q;exact⟨.ref ad,h1,.ref ad,vs.length,rfl,.inl ⟨vs,SqL.of h4,rfl⟩,by rw[h5.length];exact aft.now a k (.int _)⟩
theorem BW  {s:Uo}{σ:St}{G H:Hp}{v:V}{u:Um}{d:D}{cv:Um}{t:Bool}{A:Around}{E}{Q}(I:Inv X pins σ H s)(sg:Same G H)(r:Rep X.K G v d)(rv:RelV v u)(nx:Pt d=w6)
  (ek:PySem.W.kitOne X.K (.type (XM d)) cv=O t) (h:∀tk,Q (.bool t) {s with toks:=tk}):Uu (model X.prog X.w) A (call (.builtin "isinstance") [u,cv]) Q E s:=by
 cases r with
 |non=>cases rv;exact JD PySem.W.kitx_none I.kIn True.intro ek (λz=>nomatch z) h
 |bl y=>cases rv;exact JD PySem.W.kitx_bool I.kIn True.intro ek (λz=>nomatch z) h
 |int i=>obtain⟨t',rfl⟩:=rv;exact JD PySem.W.kitx_int I.kIn True.intro ek (λz=>nomatch z) h
 |str y=>obtain⟨t',rfl⟩:=rv;exact JD PySem.W.kitx_str I.kIn True.intro ek (λz=>nomatch z) h
 |lst hl _=>cases rv;obtain⟨its,r,⟨o,n,e,hc,_,hd⟩,hz⟩:=I.list (sg.seq hl);exact JD PySem.W.kitx_list I.kIn ⟨o,e,hc⟩ ek (λz=>nomatch z) h
 |tup hl _=>cases rv;obtain⟨its,r,p,hz⟩:=I.tuple (Xl sg hl);obtain⟨o,e,hc,_⟩:=p;exact JD PySem.W.kitx_tuple I.kIn ⟨o,e,hc⟩ ek (λz=>nomatch z) h
 |@dic ad hd=>
  cases rv;obtain⟨_,_,vs,_,p⟩:=(I.hok ad _ (sg _ _ hd))
  obtain⟨o,es,ep,h1,h2,_⟩:=p;exact JD PySem.W.kitx_dict I.kIn ⟨o,h1,h2.1⟩ ek (λz=>nomatch z) h
 |exc _ _ _ _=>cases nx
 |@dct ad ks vs ds kvs e0 _ _ hd _=>
  cases rv;subst e0;rw[Lx.1]at ek;obtain⟨_,_,vs,_,p⟩:=(I.hok ad _ (sg _ _ hd))
  obtain⟨o,es,ep,h1,h2,_⟩:=p;exact JD PySem.W.kitx_dict I.kIn ⟨o,h1,h2.1⟩ ek (λz=>nomatch z) h
 |@dtt ad ob ks vs ds kvs e0 _ hd _=>
  cases rv;subst e0;obtain⟨_,_,_,xs,_,o,es,ep,h1,h2,_⟩:=(I.hok ad _ (sg _ _ hd))
  exact JD PySem.W.kitx_dict I.kIn ⟨o,h1,h2.1⟩ ek (λz=>nomatch z) h
theorem BV(c)(hc:c = "int" ∨ c = "bool" ∨ c = "str" ∨ c = "list" ∨ c = "tuple" ∨ c = "dict"):typeOf (.type c)=pure (.type "type"):=by rcases hc with rfl|rfl|rfl|rfl|rfl|rfl<;>kernel_rfl
theorem jq:Y6 X (.builtin "isinstance") (λxs H Q=>∃v c G d,xs=[v,.ty c]/\Same G H/\Rep X.K G v d/\(c = "int" ∨ c = "bool" ∨ c = "str" ∨ c = "list" ∨ c = "tuple" ∨ c = "dict")/\Q (.bl (Zs d c)) H):=by
 intro pins s σ H xs us Q I r h;obtain⟨v,c,G,d,rfl,sg,rp,hc,q⟩:=h;obtain⟨u,w',rfl,r1,r2⟩:=OQ r;cases (r2);by_cases nx:Pt d=w5
 .cases rp with
  |@exc a C dd bm nm vs ds ck hx hd rr=>
   refine jv (Dd I.ok.mod.kin) pins s σ H [.ref a,.ty c] [u,.type c] Q I r ⟨a,C,dd,bm,w6,.ty c,w6,rfl,⟨nm,ck⟩,sg _ _ hx,.inr ⟨c,rfl,BV c hc,?_⟩,?_⟩
   .rw[ck.ty];rcases hc with rfl|rfl|rfl|rfl|rfl|rfl<;>rfl
   .have e:Zs (.dict [(.none,.tuple [.str nm,.list ds])]) c=w6:=by rcases hc with rfl|rfl|rfl|rfl|rfl|rfl<;>rfl
    simp_all
  |dct e _ _ _ _=>subst e;rw[Lx.2]at nx;simp_all
  |dtt e _ _ _=>subst e;cases nx
  |_=>cases nx
 .have nx   :=by simpa using nx
  exact BW I sg rp r1 nx (BX X.K d c nx hc) λtk=>⟨.bl _,H,I.tok tk,rfl,q⟩
theorem wV:bootBuiltins "isinstance" = O (.builtin "isinstance"):=by decide +kernel
theorem Pe  {p2 p3}{c}(hc:c = "int" ∨ c = "bool" ∨ c = "str" ∨ c = "list" ∨ c = "tuple" ∨ c = "dict")(hg:Gl X "isinstance")(hm:X.mg "isinstance" = w4)(hg2:Gl X (UH c))(hm2:X.mg (UH c)=w4)
  (hv2:bootBuiltins (UH c)=O (.type c)) (ha:PE X e (tD X.K B G0 f)) (hn2:(UH c) ≠ "__name__") (hd2:((UH c)==("__debug__" : Str))=w6)
  (hs:Uv [e,.Name (UH c) p3] X.env=(w6,eval e X.env)::Uv [.Name (UH c) p3] X.env:=by rfl)
  (hs2:Uv [.Name (UH c) p3] X.env=[(w6,eval (.Name (UH c) p3) X.env)]:=by rfl) :
  PE X (.Call (.Name "isinstance" p2) [e,.Name (UH c) p3] [] pos) (tD X.K B G0 (U7 (λd=>.bool (Zs d c)) f)):=by
 refine Kt (Oh jq hg hm wV (Tl ha (Tl (AC (v:=.ty c) hg2 hm2 hv2 wZ hn2 hd2) SZ (by rfl)) hs) (by decide) (by decide) hs (by rfl)) λσ H Q q=>?_
 refine tM.one  q λv H2 G Z x k r a=>?_
 exact⟨v,c,G,x,rfl,k.gh,r,hc,aft.now a k (.bl _)⟩
end
noncomputable def spD(K:Frag)(n:Nat)(F:w9->ya):Sp:=λvs H Q _=>∃G ds d,vs.length=n/\Same G H/\Reps K G vs ds/\F ds=O d/\∀v G' H',Ext G H G' H'->Rep K G' v d->Q v H'
section
variable{K:Frag}{B G0 G H:Hp}{σ:St}{Z:US}
theorem EOk.exit(k:EOk K B G0 G H σ Z):Ext G0 B G H:=⟨k.bh,k.g0,k.gh,k.np⟩
theorem Yl{α:Type}{l:List α}{i}{x y}(h:(l.set i x)[i]?=O y):y=x:=by
 by_cases hl:i<l.length
 .simp_all
 .simp_all
theorem DpOk.setOther   {y}(k:DpOk K B G H σ Z)(hy:∀s,y=O s->∃d,s=.pub d):DpOk K B G H (σ.set i x) (Z.set i y):=by
 have nz:∀{m:Nat}{s:Sl},(Z.set i y)[m]?=O (O s)->(∃d,s=.pub d)∨(Z[m]?=O _/\(σ.set i x)[m]?=σ[m]?):=λ{m s} q=>by
  by_cases z:i=m
  .subst z
   exact .inl (hy s (Yl q).symm)
  .rw[Qr z]at q⊢;exact .inr ⟨q,rfl⟩
 refine k.map (λm p d q=>?_) (λm es q=>?_) λm p d v fp q s r w n=>⟨r,w⟩
 .rcases nz q with ⟨_,e⟩|q
  .cases e
  .exact q
 .rcases nz q with ⟨_,e⟩|q
  .cases e
  .exact⟨es,q⟩
theorem EOk.setPub  {v:V}{d}(k:EOk K B G0 G H σ Z)(r:Rep K G v d)(hi:i<Z.length):EOk K B G0 G H (σ.set i (O v)) (Z.set i (O (.pub d))) where
 bh:=k.bh
 gh:=k.gh
 g0:=k.g0
 np:=k.np
 len:=by rw[QS,QS];exact k.len
 pub:=λj d' q=>by
  by_cases z:i=j
  .subst z
   have:=Yl q;cases this;exact⟨v,QG (by rw[←k.len];exact hi),r⟩
  .rw[Qr z]at q⊢
   exact k.pub j d' q
 own:=λj ds q=>by
  by_cases z:i=j
  .subst z
   have:=Yl q;cases this
  .rw[Qr z]at q⊢
   exact k.own j ds q
 sep:=λj l c es fs q1 q2 s1 s2=>by
  have z1:i≠j:=λz=>by subst z;have:=Yl q1;cases this
  have z2:i≠l:=λz=>by subst z;have:=Yl q2;cases this
  rw[Qr z1]at q1 s1;rw[Qr z2]at q2 s2;exact k.sep j l c es fs q1 q2 s1 s2
 dp:=k.dp.setOther (λs e=>by cases e;exact⟨_,rfl⟩)
structure NewL(K:Frag)(B G H:Hp)(σ:St)(Z:US)(a:Uq)(vs:List V)(ds:w9):Prop where
 b:B a=w4
 g:G a=w4
 h:H a=O (.lst vs)
 r:Reps K G vs ds
 f:∀(j:Nat) es,Z[j]?=O (O (.own es))->σ[j]?≠O (O (.ref a))
 dp:∀(j:Nat) p d v fp,Z[j]?=O (O (.deep p d))->σ[j]?=O (O v)->RepO K G H p v d fp->a∉fp
theorem EOk.freshD   (k:EOk K B G0 G H σ Z)(e:Same H H')(ha:H a=w4){G'}{j:Nat}{p}{d}{v}{fp}(q:Z[j]?=O (O (.deep p d)))(s:σ[j]?=O (O v))(r:RepO K G' H' p v d fp):a∉fp:=λm=>by
 obtain⟨ω,k1,k2⟩:=k.dp;obtain⟨v',fp',s',r',n,w⟩:=k1 j p d q;rw[s]at s';cases s';have u:=r'.uniq e r;subst u;obtain⟨ws,hl⟩:=r'.isl a m
 lia
theorem EOk.setOwn  {a:Uq}{vs:List V}{ds:w9}(k:EOk K B G0 G H σ Z)(n:NewL K B G H σ Z a vs ds)(hi:i<Z.length):EOk K B G0 G H (σ.set i (O (.ref a))) (Z.set i (O (.own ds))) where
 bh:=k.bh
 gh:=k.gh
 g0:=k.g0
 np:=k.np
 len:=by rw[QS,QS];exact k.len
 pub:=λj d' q=>by
  by_cases z:i=j
  .subst z
   have:=Yl q;cases this
  .rw[Qr z]at q⊢
   exact k.pub j d' q
 own:=λj es q=>by
  by_cases z:i=j
  .subst z
   have:=Yl q;cases this;exact⟨a,vs,QG (by rw[←k.len];exact hi),n.b,n.g,n.h,n.r⟩
  .rw[Qr z]at q⊢
   exact k.own j es q
 sep:=λj l c es fs q1 q2 s1 s2=>by
  have hs:i<σ.length:=by rw[←k.len];exact hi
  by_cases z1:i=j
  .subst z1
   rw[QG hs]at s1;cases s1;by_cases z2:i=l
   .exact z2
   .rw[Qr z2]at q2 s2
    exact absurd s2 (n.f l fs q2)
  .by_cases z2:i=l
   .subst z2
    rw[QG hs]at s2;cases s2;rw[Qr z1]at q1 s1;exact absurd s1 (n.f j es q1)
   .rw[Qr z1]at q1 s1
    rw[Qr z2]at q2 s2;exact k.sep j l c es fs q1 q2 s1 s2
 dp:=by
  obtain⟨ω,k1,k2⟩:=k.dp;have hs:i<σ.length:=by rw[←k.len];exact hi
  refine⟨λb=>if b=a then i else ω b,λj p d q=>?_,λj es b q s=>?_⟩
  .by_cases z:i=j
   .subst z;have:=Yl q;cases this
   .rw[Qr z]at q⊢
    obtain⟨v,fp,s,r,nn,w⟩:=k1 j p d q;refine⟨v,fp,s,r,nn,λb m=>⟨(w b m).1,(w b m).2.1,?_⟩⟩;dsimp only;rw[Qw (λz=>n.dp j p d v fp q s r (by rw[←z];exact m))];exact(w b m).2.2
  .by_cases z:i=j
   .subst z
    rw[QG hs]at s;cases s;dsimp only;rw[Qp wZ]
   .rw[Qr z]at q s
    dsimp only;rw[Qw (λe=>n.f j es q (by rw[←e];exact s))];exact k2 j es b q s
theorem EOk.change  {a:Uq}{vs:List V}{ds es:w9}(k:EOk K B G0 G H σ Z)(q:Z[i]?=O (O (.own ds)))(ha:σ[i]?=O (O (.ref a)))(r:Reps K G vs es) :
  EOk K B G0 G (upd H a (.lst vs)) σ (Z.set i (O (.own es))):=by
 obtain⟨a',ws,h1,h2,h3,h4,h5⟩:=k.own i ds q;rw[ha]at h1;cases h1;refine⟨λb o e=>?_,λb o e=>?_,k.g0,k.np,by rw[QS];exact k.len,λj d' e=>?_,λj fs e=>?_,λj l c fs gs q1 q2 s1 s2=>?_,?_⟩
 .rw[KH (Yx e h2)];exact k.bh b o e
 .rw[KH (Yx e h3)];exact k.gh b o e
 .by_cases z:i=j
  .subst z
   have:=Yl e;cases this
  .rw[Qr z]at e
   exact k.pub j d' e
 .by_cases z:i=j
  .subst z
   have:=Yl e;cases this;exact⟨a,vs,ha,h2,h3,Zp,r⟩
  .rw[Qr z]at e
   obtain⟨c,us,g1,g2,g3,g4,g5⟩:=k.own j fs e;have zc:c≠a:=λw=>z (k.sep i j a ds fs q e ha (by rw[←w];exact g1))
   exact⟨c,us,g1,g2,g3,by rw[KH zc];exact g4,g5⟩
 .have f:∀{m:Nat}{ts:w9},(Z.set i (O (Sl.own es)))[m]?=O _->∃ts',Z[m]?=O (O (.own ts')):=λ{m ts} e=>by
   by_cases z:i=m
   .subst z;exact⟨ds,q⟩
   .rw[Qr z]at e;exact⟨ts,e⟩
  obtain⟨f1,w1⟩:=f q1;obtain⟨f2,w2⟩:=f q2;exact k.sep j l c f1 f2 w1 w2 s1 s2
 .refine k.dp.map (λj p d e=>?_) (λj fs e=>?_) λj p d v fp qj s rj w n=>⟨rj.upd (λ_ z=>by rw[h4]at z;cases z) (n i ds a q ha),w⟩
  .by_cases z:i=j
   .subst z;have:=Yl e;cases this
   .rw[Qr z]at e;exact⟨e,rfl⟩
  .by_cases z:i=j
   .subst z;exact⟨ds,q,rfl⟩
   .rw[Qr z]at e;exact⟨fs,e,rfl⟩
end
inductive Out where
 |nx (Z:US)|rt (d:D)|bk (Z:US)|ct (Z:US)|ex (Z:US) (d:D)|ro (ds:w9)|bad
abbrev SM:=US->Out
section
variable(K:Frag)(B G0:Hp)(KX:XW)
def aftS(o:Out)(G1:Hp)(Dn:Ends):Prop:=
 match o with
 |.nx Z=>∀σ G H,EOk K B G0 G H σ Z->Same G1 G->Dn.nx σ H
 |.bk Z=>∀σ G H,EOk K B G0 G H σ Z->Same G1 G->Dn.bk σ H
 |.ct Z=>∀σ G H,EOk K B G0 G H σ Z->Same G1 G->Dn.ct σ H
 |.rt d=>∀v G H,Ext G0 B G H->Rep K G v d->Dn.rt v H
 |.ro ds=>∀a vs G H,Ext G0 B G H->B a=w4->G a=w4->H a=O (.lst vs)->Reps K G vs ds->Dn.rt (.ref a) H
 |.ex Z d=>∀v σ G H,EOk K B G0 G H σ Z->Same G1 G->Rep K G v d->KX v σ H
 |.bad=>False
noncomputable def tS(g:SM):TS:=λDn σ H=>∃G Z,EOk K B G0 G H σ Z/\aftS K B G0 KX (g Z) G Dn
noncomputable def sB{α:Type}(f:M α)(g:α->SM):SM:=λZ=>match f Z with | .ok a Z'=>g a Z' | .bad=>.bad
end
section
variable{X:Cx}{B G0:Hp}{KX:XW}{e a b c:Us}{pos:Pos}{es rest:yb}{st:Stmt}{sts sts2:List Stmt}
theorem aftS.mono{K}{o}{G G'}{Dn}(e:Same G G')(h:aftS K B G0 KX o G Dn):aftS K B G0 KX o G' Dn:=by
 cases o with
 |nx Z=>exact λσ G2 H2 k s=>h σ G2 H2 k (e.trans s)
 |bk Z=>exact λσ G2 H2 k s=>h σ G2 H2 k (e.trans s)
 |ct Z=>exact λσ G2 H2 k s=>h σ G2 H2 k (e.trans s)
 |rt d=>exact h
 |ro ds=>exact h
 |ex Z d=>exact λv σ G2 H2 k s r=>h v σ G2 H2 k (e.trans s) r
 |bad=>exact h
theorem tS.bnd{K}{α γ}{R}{f:M α}{g}{Dn}{σ}{H}{P:γ->Hp->Prop}(q:tS K B G0 KX (sB f g) Dn σ H)
  (i:∀v H' G' Z' x,EOk K B G0 G' H' σ Z'->R G' v x->aftS K B G0 KX (g x Z') G' Dn->P v H'):tM K B G0 R f σ H P:=by
 obtain⟨G,Z,k,a⟩:=q;refine⟨G,Z,k,?_⟩;unfold sB at a;cases z:f Z with
 |bad=>rw[z]at a;exact a.elim
 |ok d Z1=>rw[z]at a;exact λv G' H' e s r=>i v H' G' Z1 d e r (aftS.mono s a)
noncomputable def sNx:SM:=λZ=>.nx Z
noncomputable def UU(g h:SM):SM:=λZ=>match g Z with | .nx Z'=>h Z'|o=>o
theorem O5:PSs X [] (tS X.K B G0 KX sNx):=MX A3 λD σ H ⟨G,Z,k,a⟩=>a σ G H k (.refl _)
theorem Rh  (h1:PS X st (tS X.K B G0 KX g))(h2:PSs X sts (tS X.K B G0 KX h)):PSs X (st::sts) (tS X.K B G0 KX (UU g h)):=MX (jH h1 h2) λD σ H ⟨G,Z,k,a⟩=>by
 refine⟨G,Z,k,?_⟩;unfold UU at a;cases z:g Z with
 |nx Z1=>rw[z]at a;exact λσ' G' H' k' s'=>⟨G',Z1,k',aftS.mono s' a⟩
 |rt d=>rw[z]at a;exact a
 |ro ds=>rw[z]at a;exact a
 |bk Z1=>rw[z]at a;exact a
 |ct Z1=>rw[z]at a;exact a
 |ex Z1 d=>rw[z]at a;exact a
 |bad=>rw[z]at a;exact a.elim
theorem SX{g:SM}(h1:PS X st (tS X.K B G0 KX g)):PSs X [st] (tS X.K B G0 KX g):=A1 h1
noncomputable def WG:SM:=λ_=>.bad
theorem jp:PS X st (tS X.K B G0 KX WG):=λ_ _ _ _ _ _ ⟨_,_,_,a⟩=>a.elim
noncomputable def U5(f:M D):SM:=sB f λd _=>.rt d
theorem Lw  (h:PE X e (tD X.K B G0 f)):PS X (.Return (O e) pos) (tS X.K B G0 KX (U5 f)):=ZG (CQ h) λD σ H q=>tS.bnd  q λv H' G' Z' x k r a=>a v G' H' k.exit r
noncomputable def Xy(f:M D):SM:=sB f λ_ Z=>.nx Z
theorem BU  (h:PE X e (tD X.K B G0 f))(hs:swapsWith e w4 pos.line X.env=pure w6:=by rfl):PS X (.Expr e pos) (tS X.K B G0 KX (Xy f)):=ZG (HQ h hs) λD σ H q=>tS.bnd  q λv H' G' Z' x k r a=>a σ G' H' k (.refl _)
noncomputable def sIf(f:M Bool)(g h:SM):SM:=sB f λt=>if t=w5 then g else h
theorem OH   (hc:PT X c (tBo X.K B G0 f))(ha:PSs X sts (tS X.K B G0 KX g))(hb:PSs X sts2 (tS X.K B G0 KX h)):PS X (.If c sts sts2 pos) (tS X.K B G0 KX (sIf f g h)):=
 ZG (CG hc ha hb) λD σ H q=>tS.bnd  q λv H' G' Z' x k r a=>by
  subst r;cases v with
  |true=>exact⟨G',Z',k,a⟩
  |false=>exact⟨G',Z',k,a⟩
noncomputable def tG(K:Frag)(B G0:Hp)(s:D->US->yg):TG:=λv σ H Q=>∃G Z d Z',EOk K B G0 G H σ Z/\Rep K G v d/\s d Z=O Z'/\∀σ' G' H',EOk K B G0 G' H' σ' Z'->Same G G'->Q σ' H'
noncomputable def tGs(K:Frag)(B G0:Hp)(s:w9->US->yg):TGs:=λv σ H Q=>∃G Z d Z',EOk K B G0 G H σ Z/\Reps K G v d/\s d Z=O Z'/\∀σ' G' H',EOk K B G0 G' H' σ' Z'->Same G G'->Q σ' H'
theorem pgof  (h:PG X e t)(i:∀v σ H Q,t' v σ H Q->t v σ H Q):PG X e t':=λpins s σ H v u Q I r q=>h pins s σ H v u Q I r (i v σ H Q q)
theorem MU  (h:PGs X es t)(i:∀v σ H Q,t' v σ H Q->t v σ H Q):PGs X es t':=λpins s σ H v u Q I r q=>h pins s σ H v u Q I r (i v σ H Q q)
noncomputable def gN(i:Nat):D->US->yg:=λd Z=>if i<Z.length then O (Z.set i (O (.pub d)))else w4
theorem WI  (h:PG X e (OR i)):PG X e (tG X.K B G0 (gN i)):=pgof h λv σ H Q ⟨G,Z,d,Z',k,r,e,q⟩=>by
 unfold gN at e;split at e
 .rename_i hi
  cases e;exact q _ G H (k.setPub r hi) (.refl _)
 simp_all
noncomputable def gN0:w9->US->yg:=λd Z=>match d with | []=>O Z|_=>w4
noncomputable def gNC(s:D->US->yg)(t:w9->US->yg):w9->US->yg:=λds Z=>match ds with|d::r=>(s d Z).bind (t r) | []=>w4
theorem PK:PGs X [] (tGs X.K B G0 gN0):=MU A0 λv σ H Q ⟨G,Z,d,Z',k,r,e,q⟩=>by
 cases r with
 |nil=>cases e;exact⟨rfl,q σ G H k (.refl _)⟩
 |cons _ _=>cases e
theorem WS   (h1:PG X e (tG X.K B G0 s))(h2:PGs X es (tGs X.K B G0 t))
  (hs:(UK (e::es) X.env).map (·.2)=assign e X.env::(UK es X.env).map (·.2):=by rfl):PGs X (e::es) (tGs X.K B G0 (gNC s t)):=MU (jG h1 h2 hs) λv σ H Q ⟨G,Z,d,Z',k,r,e,q⟩=>by
 cases r with
 |nil=>cases e
 |@cons w dw ws dws rw rt=>
  unfold gNC at e;dsimp only at e;cases z:s dw Z with
  |none=>simp_all
  |some Z1=>rw[z]at e;refine⟨w,ws,rfl,G,Z,dw,Z1,k,rw,z,λσ' G' H' k' s'=>?_⟩;exact⟨G',Z1,dws,Z',k',rt.mono s',e,λσ2 G2 H2 k2 s2=>q σ2 G2 H2 k2 (s'.trans s2)⟩
noncomputable def gT(n:Nat)(t:w9->US->yg):D->US->yg:=λd Z=>match d with | .tuple ds=>if ds.length=n then t ds Z else w4|_=>w4
theorem PJ{k1}{t}{n}(hc:X.calm=w5)(h:PGs X es (tGs X.K B G0 t))
  (hn:(UK es X.env).length=n:=by rfl) (hst:(UK es X.env).findIdx? (·.1)=w4:=by rfl):PG X (.Tuple es k1 pos) (tG X.K B G0 (gT n t)):=pgof (CP hc h hn hst) λv σ H Q ⟨G,Z,d,Z',k,r,e,q⟩=>by
 unfold gT at e;split at e
 .split at e
  .rename_i hl
   obtain⟨ad,vs,rfl,h1,r1⟩:=r.tup_inv;exact⟨ad,vs,rfl,Xl k.gh h1,by rw[r1.length];exact hl,G,Z,_,Z',k,r1,e,q⟩
  simp_all
 simp_all
noncomputable def Zr(f:M D)(s:D->US->yg):SM:=sB f λd Z=>match s d Z with|some Z'=>.nx Z'|none=>.bad
theorem D8  {f}{s}(he:PE X e (tD X.K B G0 f))(hg:PG X tg (tG X.K B G0 s))(hs:swapsWithSole [tg] e pos.line X.env=pure w6:=by rfl)(hw:swappedStores [tg] e X.env=pure w4:=by rfl)
  (h1:(UK [tg] X.env).map (·.2)=[assign tg X.env]:=by rfl):PS X (.Assign [tg] e pos) (tS X.K B G0 KX (Zr f s)):=
 ZG (CO he hg hs hw h1) λD σ H q=>tS.bnd  q λv H' G' Z' x k r a=>by
  cases z:s x Z' with
  |none=>rw[z]at a;exact a.elim
  |some Z2=>rw[z]at a;exact⟨G',Z',x,Z2,k,r,z,λσ2 G2 H2 k2 s2=>a σ2 G2 H2 k2 s2⟩
noncomputable def Kc(i:Nat)(f:M D):SM:=Zr f (gN i)
theorem D7     (hN:X.N.Nodup)(hi:X.N[i]?=O x)(hx:Loc X.env.scope x)(he:PE X e (tD X.K B G0 f))(hs:swapsWith e (O (.Name x p2)) pos.line X.env=pure w6:=by rfl)
  (hf:X.fn x=w5∨X.env.scope.names.lookup x=O .local:=by first|exact .inl rfl|exact .inr rfl|assumption):PS X (.Assign [.Name x p2] e pos) (tS X.K B G0 KX (Kc i f)):=
 ZG (O4 hN hi hx he hs hf) λD σ H q=>tS.bnd  q λv H' G' Z' x k r a=>by
  unfold gN at a;split at a
  .rename_i Z2 hz
   split at hz
   .rename_i hi2
    cases hz;exact a _ G' H' (k.setPub r hi2) (.refl _)
   simp_all
  .exact a.elim
noncomputable def tL(K:Frag)(B G0:Hp)(f:M w9):TE:=λσ H Q=>∃G Z,EOk K B G0 G H σ Z/\match f Z with
 |.ok ds Z'=>∀a vs G' H',EOk K B G0 G' H' σ Z'->Same G G'->NewL K B G' H' σ Z' a vs ds->Q (.ref a) H'
 |.bad=>False
noncomputable def Zq(i:Nat)(f:M w9):SM:=sB f λds Z=>if i<Z.length then .nx (Z.set i (O (.own ds)))else .bad
theorem Gc     (hN:X.N.Nodup)(hi:X.N[i]?=O x)(hx:Loc X.env.scope x)(he:PE X e (tL X.K B G0 f))(hs:swapsWith e (O (.Name x p2)) pos.line X.env=pure w6:=by rfl)
  (hf:X.fn x=w5∨X.env.scope.names.lookup x=O .local:=by first|exact .inl rfl|exact .inr rfl|assumption):PS X (.Assign [.Name x p2] e pos) (tS X.K B G0 KX (Zq i f)):=
 ZG (O4 hN hi hx he hs hf) λD σ H ⟨G,Z,k,a⟩=>by
  refine⟨G,Z,k,?_⟩;unfold Zq sB at a;cases z:f Z with
  |bad=>rw[z]at a;exact a.elim
  |ok ds Z1=>
   rw[z]at a;intro ad vs G' H' k' s' n;dsimp only at a;split at a
   .rename_i hl
    exact a _ G' H' (k'.setOwn n hl) s'
   .exact a.elim
theorem NewL.of{K}{G H}{σ}{Z}{p}{vs}{ds}(k:EOk K B G0 G H σ Z)(hp:H p=w4)(r:Reps K G vs ds):NewL K B G (upd H p (.lst vs)) σ Z p vs ds where
 b:=k.bh.free hp
 g:=k.gh.free hp
 h:=Zp
 r:=r
 f:=λj es q z=>by
  obtain⟨a,ws,h1,h2,h3,h4,h5⟩:=k.own j es q
  lia
 dp:=λj pt d v fp q s rr=>k.freshD (ZQ hp) hp q s rr
theorem Ga  (h:PA X es (tDs X.K B G0 f)):PE X (.List es pos) (tL X.K B G0 (Ke f λxs=>if xs.length<=1000000 then UT xs else λ_=>.bad)):=
 Kt (LC h) λσ H Q ⟨G,Z,k,a⟩=>by
  refine⟨G,Z,k,?_⟩;unfold Ke at a;cases z:f Z with
  |bad=>simp_all
  |ok ds Z1=>
   rw[z]at a;dsimp only at a;intro v G' H' k' s' r;by_cases c:ds.length<=1000000
   .rw[Qp c]at a
    refine⟨by rw[r.length];exact QN c lim,λp hp=>?_⟩;exact a p v G' _ (k'.ext (Ext.hid k'.gh hp)) s' (NewL.of k' hp r)
   simp_all
noncomputable def ZV(i:Nat)(f:M D):SM:=λZ0=>match Z0[i]? with
 |some (O (.own _))=>sB f (λd Z=>match Z[i]? with
  |some (O (.own ds))=>if ds.length<1000000 then .nx (Z.set i (O (.own (ds++[d]))))else .bad
  |_=>.bad) Z0
 |_=>.bad
theorem Lv  {f:M D}{o:Us}{apos cpos:Pos}(ho:PE X o (Zg i))(he:PE X e (tD X.K B G0 f))
  (hbase:attributeBase o "append" X.env (eval o X.env)=eval o X.env:=by rfl)
  (hfew:((backTo cpos (Uv [e] X.env)).all (λx=>!x.1)&&(backToKw cpos (keywordEach [] X.env)).all (λx=>x.1.isSome)
   && decide ([e].length+([]:List Keyword).length+(if([]:List Keyword).isEmpty then 0 else 1)<30))=w5:=by rfl)
  (hline:(apos.endLine==cpos.line)=w5:=by rfl) (hs:Uv [e] X.env=[(w6,eval e X.env)]:=by rfl)
  (hsw:swapsWith (.Call (.Attribute o "append" apos) [e] [] cpos) w4 pos.line X.env=pure w6:=by rfl) :
  PS X (.Expr (.Call (.Attribute o "append" apos) [e] [] cpos) pos) (tS X.K B G0 KX (ZV i f)):=
 ZG (HQ (OP PySem.F.plainAttrs_list PySem.F.slot_list_append PySem.F.type_list_append FF ho (Tl he SZ (by rw[hs];rfl)) hbase hfew hline (by rw[hs];rfl) wZ) hsw) λD σ H ⟨G,Z,k,a⟩=>by
  unfold ZV at a;cases q0:Z[i]? with
  |none=>rw[q0]at a;exact a.elim
  |some o0=>
   cases o0 with
   |none=>rw[q0]at a;exact a.elim
   |some sl0=>
    cases sl0 with
    |deep _ _=>rw[q0]at a;exact a.elim
    |pub d=>rw[q0]at a;exact a.elim
    |own zu=>
     rw[q0]at a;obtain⟨ad,vs0,h1,h2,h3,h4,h5⟩:=k.own i zu q0;refine⟨.ref ad,h1,.inl ⟨rfl,_,SqL.of h4⟩,G,Z,k,?_⟩;unfold sB at a;cases z:f Z with
     |bad=>rw[z]at a;exact a.elim
     |ok d Z1=>
      rw[z]at a;dsimp only at a;intro v G' H' k' s' r';cases q:Z1[i]? with
      |none=>rw[q]at a;exact a.elim
      |some o=>
       cases o with
       |none=>rw[q]at a;exact a.elim
       |some sl=>
        cases sl with
        |deep _ _=>rw[q]at a;exact a.elim
        |pub d=>rw[q]at a;exact a.elim
        |own ds=>
         rw[q]at a;dsimp only at a;split at a
         .rename_i hl
          obtain⟨ad',vs,g1,g2,g3,g4,g5⟩:=k'.own i ds q;rw[h1]at g1;cases g1;refine⟨ad,vs,v,rfl,rfl,g4,by rw[g5.length];exact QH hl lim,?_⟩;exact a σ G' _ (k'.change q h1 (g5.append (.cons r' .nil))) s'
         .exact a.elim
end
structure Wj(K:Frag)(J:It)(ds:w9)(G1:Hp):Prop where
 go:∀i G H,Same G1 G->Same G H->i<ds.length->J.go i H
 stop:∀i G H,Same G1 G->Same G H->ds.length<=i->J.stop i H
 yld:∀i G H x H' d,Same G1 G->Same G H->ds[i]?=O d->J.yld i H x H'->∃G',Ext G H G' H'/\Rep K G' x d
noncomputable def iD(K:Frag)(B G0:Hp)(f:M w9):TI:=λσ H R=>∃G Z,EOk K B G0 G H σ Z/\match f Z with
 |.ok ds Z'=>∀J G' H',EOk K B G0 G' H' σ Z'->Same G G'->Wj K J ds G'->R J H'
 |.bad=>False
section
variable{X:Cx}{B G0:Hp}{KX:XW}{e a b c tg:Us}{pos:Pos}{es rest:yb}{st:Stmt}{sts sts2:List Stmt}
theorem Wp  (h:PI X tg e t)(i:∀σ H R,t' σ H R->t σ H R):PI X tg e t':=λpins s σ H R I q=>h pins s σ H R I (i σ H R q)
theorem tM.toI{K}{α γ}{R0}{f:M α}{g}{σ}{H}{R}{P:γ->Hp->Prop}(q:iD K B G0 (Ke f g) σ H R)
  (i:∀v H' G' Z' x,EOk K B G0 G' H' σ Z'->R0 G' v x->(match g x Z' with
   |.ok ds Z2=>∀J G2 H2,EOk K B G0 G2 H2 σ Z2->Same G' G2->Wj K J ds G2->R J H2
   |.bad=>False)->P v H'):tM K B G0 R0 f σ H P:=by
 obtain⟨G,Z,k,a⟩:=q;refine⟨G,Z,k,?_⟩;unfold Ke at a;cases z:f Z with
 |bad=>rw[z]at a;exact a.elim
 |ok d Z1=>
  rw[z]at a;intro v G' H' e s r;refine i v H' G' Z1 d e r ?_;dsimp only at a;cases z2:g d Z1 with
  |bad=>rw[z2]at a;exact a.elim
  |ok ds Z2=>rw[z2]at a;exact λJ G2 H2 k2 s2 it=>a J G2 H2 k2 (s.trans s2) it
theorem vE{K}{G1}{ad}{vs}{ds}(h:SqL K G1 ad vs)(r:Reps K G1 vs ds):Wj K (Itl K ad) ds G1 where
 go:=λi G H s1 s2 hi=>by
  have hi':i<vs.length:=by rw[r.length];simp_all
  exact⟨vs,vs[i],(s1.trans s2).seq h,Qe hi'⟩
 stop:=λi G H s1 s2 hi=>⟨vs,(s1.trans s2).seq h,by rw[r.length];simp_all⟩
 yld:=λi G H x H' d s1 s2 e y=>by obtain⟨rfl,y⟩:=y;obtain⟨v,e1,r1⟩:=r.get e;have:=y vs ((s1.trans s2).seq h);rw[e1]at this;cases this;exact⟨G,.refl s2,r1.mono s1⟩
noncomputable def Yt(lo hi:Int):w9:=(Ux (hi-lo).toNat).map λ(k:Nat)=>.int (lo+k)
theorem Y0(lo hi):(Yt lo hi).length=(hi-lo).toNat:=by unfold Yt;simp_all
theorem ER{K}{G1}(lo hi):Wj K (Itr lo (hi-lo).toNat) (Yt lo hi) G1 where
 go:=λi G H s1 s2 h=>by rw[Y0]at h;exact h
 stop:=λi G H s1 s2 h=>by rw[Y0]at h;exact h
 yld:=λi G H x H' d s1 s2 e y=>by
  obtain⟨rfl,rfl⟩:=y;unfold Yt at e;rw[Qd]at e;have hi:i<(Ux (hi-lo).toNat).length:=by refine Nat.lt_of_not_le λz=>?_;rw[QT z]at e;cases e
  rw[Qe hi,List.getElem_range]at e;cases e;exact⟨G,.refl s2,.int _⟩
noncomputable def RH:w9->Option w9
 |[.int j]=>if j<=1000000 /\ -1000000<=j then O (Yt 0 j)else w4
 |_=>w4
noncomputable def RG:w9->Option w9
 |[.int i,.int j]=>if j<=1000000 /\ -1000000<=j/\i<=1000000 /\ -1000000<=i then O (Yt i j)else w4
 |_=>w4
noncomputable def Xx(f:M w9):M w9:=Ke f λx=>Kf (RH x)
noncomputable def RF(f:M w9):M w9:=Ke f λx=>Kf (RG x)
theorem vh   (hg:Gl X "range")(hm:X.mg "range" = w4)(ha:PA X [a] (tDs X.K B G0 f))(hs:Uv [a] X.env=[(w6,eval a X.env)]:=by rfl) :
  PI X tg (.Call (.Name "range" p2) [a] [] pos) (iD X.K B G0 (Xx f)):=Wp (xx hg hm ha hs) λσ H R q=>tM.toI  q λv H' G' Z' x k r a=>by
 cases z:RH x with
 |none=>rw[z]at a;exact a.elim
 |some ds=>
  rw[z]at a;unfold RH at z;split at z
  .split at z
   .rename_i j c
    cases z;obtain⟨w,rfl,r'⟩:=r.one_inv;refine⟨j,by rw[r'.int_inv],by lia,by lia,?_⟩;have it:=ER (K:=X.K) (G1:=G') 0 j;rw[Int.sub_zero]at it;exact a _ G' H' k (.refl _) it
   simp_all
  simp_all
theorem vg  {p2}(hg:Gl X "range")(hm:X.mg "range" = w4)(ha:PA X [a,b] (tDs X.K B G0 f))(hs:Uv [a,b] X.env=[(w6,eval a X.env),(w6,eval b X.env)]:=by rfl)(hs2:Uv [b] X.env=[(w6,eval b X.env)]:=by rfl) :
  PI X tg (.Call (.Name "range" p2) [a,b] [] pos) (iD X.K B G0 (RF f)):=Wp (xw hg hm ha hs hs2) λσ H R q=>tM.toI  q λv H' G' Z' x k r a=>by
 cases z:RG x with
 |none=>rw[z]at a;exact a.elim
 |some ds=>
  rw[z]at a;unfold RG at z;split at z
  .split at z
   .rename_i i j c
    cases z;obtain⟨w,w',rfl,r1,r2⟩:=r.two_inv;refine⟨i,j,by rw[r1.int_inv,r2.int_inv],⟨by lia,by lia,by lia,by lia⟩,?_⟩;exact a _ G' H' k (.refl _) (ER i j)
   simp_all
  simp_all
noncomputable def Yc(n:Nat):w9->w9
 |[]=>[]
 |d::r=>.tuple [.int n,d]::Yc (n+1) r
theorem YH:∀(n)(ds),(Yc n ds).length=ds.length
 |_,[]=>rfl
 |n,d::r=>by rw[Yc,Qz,Qz,YH]
theorem Oj:∀(n)(ds)(i:Nat),(Yc n ds)[i]?=ds[i]?.map λd=>.tuple [.int ((n+i:Nat):Int),d]
 |_,[],i=>by simp[Yc]
 |n,d::r,0=>by simp[Yc]
 |n,d::r,i+1=>by
  rw[Yc,JZ,JZ,Oj _ r i];have:n+1+i=n+(i+1):=by lia
  rw[this]
theorem vD{K}{G1}{ad}{vs}{ds}(h:SqL K G1 ad vs)(r:Reps K G1 vs ds):Wj K (Ite K ad) (Yc 0 ds) G1 where
 go:=λi G H s1 s2 hi=>by
  rw[YH]at hi;have hi':i<vs.length:=by rw[r.length];exact hi
  exact⟨vs,vs[i],(s1.trans s2).seq h,Qe hi'⟩
 stop:=λi G H s1 s2 hi=>by rw[YH]at hi;exact⟨vs,(s1.trans s2).seq h,by rw[r.length];exact hi⟩
 yld:=λi G H x H' d s1 s2 e y=>by
  obtain⟨p,v,hp,rfl,y,rfl⟩:=y;rw[Oj]at e;cases z:ds[i]? with
  |none=>rw[z]at e;cases e
  |some d0=>rw[z]at e;cases e;obtain⟨w,e1,r1⟩:=r.get z;have:=y vs ((s1.trans s2).seq h);rw[e1]at this;cases this;refine⟨upd G p _,Ext.new s2 hp,.tup (SqT.of Zp) (.cons ?_ (.cons ((r1.mono s1).mono (ZQ (s2.free hp))) .nil))⟩;rw[QO];exact .int _
noncomputable def RE:w9->Option w9
 |[.list ds]=>O (Yc 0 ds)
 |_=>w4
noncomputable def Y5(f:M w9):M w9:=Ke f λx=>Kf (RE x)
theorem HZ   {elts}{x1}{tp}(hg:Gl X "enumerate")(hm:X.mg "enumerate" = w4)(ha:PA X [a] (tDs X.K B G0 f))(hs:Uv [a] X.env=[(w6,eval a X.env)]:=by rfl) :
  PI X (.Tuple elts x1 tp) (.Call (.Name "enumerate" p2) [a] [] pos) (iD X.K B G0 (Y5 f)):=Wp (AO hg hm ha hs) λσ H R q=>tM.toI  q λv H' G' Z' x k r a=>by
 cases z:RE x with
 |none=>rw[z]at a;exact a.elim
 |some ds=>
  unfold RE at z;split at z
  .obtain⟨w,rfl,r'⟩:=r.one_inv
   obtain⟨ad,vs,rfl,h1,r1⟩:=r'.lst_inv;exact⟨ad,vs,rfl,k.gh.seq h1,a _ G' H' k (.refl _) (vD h1 r1)⟩
  simp_all
noncomputable def Tf(s:D->US->yg)(g:SM):w9->SM
 |[],Z=>.nx Z
 |d::r,Z=>match s d Z with
  |none=>.bad
  |some Z1=>match g Z1 with
   |.nx Z2=>Tf s g r Z2
   |.ct Z2=>Tf s g r Z2
   |.bk Z2=>.nx Z2
   |.rt d=>.rt d
   |.ro ds=>.ro ds
   |.ex Z2 d=>.ex Z2 d
   |.bad=>.bad
noncomputable def KI(f:M w9)(s:D->US->yg)(g:SM):SM:=sB f λds=>Tf s g ds
theorem O8{iter:Us}{body:List Stmt}{f:M w9}{s}{g:SM}(hp:PassesOwn (model X.prog X.w) X.A X.env X.xe)(hc:X.calm=w5)(hi:PI X tg iter (iD X.K B G0 f))(hg:PG X tg (tG X.K B G0 s))(hb:PSs X body (tS X.K B G0 KX g))
  (hs:∀x,UL iter X.env x=pure x:=by intro _;rfl):PS X (.For tg iter body [] pos) (tS X.K B G0 KX (KI f s g)):=
 ZG (BA hp hc hi hg hb hs) λDn σ H ⟨G,Z,k,a⟩=>by
  refine⟨G,Z,k,?_⟩;unfold KI sB at a;cases z:f Z with
  |bad=>rw[z]at a;exact a.elim
  |ok ds Z1=>
   rw[z]at a;intro J G1 H1 k1 s1 it;refine⟨λi m σ' H'=>m=ds.length-i/\∃G' Z',EOk X.K B G0 G' H' σ' Z'/\Same G1 G'/\aftS X.K B G0 KX (Tf s g (ds.drop i) Z') G' Dn,⟨ds.length,by lia,G1,Z1,k1,.refl _,by rw[List.drop_zero];exact aftS.mono s1 a⟩,?_⟩;rintro i m σ' H' ⟨rfl,G',Z',k',s',a'⟩;by_cases hi:i<ds.length
   .right
    refine⟨it.go i G' H' s' k'.gh hi,λσ2 H2=>∃G2 Z2,EOk X.K B G0 G2 H2 σ2 Z2/\Same G1 G2/\aftS X.K B G0 KX _ G2 Dn,λσ2 H2 h2=>⟨ds.length-(i+1),by lia,rfl,h2⟩,λx H2 y=>?_⟩;obtain⟨G2,ex,rx⟩:=it.yld i G' H' x H2 ds[i] s' k'.gh (Qe hi) y;rw[Jc hi,Tf]at a';cases z2:s ds[i] Z' with
    |none=>rw[z2]at a';exact a'.elim
    |some Z2=>
     rw[z2]at a';dsimp only at a';refine⟨G2,Z',ds[i],Z2,k'.ext ex,rx,z2,λσ3 G3 H3 k3 s3=>⟨G3,Z2,k3,?_⟩⟩;have s13:Same G1 G3:=(s'.trans ex.g).trans s3;cases z3:g Z2 with
     |nx Z3=>rw[z3]at a';exact λσ4 G4 H4 k4 s4=>⟨G4,Z3,k4,s13.trans s4,aftS.mono ((ex.g.trans s3).trans s4) a'⟩
     |ct Z3=>rw[z3]at a';exact λσ4 G4 H4 k4 s4=>⟨G4,Z3,k4,s13.trans s4,aftS.mono ((ex.g.trans s3).trans s4) a'⟩
     |bk Z3=>rw[z3]at a';exact λσ4 G4 H4 k4 s4=>a' σ4 G4 H4 k4 ((ex.g.trans s3).trans s4)
     |rt d=>rw[z3]at a';exact a'
     |ro ds=>rw[z3]at a';exact a'
     |ex Z3 d=>rw[z3]at a';exact λv σ4 G4 H4 k4 s4 r4=>a' v σ4 G4 H4 k4 ((ex.g.trans s3).trans s4) r4
     |bad=>rw[z3]at a';exact a'.elim
   .left
    rw[J5 (by lia)]at a';exact⟨it.stop i G' H' s' k'.gh (by lia),a' σ' G' H' k' (.refl _)⟩
theorem jU    {ps}{F}{g}{x:Str}{p2:Pos}{n:Nat}(FK:FnOk X.prog X.w X.K X.mg X.base CX0 k f fd ps (spD X.K n F))(hr:Room k X.A)(hg:Gl X x)(hm:X.mg x=O (.ref f))(hk:PySem.W.keepIn X.K (.ref f)=w5)
  (hb:VS X.K fd ps []) (ha:PA X (e::es) (tDs X.K B G0 g)) (hn:(e::es).length=n) (hdb:(x==("__debug__" : Str))=w6:=by decide) (he:Uv (e::es) X.env=(w6,eval e X.env)::Uv es X.env:=by rfl) (hpl:(backTo pos (Uv es X.env)).any (·.1)=w6:=by rfl) :
  PE X (.Call (.Name x p2) (e::es) [] pos) (tD X.K B G0 (Ke g λxs=>if xs.length=n then Kf (F xs)else λ_=>.bad)):=
 Kt (AY FK hr hg hm hk hb .nil Dj ha hdb he hpl) λσ H Q q=>tM.one  q λv H2 G Z ds k r a=>by
  split at a
  .rename_i hl
   obtain⟨d,e,a⟩:=a.opt;exact⟨G,ds,d,by rw[Jl,r.length];exact hl,k.gh,by rw[Jl];exact r,e,λw G' H' ex rw=>a.done k ex rw⟩
  .exact a.elim
end
noncomputable def We(N:List Str)(ds:w9):US:=(ds.map λd=>O (Sl.pub d))++Uy (N.length-ds.length) w4
theorem jT{K}{N:List Str}{G H:Hp}{vs:List V}{ds:w9}(s:Same G H)(r:Reps K G vs ds):EOk K H G G H (L2.Wk N vs) (We N ds) where
 bh:=.refl _
 gh:=s
 g0:=.refl _
 np:=λ_ _ _ n=>n
 len:=by unfold L2.Wk We;rw[Qk,Qk,Qb,Qb,QF,QF,r.length]
 pub:=λi d q=>by
  unfold We at q;unfold L2.Wk;by_cases hi:i<ds.length
  .rw[QA (by rw[Qb];exact hi),Qd]at q
   cases z:ds[i]? with
   |none=>rw[z]at q;cases q
   |some d'=>rw[z]at q;cases q;obtain⟨v,e1,r1⟩:=r.get z;refine⟨v,?_,r1⟩;rw[QA (by rw[Qb,r.length];exact hi),Qd,e1];rfl
  .rw[QC (by rw[Qb];lia),QB]at q
   split at q<;>cases q
 own:=λi es q=>by
  unfold We at q;by_cases hi:i<ds.length
  .rw[QA (by rw[Qb];exact hi),Qd]at q
   cases z:ds[i]? with
   |none=>rw[z]at q;cases q
   |some d'=>rw[z]at q;cases q
  .rw[QC (by rw[Qb];lia),QB]at q
   split at q<;>cases q
 sep:=λi j a es fs q _ _ _=>by
  unfold We at q;by_cases hi:i<ds.length
  .rw[QA (by rw[Qb];exact hi),Qd]at q
   cases z:ds[i]? with
   |none=>rw[z]at q;cases q
   |some d'=>rw[z]at q;cases q
  .rw[QC (by rw[Qb];lia),QB]at q
   split at q<;>cases q
 dp:=by
  have key:∀{i:Nat}{s:Sl},(We N ds)[i]?=O (O s)->∃d,s=.pub d:=λ{i s} q=>by
   unfold We at q;by_cases hi:i<ds.length
   .rw[QA (by rw[Qb];exact hi),Qd]at q
    cases z:ds[i]? with
    |none=>rw[z]at q;cases q
    |some d'=>rw[z]at q;cases q;exact⟨_,rfl⟩
   .rw[QC (by rw[Qb];lia),QB]at q
    split at q<;>cases q
  exact .of (λi p d q=>by obtain⟨_,e⟩:=key q;cases e) λi ds q=>by obtain⟨_,e⟩:=key q;cases e
noncomputable def Kb(N:List Str)(g:SM)(ds:w9):ya:=match g (We N ds)with
 |.rt d=>O d
 |.nx _=>O .none
 |_=>w4
theorem okD   {K}{mg}{base:Heap}{x qual:Str}{st:Stmt}{f:Uq}{fd:Ur}{N ps}{k n:Nat}{g:SM}(F:Fun K x qual st f fd)(S:RX N ps (Yh st))(hn:ps.length=n)
  (der:∀(cdv:Um)(A:Around)(outer)(s:Uo)(H:Hp)(E:XK)(B G0:Hp),Room k (A.deeper (envOfC qual (Yh st) s.heap.objs.size f cdv)) ->
   PSs (Xg CX0 P w K mg base N qual (Yh st) f cdv A outer s H E).nox (WT st) (tS K B G0 KX0 g)):FnOk P w K mg base CX0 (k+1) f fd ps (spD K n (Kb N g)):=by
 refine F.ok S (λvs H Q E h=>?_) (λcdv A outer s H vs Q E hr h=>?_)
 .obtain⟨_,_,_,hl,_⟩:=h
  rw[hl,hn]
 .obtain⟨G,ds,d,hl,sg,r,hF,q⟩:=h
  refine⟨_,der cdv A outer s H E H G hr,G,We N ds,jT sg r,?_⟩;unfold Kb at hF;cases z:g _ with
  |rt d'=>rw[z]at hF;cases hF;exact λv G' H' ex rr=>q v G' H' ex rr
  |nx Z=>rw[z]at hF;cases hF;exact λσ' G' H' k' _=>q .non G' H' k'.exit .non
  |ro ds=>rw[z]at hF;cases hF
  |bk Z=>rw[z]at hF;cases hF
  |ct Z=>rw[z]at hF;cases hF
  |ex Z d=>rw[z]at hF;cases hF
  |bad=>rw[z]at hF;cases hF
section
variable{X:Cx}{B G0:Hp}{e a b c tg:Us}{pos:Pos}{es rest:yb}
noncomputable def oNeg:D->ya
 |.int i=>O (.int (-i))
 |_=>w4
noncomputable def YC(f:M D):M D:=Ke f λx=>Kf (oNeg x)
theorem HB  (h:PE X a (tD X.K B G0 f)):PE X (.UnaryOp .USub a pos) (tD X.K B G0 (YC f)):=
 Kt (CB Bu h) λσ H Q q=>tM.one  q λv H2 G Z x k r a=>by
  cases x with
  |int i=>exact⟨i,r.int_inv,aft.now a k (.int _)⟩
  |_=>exact a.elim
end
def Def(P:Up)(w:World)(K:Frag)(mg:Str->yf)(base:Heap)(x:Str)(k n:Nat)(F:w9->ya):Prop:=
 ∃(f:Uq)(fd:Ur)(ps:List Str),mg x=O (.ref f)/\PySem.W.keepIn K (.ref f)=w5/\VS K fd ps []/\FnOk P w K mg base CX0 k f fd ps (spD K n F)
noncomputable def UY(n:Nat)(F:w9->ya)(g:M w9):M D:=Ke g λxs=>if xs.length=n then Kf (F xs)else λ_=>.bad
section
variable{X:Cx}{B G0:Hp}{e:Us}{pos:Pos}{es:yb}
theorem BS    {x}{p2}(d:Def X.prog X.w X.K X.mg X.base x k n F)(hr:Room k X.A)(hg:Gl X x)(ha:PA X (e::es) (tDs X.K B G0 g))(hn:(e::es).length=n:=by rfl)
  (hdb:(x==("__debug__" : Str))=w6:=by decide) (he:Uv (e::es) X.env=(w6,eval e X.env)::Uv es X.env:=by rfl) (hpl:(backTo pos (Uv es X.env)).any (·.1)=w6:=by rfl) :
  PE X (.Call (.Name x p2) (e::es) [] pos) (tD X.K B G0 (UY n F g)):=by
 obtain⟨f,fd,ps,h1,h2,h3,h4⟩:=d;exact jU h4 hr hg h1 h2 h3 ha hn hdb he hpl
end
theorem Def.mk   {K}{mg}{base}{x}{k n}{F}{st}{f}{fd}{ps}(hm:mg x=O (.ref f))(FU:Fun K x x st f fd)(hb:VS K fd ps [])(ok:FnOk P w K mg base CX0 k f fd ps (spD K n F)) :
  Def P w K mg base x k n F:=⟨f,fd,ps,hm,FU.kp,hb,ok⟩
theorem D6{K}{H}{a}{ns:w8}{F}{E}(hS:SqL K H a (ns.map V.int))(h:F [.list (ns.map int)]=O (.bool w5)):spD K 1 F [.ref a] H (λv _=>v=.bl w5) E:=
 ⟨H,[.list _],.bool w5,rfl,.refl _,.cons (.lst hS (Reps.ints ns)) .nil,h,λ_ _ _ _ r=>r.bl_inv⟩
end DL
namespace L2
open PySem PySem.Spec PyProof.Rows
theorem mem_of_lookup   : ∀{l:List (Str×NameKind)},l.lookup x=O k->(x,k)∈l
 |[],h=>by cases h
 |(y,j)::r,h=>by
  rw[Q7]at h;split at h
  .simp_all
  .exact Qi _ (mem_of_lookup h)
theorem MI{env:Env}:∀(l:List (Str×NameKind))(acc:List (Str×Uq)),(∀y∈l,y.2=.free->∃c,env.cells.lookup y.1=O c) ->
  ∃cl,(forIn l acc (λx r=>if(x.2==NameKind.free)=w5 then(do let a ←cellOf env x.1;pure (ForInStep.yield ((x.1,a)::r)))else pure (ForInStep.yield r)):Sem (List (Str×Uq)))=pure cl /\
   (∀x c,cl.lookup x=O c->acc.lookup x=O c∨env.cells.lookup x=O c)/\(∀y∈l,y.2=.free->∃c,cl.lookup y.1=O c)/\(∀x c,acc.lookup x=O c->∃c',cl.lookup x=O c')
 |[],acc,_=>⟨acc,rfl,λ_ _ h=>.inl h,λ_ h=>absurd h (by simp),λx c h=>⟨c,h⟩⟩
 |(n,k)::r,acc,h=>by
  by_cases hk:k=.free
  .subst hk
   obtain⟨c,hc⟩:=h (n,.free) Qj wZ;obtain⟨cl,e,p1,p2,p3⟩:=MI r ((n,c)::acc) λy hy=>h y (Qi _ hy)
   have hco:cellOf env n=pure c:=by unfold cellOf;rw[hc]
   have key:∀x c',((n,c)::acc).lookup x=O c'->acc.lookup x=O c'∨env.cells.lookup x=O c':=λx c' q=>by
    rw[Q7]at q;split at q
    .rename_i e1
     cases q;have:x=n:=by simpa using e1
     subst this;exact .inr hc
    .exact .inl q
   have own:((n,c)::acc).lookup n=O c:=by simp
   refine⟨cl,?_,λx c' q=>?_,λy hy hf=>?_,λx c' q=>?_⟩
   .rw[List.forIn_cons]
    have:(if(((n,NameKind.free):Str×NameKind).2==NameKind.free)=w5 then(do let a ←cellOf env n;pure (ForInStep.yield ((n,a)::acc)))else pure (ForInStep.yield acc):Sem _)=pure (ForInStep.yield ((n,c)::acc)):=by rw[hco];rfl
    refine Eq.trans ?_ e;rw[this];rfl
   .rcases p1 x c' q with z|z
    .exact key x c' z
    .exact .inr z
   .rcases QE.mp hy with z|z
    .subst z
     exact p3 n c own
    .exact p2 y z hf
   .by_cases hx:x=n
    .subst hx;exact p3 x c own
    .refine p3 x c' ?_
     have hb:(x==n)=w6:=by simpa using hx
     rw[Q7,hb];exact q
  .obtain⟨cl,e,p1,p2,p3⟩:=MI r acc λy hy=>h y (Qi _ hy)
   refine⟨cl,?_,p1,λy hy hf=>?_,p3⟩
   .rw[List.forIn_cons]
    have hb:(k==NameKind.free)=w6:=by cases k<;>first|rfl|exact absurd wZ hk
    refine Eq.trans ?_ e;dsimp only;rw[hb,Qw (by decide)];rfl
   .rcases QE.mp hy with z|z
    .subst z;exact absurd hf hk
    .exact p2 y z hf
theorem vC   (h:∀y∈scope.names,y.2=.free->∃c,env.cells.lookup y.1=O c) :
  ∃cl,closureFor scope env=pure cl/\(∀x c,cl.lookup x=O c->env.cells.lookup x=O c)/\∀y∈scope.names,y.2=.free->∃c,cl.lookup y.1=O c:=by
 obtain⟨cl,e,p1,p2,_⟩:=MI scope.names [] h;refine⟨cl,?_,λx c q=>(p1 x c q).elim (λz=>by cases z) id,p2⟩;have e2:((forIn scope.names [] (λx r=>if(x.2==NameKind.free)=w5 then(do let a ←cellOf env x.1;pure (ForInStep.yield ((x.1,a)::r)))else pure (ForInStep.yield r)):Sem _) >>= λs=>pure s)=pure cl:=by rw[e];rfl
 exact e2
theorem EQ{env:Env}{x}{k}:∀{names:List (Str×NameKind)},(names.map λ(n,k)=>if(k==NameKind.free&&env.scope.kind==.function&&env.kindOf n==O .cell)then(n,NameKind.cell)else(n,k)).lookup x=O k ->
  names.lookup x=O k∨(names.lookup x=O .free/\k=.cell)
 |[],h=>by cases h
 |(n,j)::r,h=>by
  have ih:=@EQ env x k r;have h:List.lookup x ((if _=w5 then(n,NameKind.cell)else(n,j))::_)=O k:=h;cases hx:x==n with
  |true=>
   by_cases hc:(j==NameKind.free&&env.scope.kind==.function&&env.kindOf n==O .cell)=w5
   .rw[Qp hc]at h
    simp only[Q7,hx]at h⊢;cases h;simp only[Jd]at hc;have:j=.free:=by have:=hc.1.1;cases j<;>first|rfl|cases this
    subst this;exact .inr ⟨rfl,rfl⟩
   .rw[Qw hc]at h
    simp only[Q7,hx]at h⊢;exact .inl h
  |false=>
   by_cases hc:(j==NameKind.free&&env.scope.kind==.function&&env.kindOf n==O .cell)=w5
   .rw[Qp hc]at h
    simp only[Q7,hx]at h⊢;exact ih h
   .rw[Qw hc]at h
    simp only[Q7,hx]at h⊢;exact ih h
theorem ML{env:Env}{x}:∀{names:List (Str×NameKind)},names.lookup x=O .free ->
  (names.map λ(n,k)=>if(k==NameKind.free&&env.scope.kind==.function&&env.kindOf n==O .cell)then(n,NameKind.cell)else(n,k)).lookup x=O .free ∨
  (names.map λ(n,k)=>if(k==NameKind.free&&env.scope.kind==.function&&env.kindOf n==O .cell)then(n,NameKind.cell)else(n,k)).lookup x=O .cell
 |[],h=>by cases h
 |(n,j)::r,h=>by
  have ih:=@ML env x r;show List.lookup x ((if _=w5 then(n,NameKind.cell)else(n,j))::_)=_∨List.lookup x ((if _=w5 then(n,NameKind.cell)else(n,j))::_)=_;cases hx:x==n with
  |true=>
   simp only[Q7,hx]at h;cases h;by_cases hc:(NameKind.free==NameKind.free&&env.scope.kind==.function&&env.kindOf n==O .cell)=w5
   .rw[if_pos hc];simp[List.lookup_cons,hx]
   .rw[if_neg hc];simp[List.lookup_cons,hx]
  |false=>
   simp only[Q7,hx]at h;by_cases hc:(j==NameKind.free&&env.scope.kind==.function&&env.kindOf n==O .cell)=w5
   .rw[Qp hc];simp only[Q7,hx];exact ih h
   .rw[Qw hc];simp only[Q7,hx];exact ih h
theorem V7{env:Env}{x}{k}(hk:k≠.free):∀{names:List (Str×NameKind)},names.lookup x=O k ->
  (names.map λ(n,k)=>if(k==NameKind.free&&env.scope.kind==.function&&env.kindOf n==O .cell)then(n,NameKind.cell)else(n,k)).lookup x=O k
 |[],h=>by cases h
 |(n,j)::r,h=>by
  have ih:=@V7 env x k hk r;show List.lookup x ((if _=w5 then(n,NameKind.cell)else(n,j))::_)=_;cases hx:x==n with
  |true=>
   simp only[Q7,hx]at h;cases h;have:(k==NameKind.free)=w6:=by cases k<;>first|rfl|exact absurd wZ hk
   rw[if_neg (by rw[this];simp)];simp[List.lookup_cons,hx]
  |false=>
   simp only[Q7,hx]at h;by_cases hc:(j==NameKind.free&&env.scope.kind==.function&&env.kindOf n==O .cell)=w5
   .rw[Qp hc];simp only[Q7,hx];exact ih h
   .rw[Qw hc];simp only[Q7,hx];exact ih h
structure ClOk(env:Env)(scope:Scope)(cl:List (Str×Uq))(L:Uq)(h':Heap):Prop where
 old:∀x c,cl.lookup x=O c->env.cells.lookup x=O c∨(L<c/\h'.IsCell c w4)
 fre:∀x,scope.names.lookup x=O .free->∃c,cl.lookup x=O c/\env.cells.lookup x=O c
 cel:∀x,scope.names.lookup x=O .cell->∃c,cl.lookup x=O c/\L<c
 inj:∀x y c,cl.lookup x=O c->cl.lookup y=O c->L<c->x=y
theorem Pm:∀(names)(n)(acc),cellsFrom n names acc=cellsFrom n names []++acc
 |[],_,_=>rfl
 |(x,k)::r,n,acc=>by
  unfold cellsFrom;split
  .rw[Pm r _ _,Pm r _ [(x,n)],Q6];rfl
  .exact Pm r n acc
theorem MN:∀(names)(n)(x)(c),(x,c)∈cellsFrom n names []->(x,NameKind.cell)∈names
 |[],_,_,_,h=>by cases h
 |(y,k)::r,n,x,c,h=>by
  unfold cellsFrom at h;split at h
  .rw[Pm]at h
   rcases QI.mp h with h|h
   .exact Qi _ (MN r _ x c h)
   grind
  .exact Qi _ (MN r _ x c h)
theorem D5{M:Model}{A:Around}{E}{scope:Scope}{env:Env}{zM:List (Str×Uq)}{s:Uo}{Q:Env->Uo->Prop}(zL:∀x c,zM.lookup x=O c->env.cells.lookup x=O c)(cl2:∀y∈scope.names,y.2=.free->∃c,zM.lookup y.1=O c)(hn:∀y∈scope.names,scope.names.lookup y.1=O y.2)
  (hlt:∀x c,env.cells.lookup x=O c->c<s.heap.objs.size)
  (h:∀h' cl,h'.Ns s.heap.objs.size (λ_=>w4)->(∀b o,s.heap.get? b=O o->h'.get? b=O o)->ClOk env scope cl s.heap.objs.size h'->Q (newEnv scope s.heap.objs.size env.globals cl env.qual w4 .none (O env) builtinsNs) {s with heap:=h'}) :
  Uu M A (newFunctionEnv scope env.globals zM [] env.qual w4 .none (O env)) Q E s:=by
 simp only[newFunctionEnv,Option.isSome_some,if_true];refine Qf (wpAny_alloc ?_);refine wpAny_bind (wpAny_layCells _ (λname kind cells=>by cases hkc:kind==NameKind.cell<;>simp[hkc]) _ _ _ _ ?_);have ok:=cellsFrom_ok scope.names (s.heap.push {cls:=.type "dict", data:=.dict #[]}) (s.heap.objs.size+1) [] ⟨λ_ _ hm=>(nomatch hm),List.Pairwise.nil⟩ (by rw[JH];exact Qv _);rw[JH]at ok;rw[JH ..];rw[List.forIn_nil];refine Qf (Qq (Qq (h _ _ ((Heap.Ns.new s.heap (.type "dict")).keeps (pushCells_keeps _ _)) (λb o e=>pushCells_keeps _ _ b o (Qm _ e)) ?_)));have look:∀x,(cellsFrom (s.heap.objs.size+1) scope.names zM).lookup x=((cellsFrom (s.heap.objs.size+1) scope.names []).lookup x).or (zM.lookup x):=λx=>by rw[Pm,List.lookup_append]
 have own:∀x c,(cellsFrom (s.heap.objs.size+1) scope.names []).lookup x=O c->scope.names.lookup x=O .cell:=λx c e=>hn _ (MN _ _ _ _ (Jg e))
 refine⟨λx c e=>?_,λx e=>?_,λx e=>?_,λx y c e1 e2 hc=>?_⟩
 .rw[look]at e
  cases z:(cellsFrom (s.heap.objs.size+1) scope.names []).lookup x with
  |none=>rw[z]at e;exact .inl (zL x c e)
  |some c'=>rw[z]at e;cases e;obtain⟨h1,h2⟩:=ok.empty x c (Jg z);exact .inr ⟨h2,h1⟩
 .obtain⟨c,hc⟩:=cl2 (x,.free) (mem_of_lookup e) wZ
  refine⟨c,?_,zL x c hc⟩;rw[look];cases z:(cellsFrom (s.heap.objs.size+1) scope.names []).lookup x with
  |none=>exact hc
  |some c'=>have:=own x c' z;rw[e]at this;cases this
 .obtain⟨c,hc⟩:=NT  e
  refine⟨c,by rw[look,hc];rfl,(ok.empty x c (Jg hc)).2⟩
 .rw[look]at e1 e2
  cases z1:(cellsFrom (s.heap.objs.size+1) scope.names []).lookup x with
  |none=>rw[z1]at e1;exact absurd (hlt x c (zL x c e1)) (Nat.lt_asymm hc)
  |some c1=>
  cases z2:(cellsFrom (s.heap.objs.size+1) scope.names []).lookup y with
  |none=>rw[z2]at e2;exact absurd (hlt y c (zL y c e2)) (Nat.lt_asymm hc)
  |some c2=>rw[z1]at e1;rw[z2]at e2;cases e1;cases e2;exact name_of_addr ok.apart (Jg z1) (Jg z2)
noncomputable def Cx.blk(X:Cx)(N':List Str)(scope:Scope)(cl:List (Str×Uq))(C:Uq)(s₀:Uo)(H₀:Hp)(ex:ye):Cx:=
 {X with N:=N',s₀:=s₀,H₀:=H₀,env:=compEnvC scope cl C X.env,outer:=X.stack,ex:=ex,fn:=λx=>scope.names.lookup x==O .cell,xe:=λ_ _=>False}
section
variable{X:Cx}{N':List Str}{scope:Scope}{cl:List (Str×Uq)}{C:Uq}{s₀:Uo}{H₀:Hp}{ex:ye}{x:Str}
noncomputable def visK:Option NameKind->Bool
 |some .local=>w5|some .free=>w5|some .cell=>w5|_=>w6
theorem BR(h:visK (scope.names.lookup x)=w5):Vis (X.blk N' scope cl C s₀ H₀ ex).env.scope x:=by
 cases z:scope.names.lookup x with
 |none=>rw[z]at h;cases h
 |some y=>
  rw[z]at h;cases y with
  | «local»=>exact .inl (V7 (by decide) z)
  |cell=>exact .inr (.inl (V7 (by decide) z))
  |free=>
   rcases ML  z with z|z
   .exact .inr (.inr z)
   .exact .inr (.inl z)
  |_=>cases h
noncomputable def locK:Option NameKind->Bool
 |some .local=>w5|some .cell=>w5|_=>w6
theorem Rg(h:locK (scope.names.lookup x)=w5):Loc (X.blk N' scope cl C s₀ H₀ ex).env.scope x/\((X.blk N' scope cl C s₀ H₀ ex).fn x=w5∨(X.blk N' scope cl C s₀ H₀ ex).env.scope.names.lookup x=O .local):=by
 cases z:scope.names.lookup x with
 |none=>rw[z]at h;cases h
 |some y=>
  rw[z]at h;cases y with
  | «local»=>exact⟨.inl (V7 (by decide) z),.inr (V7 (by decide) z)⟩
  |cell=>exact⟨.inr (V7 (by decide) z),.inl (by show(scope.names.lookup x==O .cell)=w5;rw[z];rfl)⟩
  |_=>cases h
theorem D4(h:scope.names.lookup x=O .globalImplicit):Gl (X.blk N' scope cl C s₀ H₀ ex) x:=V7 (by decide) h
end
noncomputable def R5(names:List (Str×NameKind))(N N2:List Str)(k:Nat):Bool:=
 N2.length==N.length+k&&(Ux N2.length).all λi=>match N2[i]? with
  |none=>w5
  |some x=>match names.lookup x with
   |some .free=>N[i]?==O x
   |some .local=>decide (N.length<=i)&&decide (i<N.length+k)
   |some .cell=>decide (N.length<=i)&&decide (i<N.length+k)
   |_=>w5
theorem wy    (h:R5 names N N2 k=w5) :
  N2.length=N.length+k/\∀(i) x,N2[i]?=O x->(names.lookup x=O .free->N[i]?=O x)/\(names.lookup x=O .local∨names.lookup x=O .cell->N.length<=i/\i<N.length+k):=by
 unfold R5 at h;simp only[Jd,beq_iff_eq,Je,QZ]at h;refine⟨h.1,λi x e=>?_⟩;have hi:=(Qg.mp e).1;have:=h.2 i hi;rw[e]at this;refine⟨λq=>?_,λq=>?_⟩
 .simp_all
 .rcases q with q|q<;>(simp only[q]at this;simpa using this)
theorem Inv.enter{X:Cx}{pins:List (Uq×Obj)}{σ:St}{H:Hp}{s3:Uo}(I:Inv X pins σ H s3){scope:Scope}{cl:List (Str×Uq)}{N2:List Str}{k:Nat}{h':Heap}{fp:ye}{t':Nat}{m0:Str->yf}
  (hb:R5 scope.names X.N N2 k=w5) (hkind:scope.kind=.function)
  (hfree:∀y∈scope.names,y.2=.free->X.env.scope.names.lookup y.1=O .cell∨X.env.scope.names.lookup y.1=O .free)
  (hc:ClOk X.env scope cl s3.heap.objs.size h')
  (hn:h'.Ns s3.heap.objs.size m0) (hk:∀b o,s3.heap.get? b=O o->h'.get? b=O o) (hf:∀b∈fp,ZO X pins H b) (hfo:∀b∈fp,∃o,s3.heap.get? b=O o) :
  Inv (X.blk N2 scope cl s3.heap.objs.size s3 H fp) pins (σ++Uy k w4) H {s3 with heap:=h',toks:=t'}:=by
 obtain⟨hl,hN⟩:=wy hb;have lt:∀b o,s3.heap.get? b=O o->b≠s3.heap.objs.size:=λb o e=>QX (Ql e);have ofl:∀x,scope.names.lookup x=O .free->(x,NameKind.free)∈scope.names:=λx h=>mem_of_lookup h;have kinv:∀x kk,(X.blk N2 scope cl s3.heap.objs.size s3 H fp).env.scope.names.lookup x=O kk->scope.names.lookup x=O kk∨(scope.names.lookup x=O .free/\kk=.cell):=λx kk h=>EQ (env:=X.env) h
 have isfc:∀x,(X.blk N2 scope cl s3.heap.objs.size s3 H fp).env.scope.names.lookup x=O .cell∨(X.blk N2 scope cl s3.heap.objs.size s3 H fp).env.scope.names.lookup x=O .free->scope.names.lookup x=O .free∨scope.names.lookup x=O .cell:=λx h=>by
  rcases h with h|h
  .rcases kinv x _ h with z|z
   .exact .inr z
   .exact .inl z.1
  .rcases kinv x _ h with z|z
   .exact .inl z
   .exact .inl z.1
 have lto   :=λx c e=>let ⟨_,q⟩:=I.cell x c e;q.lt
 have ok:(X.blk N2 scope cl s3.heap.objs.size s3 H fp).Ok:=
  {
   mod:=I.ok.mod
   kind:=hkind
   glob:=I.ok.glob
   blt:=I.ok.blt
   above:=Qv _
   inj:=λx y c a b=>by
    rcases hc.old x c a with q|⟨q,_⟩
    .rcases hc.old y c b with q'|⟨q',_⟩
     .exact I.ok.inj x y c q q'
     .exact absurd (lto x c q) (Nat.lt_asymm q')
    .exact hc.inj x y c a b q
   has:=λx h=>by
    rcases isfc x h with z|z
    .exact let ⟨c,e,_⟩:=hc.fre x z;⟨c,e⟩
    .exact let ⟨c,e,_⟩:=hc.cel x z;⟨c,e⟩
   cab:=λx c h e=>by
    have z:scope.names.lookup x=O .cell:=by have h:(scope.names.lookup x==O .cell)=w5:=h;simpa using h
    obtain⟨c',e',l⟩:=hc.cel x z;have e:cl.lookup x=O c:=e;rw[e]at e';cases e';exact Uj l
   hd:=I.ok.hd
   frames:=I.ok.frames
   stk:=.inl wZ
   exf:=λb hb=>⟨let ⟨o,e⟩:=hfo b hb;lt b o e,λx c e=>by
    rcases hc.old x c e with q|⟨q,_⟩
    .exact(hf b hb).2.2.2.2.1 x c q
    .obtain⟨o,e'⟩:=hfo b hb
     exact JJ (Nat.lt_trans (Ql e') q)⟩
   bs:=I.bs
   bsz:=QN I.ok.bsz I.sz
   noex:=λb o e hb=>by
    rcases(hf b hb).2.2.2.1 with z|z
    .exact I.ok.noex b o e z
    .exact absurd (QH (Ql e) (QN I.ok.bsz z)) (Jv _)
   exfs:=λb hb hx=>by
    rcases QE.mp (I.stkSub b hx)with z|z
    .exact(hf b hb).2.1 z
    .exact(hf b hb).2.2.1 z
   funs:=I.stack
   frf:=I.stkFree}
 refine⟨ok,rfl,I.bare,Un.kept hk,⟨m0,hn,λi x v e1 e2 e3=>?_⟩,λx c e=>?_,I.hok.fresh (Qv _),λx c e=>(hc.old x c e).elim (I.freeC x c) λq=>I.hok.fresh (Uj q.1),λp hp=>?_,I.hok.kept hk,?_⟩
 .have nl:¬_:=λz=>by
   obtain⟨g1,g2⟩:=(hN i x e1).2 z;rw[←I.len]at g1 g2;rw[QC g1,QB]at e2;split at e2<;>cases e2
  have fr:scope.names.lookup x=O .free:=by
   rcases e3 with z|z
   .rcases kinv x _ z with q|q
    .exact absurd (.inl q) nl
    .cases q.2
   .rcases isfc x z with q|q
    .exact q
    .exact absurd (.inr q) nl
  have eN:=(hN i x e1).1 fr;have hi:i<σ.length:=by rw[I.len];exact(Qg.mp eN).1
  rw[QA hi]at e2;obtain⟨m,hm,hlk⟩:=I.loc;have hkd:=hfree _ (ofl x fr) wZ;obtain⟨u,r,l⟩:=hlk i x v eN e2 (.inr hkd);refine⟨u,r,.inr ⟨?_,?_⟩⟩
  .rcases e3 with z|z|z
   .rcases kinv x _ z with q|q
    .exact absurd (.inl q) nl
    .cases q.2
   .exact .inl z
   .exact .inr z
  .rcases l with l|⟨_,c,ec,z⟩
   .have:X.env.scope.names.lookup x=O .local:=l.1
    rcases hkd with q|q<;>(dsimp only at q;rw[this]at q;cases q)
   .obtain⟨c',ec',this⟩:=hc.fre x fr
    rw[ec]at this;cases this;obtain⟨o,ho,hd⟩:=z;exact⟨c,ec',o,hk c o ho,hd⟩
 .rcases hc.old x c e with q|⟨_,q⟩
  .obtain⟨v,o,ho,hd⟩:=I.cell x c q
   exact⟨v,o,hk c o ho,hd⟩
  .exact⟨_,q⟩
 .obtain⟨e,n,ne,nf,d⟩:=I.pin p hp
  refine⟨hk _ _ e,n,lt _ _ e,λz=>?_,d⟩;rcases QE.mp (I.stkSub _ z)with q|q
  .exact ne q
  .exact nf q
 .rw[Qk,QF,I.len]
  exact hl.symm
noncomputable abbrev nox:Um->Uo->Prop:=λ_ _=>False
def R4(prog:Up)(w:World)(A:Around)(tg:Us)(ifs:yb)(env:Env)(it:Um)(code:Code)(W:(Uo->Prop)->Uo->Prop):Prop:=
 ∀(R:Result->Uo->Prop)(I:Nat->Uo->Prop)(n:Nat)(s:Uo),I n s ->
  (∀n s,I n s->Uu (model prog w) A (pyNext it) (λr s₁=>match r with
   |none=>R (.ok .next) s₁
   |some v=>Uu (model prog w) A (letOwnedTupleGo tg it v) (λ_ s₁'=>Uu (model prog w) A (assign tg env v) (λ_ s₂=>
     Uu (model prog w) A (forIn ifs w5 λc r=>if r=w5 then do let ok ←isTrue c env (eval c env);pure (ForInStep.yield ok)else pure (ForInStep.yield r)) (λok s₃=>
      if ok=w5 then W (λs₅=>∃m,m<n/\I m s₅) s₃ else ∃m,m<n/\I m s₃) nox s₂) nox s₁') nox s₁) nox s)->codeAny (model prog w) A code R s
section
variable{prog:Up}{w:World}{A:Around}{elt tg i:Us}{ifs:yb}{gens:List Comprehension}{scope:Scope}{pos:Pos}{it acc:Um}{env:Env}{j:Nat}
theorem kT(hg:gens[j]?=O ⟨tg,i,ifs,0⟩)(hn:gens[j+1]?=w4):R4 prog w A tg ifs env it (.compLoop (.ListComp elt gens scope pos) j it acc env)
  (λQ s=>Uu (model prog w) A (eval elt env) (λx s₄=>Uu (model prog w) A (call (.builtin "list.append") [acc,x]) (λ_ s₅=>Q s₅) nox s₄) nox s):=by
 intro R I n s h turn;refine codeAny_loop wZ I (λn s hI=>?_) n h;refine wpAny_noted ?_;unfold compTurn;dsimp only;simp only[hg,hn];refine Qf (JA (Qf (QL (turn n s hI) (λr s₁ h₁=>?_) λ_ _ h'=>h'.elim)));cases r with
 |none=>exact Qq h₁
 |some v=>
  refine Qf (QL h₁ (λ_ s₁' h₁'=>?_) λ_ _ h'=>h'.elim);refine Qf (QL h₁' (λ_ s₂ h₂=>Qf (QL h₂ (λok s₃ h₃=>?_) λ_ _ h'=>h'.elim)) λ_ _ h'=>h'.elim);cases ok with
  |false=>exact Qq ⟨rfl,h₃⟩
  |true=>exact Qf (Qf (QL h₃ (λx s₄ h₄=>Qf (QL h₄ (λ_ s₅ h₅=>Qq (Qq ⟨rfl,h₅⟩)) λ_ _ h'=>h'.elim)) λ_ _ h'=>h'.elim))
theorem kS  {ifs1:yb}(hg:gens[j]?=O ⟨tg,i,ifs,0⟩)(hn:gens[j+1]?=O ⟨yO,i1,ifs1,0⟩)(hs:∀x,UL i1 env x=pure x):R4 prog w A tg ifs env it (.compLoop (.ListComp elt gens scope pos) j it acc env)
  (λQ s=>Uu (model prog w) A (eval i1 env) (λx s₄=>Uu (model prog w) A (pyIter x) (λyt s₅=>codeAny (model prog w) A (.compStart (.ListComp elt gens scope pos) (j+1) yt acc env)
   (λr s₆=>match r with | .ok _=>Q s₆ | .error _=>False) s₅) nox s₄) nox s):=by
 intro R I n s h turn;refine codeAny_loop wZ I (λn s hI=>?_) n h;refine wpAny_noted ?_;unfold compTurn;dsimp only;simp only[hg,hn];refine Qf (JA (Qf (QL (turn n s hI) (λr s₁ h₁=>?_) λ_ _ h'=>h'.elim)));cases r with
 |none=>exact Qq h₁
 |some v=>
  refine Qf (QL h₁ (λ_ s₁' h₁'=>?_) λ_ _ h'=>h'.elim);refine Qf (QL h₁' (λ_ s₂ h₂=>Qf (QL h₂ (λok s₃ h₃=>?_) λ_ _ h'=>h'.elim)) λ_ _ h'=>h'.elim);cases ok with
  |false=>exact Qq ⟨rfl,h₃⟩
  |true=>
   refine Qf (QL h₃ (λx s₄ h₄=>Qf (JA (Qf (wpAny_of_eq (hs x) (Qf (wpAny_holding (QL h₄ (λyt s₅ h₅=>?_) λ_ _ h'=>h'.elim))))))) λ_ _ h'=>h'.elim);refine Qf (wpAny_runOwn (codeAny_mono h₅ λr s₆ h₆=>?_));cases r with
   |ok f=>exact Qq ⟨rfl,h₆⟩
   |error x=>exact h₆.elim
theorem wx   (hg:gens[j]?=O ⟨tg,i,ifs,0⟩)
  (h0:codeAny (model prog w) A (.compLoop (.ListComp elt gens scope pos) j it acc env) R s)
  (h:Uu (model prog w) A (pyIter it) (λit' s'=>codeAny (model prog w) A (.compLoop (.ListComp elt gens scope pos) j it' acc env) R s') nox s) :
  codeAny (model prog w) A (.compStart (.ListComp elt gens scope pos) j it acc env) R s:=by
 refine codeAny_of_tree ?_;refine wpAny_notedAt ?_;unfold compStart;have hc:(clausesOf (.ListComp elt gens scope pos))[j]?=O ⟨tg,i,ifs,0⟩:=hg;simp only[hc];refine Qf (wpAny_askSetting (wpAny_ite ?_));split
 .first
   |exact Qf _
   |exact Qq (And.intro rfl h0)
 .first
   |exact Qf _
   |(refine Qf (wpAny_rule ?_);exact Qf (JA (Qf (QL h (λit' s' h'=>Qq (And.intro rfl h')) λ_ _ x=>x.elim))))
end
end L2
namespace DL
open PySem PySem.Spec L2
open PyProof.Rows hiding St
noncomputable def X8:Option Sl->Option Sl
 |some (.own _)=>w4
 |some (.deep _ _)=>w4
 |x=>x
noncomputable def KD(Z:US):US:=Z.map X8
theorem kQ  {i:Nat}{d}(h:(KD Z)[i]?=O (O (.pub d))):Z[i]?=O (O (.pub d)):=by
 unfold KD at h;rw[Qd]at h;cases e:Z[i]? with
 |none=>simp_all
 |some o=>
  rw[e]at h;cases o with
  |none=>cases h
  |some sl=>cases sl with
   |pub d'=>cases h;rfl
   |own ds=>cases h
   |deep p d'=>cases h
theorem WZ  {i:Nat}{ds}(h:(KD Z)[i]?=O (O (.own ds))):False:=by
 unfold KD at h;rw[Qd]at h;cases e:Z[i]? with
 |none=>simp_all
 |some o=>
  rw[e]at h;cases o with
  |none=>cases h
  |some sl=>cases sl with
   |pub d'=>cases h
   |own ds=>cases h
   |deep p d'=>cases h
theorem MH  {i:Nat}{p}{d}(h:(KD Z)[i]?=O (O (.deep p d))):False:=by
 unfold KD at h;rw[Qd]at h;cases e:Z[i]? with
 |none=>simp_all
 |some o=>
  rw[e]at h;cases o with
  |none=>cases h
  |some sl=>cases sl<;>cases h
noncomputable def Zb(s:D->US->yg)(t:M Bool)(g:M D):w9->US->w9->Option w9
 |[],_,es=>O es
 |d::r,Z,es=>match s d Z with
  |none=>w4
  |some Z1=>match t Z1 with
   |.bad=>w4
   |.ok b Z2=>if b=w5 then(match g Z2 with
     |.bad=>w4
     |.ok e Z3=>if es.length<1000000 then Zb s t g r (KD Z3) (es++[e])else w4)
    else Zb s t g r (KD Z2) es
noncomputable def Zo(f:M w9)(k:Nat)(s:D->US->yg)(t:M Bool)(g:M D):M w9:=λZ=>match f Z with
 |.bad=>.bad
 |.ok ds Z1=>match Zb s t g ds (KD Z1++Uy k w4) []with
  |none=>.bad
  |some es=>.ok es Z1
def Xi(X:Cx)(ifs:yb)(t:TT):Prop:=
 ∀(pins:List (Uq×Obj))(s:Uo)(σ:St)(H:Hp)(Q:Bool->Hp->Prop),Inv X pins σ H s->t σ H Q ->
  Uu (model X.prog X.w) X.A (forIn ifs w5 λc r=>if r=w5 then do let ok ←isTrue c X.env (eval c X.env);pure (ForInStep.yield ok)else pure (ForInStep.yield r)) (TP X pins σ Q) X.xe s
section
variable{X:Cx}{B G0:Hp}
theorem BQ:Xi X [] (tBo X.K B G0 (UT w5)):=λpins s σ H Q I ⟨G,Z,k,a⟩=>wpAny_tests_nil ⟨H,I,a w5 G H k (.refl _) wZ⟩
theorem HA   (h:PT X c (tBo X.K B G0 t)):Xi X [c] (tBo X.K B G0 t):=λpins s σ H Q I q=>wpAny_tests_one (h pins s σ H Q I q)
theorem EOk.rebase{K}{G H}{σ}{Z}(k:EOk K B G0 G H σ Z):EOk K H G G H σ (KD Z) where
 bh:=.refl _
 gh:=k.gh
 g0:=.refl _
 np:=λ_ _ _ n=>n
 len:=by unfold KD;rw[Qb];exact k.len
 pub:=λi d q=>k.pub i d (kQ q)
 own:=λi ds q=>(WZ q).elim
 sep:=λi j a ds es q=>(WZ q).elim
 dp:=.of (λ_ _ _ q=>MH q) λ_ _ q=>WZ q
theorem EOk.more{K}{G H:Hp}{σ:St}{Z}(k:EOk K H G G H σ (KD Z))(n:Nat):EOk K H G G H (σ++Uy n w4) (KD Z++Uy n w4) where
 bh:=.refl _
 gh:=k.gh
 g0:=.refl _
 np:=λ_ _ _ n=>n
 len:=by rw[Qk,Qk,k.len,QF,QF]
 pub:=λi d q=>by
  by_cases hi:i<(KD Z).length
  .rw[QA hi]at q
   rw[QA (by rw[←k.len];exact hi)];exact k.pub i d q
  .rw[QC (Jh hi),QB]at q
   split at q<;>cases q
 own:=λi ds q=>by
  by_cases hi:i<(KD Z).length
  .rw[QA hi]at q
   exact(WZ q).elim
  .rw[QC (Jh hi),QB]at q
   split at q<;>cases q
 sep:=λi j a ds es q=>by
  by_cases hi:i<(KD Z).length
  .rw[QA hi]at q
   exact(WZ q).elim
  .rw[QC (Jh hi),QB]at q
   split at q<;>cases q
 dp:=by
  refine .of (λi p d q=>?_) λi ds q=>?_
  .by_cases hi:i<(KD Z).length
   .rw[QA hi]at q;exact MH q
   .rw[QC (Jh hi),QB]at q;split at q<;>cases q
  .by_cases hi:i<(KD Z).length
   .rw[QA hi]at q;exact WZ q
   .rw[QC (Jh hi),QB]at q;split at q<;>cases q
theorem EOk.beside{K}{G H}{σ}{Z}{a}{o}(k:EOk K B G0 G H σ Z)(hg:G a=w4):EOk K (upd H a o) G G (upd H a o) σ (KD Z) where
 bh:=.refl _
 gh:=λb u e=>by rw[KH (λz=>by lia)];exact k.gh b u e
 g0:=.refl _
 np:=λ_ _ _ n=>n
 len:=k.rebase.len
 pub:=k.rebase.pub
 own:=λi ds q=>(WZ q).elim
 sep:=λi j a ds es q=>(WZ q).elim
 dp:=.of (λ_ _ _ q=>MH q) λ_ _ q=>WZ q
theorem lim1:1000000<=Ut:=lim
noncomputable def E5:Option Sl->Option Sl
 |some (.own ds)=>O (.pub (.list ds))
 |some (.deep _ d)=>O (.pub d)
 |x=>x
noncomputable def ZZ(Z:US):US:=Z.map E5
theorem FD  {i:Nat}{d}(h:(ZZ Z)[i]?=O (O (.pub d))):Z[i]?=O (O (.pub d))∨(∃ds,d=.list ds/\Z[i]?=O (O (.own ds))) ∨ ∃p,Z[i]?=O (O (.deep p d)):=by
 unfold ZZ at h;rw[Qd]at h;cases e:Z[i]? with
 |none=>simp_all
 |some o=>
  rw[e]at h;cases o with
  |none=>cases h
  |some sl=>cases sl with
   |pub d'=>cases h;exact .inl wZ
   |own ds=>cases h;exact .inr (.inl ⟨ds,rfl,rfl⟩)
   |deep p d'=>cases h;exact .inr (.inr ⟨p,rfl⟩)
theorem Rm  {i:Nat}{ds}(h:(ZZ Z)[i]?=O (O (.own ds))):False:=by
 unfold ZZ at h;rw[Qd]at h;cases e:Z[i]? with
 |none=>simp_all
 |some o=>
  rw[e]at h;cases o with
  |none=>cases h
  |some sl=>cases sl with
   |pub d'=>cases h
   |own ds=>cases h
   |deep p d'=>cases h
theorem Ew  {i:Nat}{p}{d}(h:(ZZ Z)[i]?=O (O (.deep p d))):False:=by
 unfold ZZ at h;rw[Qd]at h;cases e:Z[i]? with
 |none=>simp_all
 |some o=>
  rw[e]at h;cases o with
  |none=>cases h
  |some sl=>cases sl<;>cases h
noncomputable def flat:D->Bool
 |.none=>w5 | .bool _=>w5 | .int _=>w5 | .str _=>w5|_=>w6
theorem Rep.flat{K}{G G'}{v}{d}(r:Rep K G v d)(h:DL.flat d=w5):Rep K G' v d:=by
 cases r with
 |non=>exact .non
 |bl b=>exact .bl b
 |int i=>exact .int i
 |str x=>exact .str x
 |lst _ _=>cases h
 |tup _ _=>cases h
 |dic _=>cases h
 |exc _ _ _ _=>cases h
 |dct _ _ _ _ _=>cases h
 |dtt _ _ _ _=>cases h
theorem Reps.flat{K}{G G'}:∀{vs}{ds},Reps K G vs ds->ds.all DL.flat=w5->Reps K G' vs ds
 |_,_,.nil,_=>.nil
 |_,_,.cons r t,h=>by rw[List.all_cons,Jd]at h;exact .cons (r.flat h.1) (Reps.flat t h.2)
theorem EOk.lend{K}{B G0 G H:Hp}{σ:St}{Z:US}{D:Uq}{o:HO}(k:EOk K B G0 G H σ Z)(hD:H D=w4)(n:Nat):EOk K (upd H D o) H H (upd H D o) (σ++Uy n w4) (ZZ Z++Uy n w4) where
 bh:=.refl _
 gh:=ZQ hD
 g0:=.refl _
 np:=λ_ _ _ n=>n
 len:=by unfold ZZ;rw[Qk,Qk,Qb,k.len,QF,QF]
 pub:=λi d q=>by
  have hl:(ZZ Z).length=Z.length:=by unfold ZZ;rw[Qb]
  by_cases hi:i<(ZZ Z).length
  .rw[QA hi]at q
   rw[QA (by rw[←k.len,←hl];exact hi)];rcases FD q with e|⟨ds,rfl,e⟩|⟨p,e⟩
   .obtain⟨v,h1,h2⟩:=k.pub i d e
    exact⟨v,h1,h2.mono k.gh⟩
   .obtain⟨a,vs,h1,h2,h3,h4,h5⟩:=k.own i ds e
    exact⟨.ref a,h1,.lst (SqL.of h4) (h5.mono k.gh)⟩
   .obtain⟨ω,k1,k2⟩:=k.dp
    obtain⟨v,fp,s,r,_⟩:=k1 i p d e;exact⟨v,s,r.rep k.gh⟩
  .rw[QC (Jh hi),QB]at q
   split at q<;>cases q
 own:=λi ds q=>by
  by_cases hi:i<(ZZ Z).length
  .rw[QA hi]at q
   exact(Rm q).elim
  .rw[QC (Jh hi),QB]at q
   split at q<;>cases q
 sep:=λi j a ds es q=>by
  by_cases hi:i<(ZZ Z).length
  .rw[QA hi]at q
   exact(Rm q).elim
  .rw[QC (Jh hi),QB]at q
   split at q<;>cases q
 dp:=by
  refine .of (λi p d q=>?_) λi ds q=>?_
  .by_cases hi:i<(ZZ Z).length
   .rw[QA hi]at q;exact Ew q
   .rw[QC (Jh hi),QB]at q;split at q<;>cases q
  .by_cases hi:i<(ZZ Z).length
   .rw[QA hi]at q;exact Rm q
   .rw[QC (Jh hi),QB]at q;split at q<;>cases q
noncomputable def RO(f:M w9)(k:Nat)(s:D->US->yg)(t:M Bool)(g:M D):M w9:=λZ=>match f Z with
 |.bad=>.bad
 |.ok ds Z1=>match Zb s t g ds (ZZ Z1++Uy k w4) []with
  |none=>.bad
  |some es=>if es.all flat=w5 then .ok es Z1 else .bad
end
noncomputable def YZ(s:D->US->yg)(t:M Bool)(g:M D):w9->US->w9->Option (w9×US)
 |[],Z,es=>O (es,Z)
 |d::r,Z,es=>match s d Z with
  |none=>w4
  |some Z1=>match t Z1 with
   |.bad=>w4
   |.ok b Z2=>if b=w5 then(match g Z2 with
     |.bad=>w4
     |.ok e Z3=>if es.length<1000000 then YZ s t g r (KD Z3) (es++[e])else w4)
    else YZ s t g r (KD Z2) es
noncomputable def WF(s0:D->US->yg)(t0:M Bool)(f1:M w9)(s1:D->US->yg)(t1:M Bool)(g:M D):w9->US->w9->Option w9
 |[],_,es=>O es
 |d::r,Z,es=>match s0 d Z with
  |none=>w4
  |some Z1=>match t0 Z1 with
   |.bad=>w4
   |.ok b Z2=>if b=w5 then(match f1 Z2 with
     |.bad=>w4
     |.ok ds Z3=>match YZ s1 t1 g ds (KD Z3) es with
      |none=>w4
      |some (es',Z4)=>WF s0 t0 f1 s1 t1 g r Z4 es')
    else WF s0 t0 f1 s1 t1 g r (KD Z2) es
noncomputable def RN(f:M w9)(k:Nat)(s:D->US->yg)(t:M Bool)(f1:M w9)(zE:D->US->yg)(t1':M Bool)(g:M D):M w9:=λZ=>match f Z with
 |.bad=>.bad
 |.ok ds Z1=>match WF s t f1 zE t1' g ds (KD Z1++Uy k w4) []with
  |none=>.bad
  |some es=>.ok es Z1
noncomputable def Xr(s0:D->US->yg)(t0:M Bool)(f1:M w9)(Rd:w9->US->w9->Option (w9×US)):w9->US->w9->Option (w9×US)
 |[],Z,es=>O (es,Z)
 |d::r,Z,es=>match s0 d Z with
  |none=>w4
  |some Z1=>match t0 Z1 with
   |.bad=>w4
   |.ok b Z2=>if b=w5 then(match f1 Z2 with
     |.bad=>w4
     |.ok ds Z3=>match Rd ds (KD Z3) es with
      |none=>w4
      |some (es',Z4)=>Xr s0 t0 f1 Rd r Z4 es')
    else Xr s0 t0 f1 Rd r (KD Z2) es
noncomputable def Tu(Rd:w9->US->w9->Option (w9×US))(ds:w9)(Z:US)(es:w9):Option w9:=(Rd ds Z es).map (·.1)
noncomputable def RM(f:M w9)(k:Nat)(s:D->US->yg)(t:M Bool)(f1:M w9)(zE:D->US->yg)(t1':M Bool)(fx2:M w9)(s2':D->US->yg)(t2':M Bool)(g:M D):M w9:=λZ=>match f Z with
 |.bad=>.bad
 |.ok ds Z1=>match Tu (Xr s t f1 (Xr zE t1' fx2 (YZ s2' t2' g))) ds (KD Z1++Uy k w4) []with
  |none=>.bad
  |some es=>.ok es Z1
abbrev RdB:=US->w9->Option (w9×US)
noncomputable def rL(g:M D):RdB:=λZ es=>match g Z with
 |.bad=>w4
 |.ok e Z3=>if es.length<1000000 then O (es++[e],KD Z3)else w4
noncomputable def cT(s:D->US->yg)(t:M Bool)(rd:RdB):w9->US->w9->Option (w9×US)
 |[],Z,es=>O (es,Z)
 |d::r,Z,es=>match s d Z with
  |none=>w4
  |some Z1=>match t Z1 with
   |.bad=>w4
   |.ok b Z2=>if b=w5 then(match rd Z2 es with
     |none=>w4
     |some (es',Z')=>cT s t rd r Z' es')
    else cT s t rd r (KD Z2) es
noncomputable def rN(f:M w9)(s:D->US->yg)(t:M Bool)(rd:RdB):RdB:=λZ es=>match f Z with
 |.bad=>w4
 |.ok ds Z3=>cT s t rd ds (KD Z3) es
structure Left(Y:Cx)(D':Uq)(pins:List (Uq×Obj))(H G:Hp)(es':w9)(Z':US)(σ':St)(H' G':Hp)(vs':List V)(s':Uo):Prop where
 inv:Inv Y pins σ' H' s'
 eok:EOk Y.K H' G' G' H' σ' Z'
 hh:∀a o,a≠D'->H a=O o->H' a=O o
 gg:Same G G'
 np:∀a(u:MO),a≠D'->H a=O u.ho->G a=w4->G' a=w4
 hd:H' D'=O (.lst vs')
 gd:G' D'=w4
 rp:Reps Y.K G' vs' es'
def RA(Y:Cx)(D':Uq)(W:(Uo->Prop)->Uo->Prop)(rd:RdB):Prop:=
 ∀(pins:List (Uq×Obj))(sh:Uo)(σ:St)(B1 G1 H G:Hp)(Z Z':US)(vs:List V)(es es':w9)(Q:Uo->Prop),
  Inv Y pins σ H sh->EOk Y.K B1 G1 G H σ Z->B1 D'=O (.lst vs)->G1 D'=w4->Reps Y.K G1 vs es->rd Z es=O (es',Z') ->
  (∀σ' H' G' vs' s',Left Y D' pins B1 G1 es' Z' σ' H' G' vs' s'->Q s')->W Q sh
section
variable{Y:Cx}{D':Uq}
theorem kP   (hx:Y.xe=nox)(he:∀B1 G1,PE Y elt (tD Y.K B1 G1 g)) :
  RA Y D' (λQ s=>Uu (model Y.prog Y.w) Y.A (eval elt Y.env) (λx s₄=>Uu (model Y.prog Y.w) Y.A (call (.builtin "list.append") [.ref D',x]) (λ_ s₅=>Q s₅) nox s₄) nox s) (rL g):=by
 intro pins sh σ B1 G1 H G Z Z' vs es es' Q I k hD gD r z fin;unfold rL at z;cases zg:g Z with
 |bad=>simp_all
 |ok e Z4=>
 rw[zg]at z;dsimp only at z;split at z
 .cases z
  have h:=he B1 G1 pins sh σ H (λv H8=>∃G8,EOk Y.K B1 G1 G8 H8 σ Z4/\Rep Y.K G8 v e) I ⟨G,Z,k,by rw[zg];exact λv G8 H8 k8 _ q=>⟨G8,k8,q⟩⟩;rw[hx]at h;refine thn h λev s8 ⟨v,H8,I8,rv,G8,k8,r8⟩=>?_;have h2:=FF pins s8 σ H8 (.ref D') [v] _ [ev] (λ_ H9=>H9=upd H8 D' _) I8 wZ (.cons rv .nil) ⟨D',vs,v,rfl,rfl,k8.bh _ _ hD,by have:=lim1;rw[r.length];lia,rfl⟩
  rw[hx]at h2;refine thn h2 λ_ s9 ⟨_,H9,I9,_,e9⟩=>?_;subst e9;have g8:=k8.np _ (.l _) hD gD;exact fin σ _ G8 _ s9 ⟨I9,k8.beside g8,λa o z q=>by rw[KH z];exact k8.bh a o q,k8.g0,λa o _ q w=>k8.np a o q w,Zp,g8,(r.mono k8.g0).append (.cons r8 .nil)⟩
 simp_all
theorem GQ{tg:Us}{ifs:yb}{code:Code}{W:(Uo->Prop)->Uo->Prop}{s:D->US->yg}{t:M Bool}{rd:RdB}{it:Uq}(hx:Y.xe=nox)(hc:Y.calm=w5)(rule:R4 Y.prog Y.w Y.A tg ifs Y.env (.ref it) code W)
  (hg:∀B1 G1,PG Y tg (tG Y.K B1 G1 s)) (ht:∀B1 G1,Xi Y ifs (tBo Y.K B1 G1 t)) (hb:RA Y D' W rd)
  {pins:List (Uq×Obj)} {sh:Uo} {σ:St} {H G:Hp} {Z ZF:US} {fp:ye} {tn:Nat->Heap->Prop} {J:It} {ds es esF:w9} {vs:List V} {R:Result->Uo->Prop}
  (I:Inv Y pins σ H sh) (T:Turn Y.prog Y.w Y.K tg J fp it tn) (st:tn 0 sh.heap) (hf:∀b∈fp,ZO Y pins H b)
  (k:EOk Y.K H G G H σ Z) (its:Wj Y.K J ds G) (hD:H D'=O (.lst vs)) (gD:G D'=w4) (r:Reps Y.K G vs es) (zl:cT s t rd ds Z es=O (esF,ZF))
  (zq:∀σ' H' G' vs' s',Left Y D' pins H G esF ZF σ' H' G' vs' s'->R (.ok .next) s'):codeAny (model Y.prog Y.w) Y.A code R sh:=by
 have stat:∀{H':Hp},(∀b∈fp,H' b=w4)->∀b∈fp,ZO Y pins H' b:=λhn b hb=>⟨hn b hb,(hf b hb).2⟩
 refine rule R (λn s'=>∃i σ' H' G' Z' vs' es',n=ds.length-i/\tn i s'.heap/\(∀b∈fp,H' b=w4)/\Left Y D' pins H G es' Z' σ' H' G' vs' s'/\cT s t rd (ds.drop i) Z' es'=O (esF,ZF)) ds.length sh
  ⟨0,σ,H,G,Z,vs,es,rfl,st,λb hb=>(hf b hb).1,⟨I,k,λ_ _ _ q=>q,.refl _,λ_ _ _ _ n=>n,hD,gD,r⟩,by rw[List.drop_zero];exact zl⟩ ?_
 rintro n s' ⟨i,σ',H',G',Z',vs',es',rfl,tn',fr',⟨I',k',zN,zD,np',zK,gD',r'⟩,zc⟩;by_cases hlt:i<ds.length
 .rw[Jc hlt,cT]at zc
  cases zs:s ds[i] Z' with
  |none=>rw[zs]at zc;cases zc
  |some Z2=>
  rw[zs]at zc;dsimp only at zc;cases zt:t Z2 with
  |bad=>rw[zt]at zc;cases zc
  |ok b Z3=>
  rw[zt]at zc;dsimp only at zc;refine thn (T.item Y wZ wZ wZ hc i pins s' σ' H' nox I' (stat fr') tn' (its.go i G' H' zD k'.gh hlt)) λrr s4 ⟨u,hr,h4⟩=>?_;subst hr;refine thn h4 λ_ s5 ⟨x,H5,I5,r5,y5,yC,fr5⟩=>?_
  obtain⟨G5,e5,rx⟩:=its.yld i G' H' x H5 ds[i] zD k'.gh (Qe hlt) y5;have h6:=hg H' G' _ s5 σ' H5 x u (λσ6 H6=>∃G6,EOk Y.K H' G' G6 H6 σ6 Z2) (I5.pinned (stat fr5) (T.obj _ _ yC)) r5 ⟨G5,Z',ds[i],Z2,k'.ext e5,rx,zs,λσ6 G6 H6 k6 _=>⟨G6,k6⟩⟩;rw[hx]at h6;refine thn h6 λ_ s6 ⟨σ6,H6,I6,G6,k6⟩=>?_;have h7:=ht H' G' _ s6 σ6 H6 (λc H7=>c=b/\∃G7,EOk Y.K H' G' G7 H7 σ6 Z3) I6 ⟨G6,Z2,k6,by unfold aft;rw[zt];exact λc G7 H7 k7 _ q=>⟨q,G7,k7⟩⟩
  rw[hx]at h7;refine thn h7 λok s7 ⟨H7,I7,hb7,G7,k7⟩=>?_;subst hb7
  have again:∀{H9:Hp}{σ9:St}{s9:Uo},Inv Y (pins++PP fp s5.heap) σ9 H9 s9->Inv Y pins σ9 H9 s9/\tn (i+1) s9.heap/\∀b∈fp,H9 b=w4:=λ{H9 σ9 s9} I9=>by refine⟨I9.unpinned,T.keep _ _ _ yC λb hb o e=>(I9.pin (b,o) (QJ _ (QJ _ (OF hb e)))).1,λb hb=>?_⟩;obtain⟨o,e,d⟩:=T.obj _ _ yC b hb;exact(I9.pin (b,o) (QJ _ (QJ _ (OF hb e)))).2.1
  have lt:ds.length-(i+1)<ds.length-i:=Nat.sub_lt_sub_left hlt (JN i);cases ok with
  |false=>obtain⟨J1,J2,J3⟩:=again I7;exact⟨_,lt,i+1,σ6,H7,G7,KD Z3,vs',es',rfl,J2,J3,⟨J1,k7.rebase,λa o z q=>k7.bh a o (zN a o z q),zD.trans k7.g0,λa o z q w=>k7.np a o (zN a _ z q) (np' a o z q w),k7.bh _ _ zK,k7.np _ (.l _) zK gD',r'.mono k7.g0⟩,zc⟩
  |true=>
   rw[Qp wZ]at zc⊢;cases ze:rd Z3 es' with
   |none=>rw[ze]at zc;cases zc
   |some pr=>
   obtain⟨es1,Z5⟩:=pr;rw[ze]at zc;refine hb _ s7 σ6 H' G' H7 G7 Z3 Z5 vs' es' es1 _ I7 k7 zK gD' r' ze λσ9 H9 G9 vs9 s9 L=>?_
   obtain⟨J1,J2,J3⟩:=again L.inv;exact⟨_,lt,i+1,σ9,H9,G9,Z5,vs9,es1,rfl,J2,J3,⟨J1,L.eok,λa o z q=>L.hh a o z (zN a o z q),zD.trans L.gg,λa o z q w=>L.np a o z (zN a _ z q) (np' a o z q w),L.hd,L.gd,L.rp⟩,zc⟩
 .rw[J5 (Jh hlt),cT]at zc
  cases zc;refine thn (T.done Y wZ wZ wZ hc i pins s' σ' H' nox I' (stat fr') tn' (its.stop i G' H' zD k'.gh (Jh hlt))) λrr s4 ⟨hr,I6⟩=>?_
  subst hr;exact zq σ' H' G' vs' s4 ⟨I6,k',zN,zD,np',zK,gD',r'⟩
theorem kO{elt yO i1:Us}{ifs1}{gens}{scope:Scope}{pos:Pos}{j:Nat}{W:Um->(Uo->Prop)->Uo->Prop}{f}{s}{t}{rd:RdB}(hx:Y.xe=nox)(hc:Y.calm=w5)
  (hn:gens[j+1]?=O ⟨yO,i1,ifs1,0⟩) (rule:∀yt,R4 Y.prog Y.w Y.A yO ifs1 Y.env yt (.compLoop (.ListComp elt gens scope pos) (j+1) yt (.ref D') Y.env) (W yt))
  (hi:∀B1 G1,PI Y yO i1 (iD Y.K B1 G1 f)) (hg:∀B1 G1,PG Y yO (tG Y.K B1 G1 s)) (ht:∀B1 G1,Xi Y ifs1 (tBo Y.K B1 G1 t)) (hb:∀yt,RA Y D' (W yt) rd) :
  RA Y D' (λQ s=>Uu (model Y.prog Y.w) Y.A (eval i1 Y.env) (λx s₄=>Uu (model Y.prog Y.w) Y.A (pyIter x) (λyt s₅=>codeAny (model Y.prog Y.w) Y.A (.compStart (.ListComp elt gens scope pos) (j+1) yt (.ref D') Y.env)
   (λr s₆=>match r with | .ok _=>Q s₆ | .error _=>False) s₅) nox s₄) nox s) (rN f s t rd):=by
 intro pins sh σ B1 G1 H G Z Z' vs es es' Q I k hD gD r z fin;unfold rN at z;cases zf:f Z with
 |bad=>rw[zf]at z;cases z
 |ok ds Z3=>
 rw[zf]at z;have h:=hi B1 G1 pins sh σ H (λJ1 H8=>∃G8,EOk Y.K B1 G1 G8 H8 σ Z3/\Wj Y.K J1 ds G8) I ⟨G,Z,k,by rw[zf];exact λJ1 G8 H8 k8 _ q=>⟨G8,k8,q⟩⟩;rw[hx]at h;refine thn h λxv s8 h8=>thn h8 λitv s9 h9=>?_
 obtain⟨yt,fp1,tn1,J1,H9,rfl,I9,T1,st9,f9,G9,k9,its9⟩:=h9
 have loop:codeAny _ Y.A _ (λr s₆=>match r with | .ok _=>Q s₆ | .error _=>False) s9:=
  GQ hx hc (rule _) hg ht (hb _) I9 T1 st9 f9 k9.rebase its9 (k9.bh _ _ hD) (k9.np _ (.l _) hD gD) (r.mono k9.g0) z λσ' H' G' vs' s' L=>
   fin σ' H' G' vs' s' ⟨L.inv,L.eok,λa o z q=>L.hh a o z (k9.bh a o q),k9.g0.trans L.gg,λa o z q w=>L.np a o z (k9.bh a _ q) (k9.np a o q w),L.hd,L.gd,L.rp⟩
 exact wx hn loop (T1.self Y.A 0 _ _ _ st9 loop)
end
def Rz(Y:Cx)(e:Us)(j:Nat)(tg:Us)(ifs:yb)(rd:RdB):Prop:=
 ∀(D':Uq)(it:Um),∃W,R4 Y.prog Y.w Y.A tg ifs Y.env it (.compLoop e j it (.ref D') Y.env) W/\RA Y D' W rd
section
variable{Y:Cx}{elt tg i:Us}{ifs:yb}{gens:List Comprehension}{scope:Scope}{pos:Pos}{j:Nat}
theorem FC  (hx:Y.xe=nox)(hg:gens[j]?=O ⟨tg,i,ifs,0⟩)(hn:gens[j+1]?=w4)(he:∀B1 G1,PE Y elt (tD Y.K B1 G1 g)):Rz Y (.ListComp elt gens scope pos) j tg ifs (rL g):=
 λ_ _=>⟨_,kT hg hn,kP hx he⟩
theorem kN       (hx:Y.xe=nox)(hc:Y.calm=w5)(hg:gens[j]?=O ⟨tg,i,ifs,0⟩)(hn:gens[j+1]?=O ⟨yO,i1,ifs1,0⟩)(hs:∀x,UL i1 Y.env x=pure x)
  (hi:∀B1 G1,PI Y yO i1 (iD Y.K B1 G1 f)) (hgt:∀B1 G1,PG Y yO (tG Y.K B1 G1 s)) (ht:∀B1 G1,Xi Y ifs1 (tBo Y.K B1 G1 t)) (hb:Rz Y (.ListComp elt gens scope pos) (j+1) yO ifs1 rd):Rz Y (.ListComp elt gens scope pos) j tg ifs (rN f s t rd):=
 λD' _=>⟨_,kS hg hn hs,kO hx hc hn (λyt=>(Classical.choose_spec (hb D' yt)).1) hi hgt ht (λyt=>(Classical.choose_spec (hb D' yt)).2)⟩
end
noncomputable def Y2(l:Bool)(Z:US):US:=match l with|true=>ZZ Z|false=>KD Z
theorem E4{K}{B G0 G1 H2}{σ}{Z1}{D}(l)(k1:EOk K B G0 G1 H2 σ Z1)(hfr:H2 D=w4)(n) :
  ∃Gb,EOk K (upd H2 D (.lst [])) Gb Gb (upd H2 D (.lst [])) (σ++Uy n w4) (Y2 l Z1++Uy n w4)/\Same G1 Gb/\Gb D=w4 /\
   ∀(G' H') vs es,(l=w5->es.all flat=w5)->Same Gb G'->Same H2 H'->Same G' H'->(∀a(u:MO),H2 a=O u.ho->Gb a=w4->G' a=w4)->G' D=w4->Reps K G' vs es->∃Gf,Ext G1 H2 Gf H'/\Gf D=w4/\Reps K Gf vs es:=by
 have gD   :=k1.gh.free hfr;cases l with
 |false=>exact⟨G1,(k1.beside gD).more n,.refl _,gD,λG' H' vs es _ g h gh np d r=>⟨G',⟨h,g,gh,np⟩,d,r⟩⟩
 |true=>exact⟨H2,k1.lend hfr n,k1.gh,hfr,λG' H' vs es fl _ h _ _ _ r=>⟨G1,⟨h,.refl _,k1.gh.trans h,λ_ _ _ n=>n⟩,gD,r.flat (fl wZ)⟩⟩
noncomputable def dCG(l:Bool)(f:M w9)(k:Nat)(s:D->US->yg)(t:M Bool)(rd:RdB):M w9:=λZ=>match f Z with
 |.bad=>.bad
 |.ok ds Z1=>match cT s t rd ds (Y2 l Z1++Uy k w4) []with
  |none=>.bad
  |some (es,_)=>if l=w5->es.all flat=w5 then .ok es Z1 else .bad
theorem Nu       {Z Z'}{es}(h:dCG l f k s t rd Z=.ok es Z'):∃ds ZF,f Z=.ok ds Z'/\cT s t rd ds (Y2 l Z'++Uy k w4) []=O (es,ZF)/\(l=w5->es.all flat=w5):=by
 unfold dCG at h;cases zf:f Z with
 |bad=>rw[zf]at h;cases h
 |ok ds Z1=>
 rw[zf]at h;dsimp only at h;cases zl:cT s t rd ds _ []with
 |none=>rw[zl]at h;cases h
 |some pr=>
 obtain⟨esF,ZF⟩:=pr;rw[zl]at h;dsimp only at h;split at h
 .rename_i hf
  cases h;exact⟨ds,ZF,rfl,zl,hf⟩
 .cases h
section
variable{X:Cx}{B G0:Hp}{KX:XW}
def Z9(X:Cx)(N2:List Str)(scope:Scope)(e tg:Us)(ifs:yb)(s:D->US->yg)(t:M Bool)(rd:RdB):Prop:=
 ∀(cl:List (Str×Uq))(C:Uq)(s₀:Uo)(H₀:Hp)(ex:ye),(∀B' G',PG (X.blk N2 scope cl C s₀ H₀ ex) tg (tG X.K B' G' s))/\(∀B' G',Xi (X.blk N2 scope cl C s₀ H₀ ex) ifs (tBo X.K B' G' t))/\Rz (X.blk N2 scope cl C s₀ H₀ ex) e 0 tg ifs rd
structure SI(SC scope:Scope)(N1 N2:List Str)(k:Nat):Prop where
 b:R5 scope.names N1 N2 k=w5
 kind:scope.kind=.function
 names:∀y∈scope.names,scope.names.lookup y.1=O y.2
 free:∀y∈scope.names,y.2=.free->SC.names.lookup y.1=O .cell∨SC.names.lookup y.1=O .free
theorem NQ{l:Bool}{tg elt iter:Us}{ifs:yb}{gs:List Comprehension}{scope:Scope}{pos pos':Pos}{N2:List Str}{k:Nat}{f:M w9}{s:D->US->yg}{t:M Bool}{rd:RdB}{use:Option (Um->Sem Unit)}{Qc:Um->Uo->Prop}(hc:X.calm=w5)
  (hi:PI X tg iter (iD X.K B G0 f)) (yn:Z9 X N2 scope (.ListComp elt (⟨tg,iter,ifs,0⟩::gs) scope pos) tg ifs s t rd) (hb:SI X.env.scope scope X.N N2 k) (hs:∀x,UL iter X.env x=pure x)
  {pins:List (Uq×Obj)} {s0:Uo} {σ:St} {G H:Hp} {Z Z1 ZF:US} {ds esF:w9} (I:Inv X pins σ H s0) (k0:EOk X.K B G0 G H σ Z) (zf:f Z=.ok ds Z1) (zl:cT s t rd ds (Y2 l Z1++Uy k w4) []=O (esF,ZF)) (hfl:l=w5->esF.all flat=w5)
  (zq:∀(C D:Uq)(vs:List V)(G' H':Hp)(s4:Uo)(m:Str->yf),Inv X pins σ H' s4->s4.heap.Ns C m->H' C=w4->C≠X.env.locals->X.s₀.heap.objs.size<=C->(∀x c,X.env.cells.lookup x=O c->c≠C)->(∀p∈X.pn++pins,p.1≠C) ->
   EOk X.K B G0 G' H' σ Z1->Same G G'->NewL X.K B G' H' σ Z1 D vs esF->compPost (model X.prog X.w) X.A X.xe use Qc (.ref D) C (.ok .next) s4) :
  Uu (model X.prog X.w) X.A (comprehension (.ListComp elt (⟨tg,iter,ifs,0⟩::gs) scope pos) scope X.env pos' (newList []) w6 (eval iter X.env) use) Qc X.xe s0:=by
 obtain⟨zM,hcl,zL,cl2⟩:=vC (scope:=scope) (env:=X.env) λy hy hf=>I.ok.has y.1 (hb.free y hy hf)
 refine wpAny_comprehension_free (use:=use) wZ hs hcl hb.kind (λy hy hl=>(hb.names y hy).trans (by rw[hl])) (thn (hi pins s0 σ H (λJ H1=>∃G1,EOk X.K B G0 G1 H1 σ Z1/\Same G G1/\Wj X.K J ds G1) I ⟨G,Z,k0,by rw[zf];exact λJ G1 H1 k1 s1 it=>⟨G1,k1,s1,it⟩⟩) λv s1 h1=>thn h1 λitv s2 h2=>?_);obtain⟨it,fp,tn,J,H2,rfl,I2,T,st2,f2,G1,k1,sg1,its⟩:=h2;refine wpAny_newObj_type (D5 zL cl2 hb.names (λx c e=>let ⟨_,q⟩:=I2.cell x c e;QH q.lt (by first|exact Qv _|(rw[JH];exact JV _))) λh₁ cl hns₁ kept hco=>?_);dsimp only at hns₁ kept hco⊢;have hfr:H2 s2.heap.objs.size=w4:=I2.hok.fresh (Qv _)
 have I3:Inv X pins σ (upd H2 s2.heap.objs.size (.lst [])) {s2 with heap:=s2.heap.push {cls:=.type "list", dict:=w4,data:=.seq ([]:yc).toArray}}:=
  I2.laid (t':=s2.toks) (λb u e=>Qm _ e) (Qv _) ⟨JM _,[],0,.nil,QD _ wZ⟩
 generalize hP:s2.heap.push {cls:=.type "list", dict:=w4,data:=.seq ([]:yc).toArray}=P at I3 hns₁ kept hco⊢;have old:∀b o,s2.heap.get? b=O o->P.get? b=O o:=λb o e=>hP ▸ Qm _ e;have fpo:∀b∈fp,∃o,s2.heap.get? b=O o:=λb hb=>let ⟨o,e,_⟩:=T.obj _ _ st2 b hb;⟨o,e⟩
 have fpD:∀b∈fp,b≠s2.heap.objs.size:=λb hb=>let ⟨o,e⟩:=fpo b hb;QX (Ql e)
 have f3:∀b∈fp,ZO X pins (upd H2 s2.heap.objs.size (.lst [])) b:=λb hb=>⟨by rw[KH (fpD b hb)];exact(f2 b hb).1,(f2 b hb).2⟩
 have I4:=I3.enter (scope:=scope) (cl:=cl) (N2:=N2) (k:=k) (fp:=fp) (t':=s2.toks) hb.b hb.kind hb.free hco hns₁ kept f3 (λb hb=>let ⟨o,e⟩:=fpo b hb;⟨o,old b o e⟩);dsimp only at I4;obtain⟨Gb,kb,sgb,gbD,ex⟩:=E4 l k1 hfr k;have sH:Same H2 (upd H2 s2.heap.objs.size (.lst [])):=ZQ hfr;have hD3:upd H2 s2.heap.objs.size (.lst []) s2.heap.objs.size=O (.lst []):=Zp;generalize upd H2 s2.heap.objs.size (.lst [])=H3 at I3 I4 f3 kb sH hD3;generalize s2.heap.objs.size=D at *;have tn0:tn 0 h₁:=T.keep 0 _ _ st2 λb hb o e=>kept b o (old b o e)
 have stat:∀b∈fp,ZO (X.blk N2 scope cl P.objs.size {s2 with heap:=P} H3 fp) pins H3 b:=λb hb=>by
  obtain⟨z0,z1,z2,z3,z4,z5⟩:=f3 b hb;obtain⟨o,e⟩:=fpo b hb;refine⟨z0,QX (Ql (old b o e)),λz=>?_,.inl hb,λx c q=>(hco.old x c q).elim (z4 x c) λw=>JJ (Nat.lt_trans (Ql (old b o e)) w.1),z5⟩;rcases QE.mp (I3.stkSub b z)with q|q
  .exact z1 q
  .exact z2 q
 have neD:∀a o,H2 a=O o->a≠D:=λa o q z=>by subst z;rw[hfr]at q;cases q
 obtain⟨hg,ht,hcl'⟩:=yn cl P.objs.size {s2 with heap:=P} H3 fp;obtain⟨W,rule,body⟩:=hcl' D (.ref it)
 have loop:=GQ (Y:=X.blk N2 scope cl P.objs.size {s2 with heap:=P} H3 fp) (D':=D)  rfl hc rule hg ht body I4 T tn0 stat kb
  ⟨λi G H s1 s2 hi=>its.go i G H (sgb.trans s1) s2 hi,λi G H s1 s2 hi=>its.stop i G H (sgb.trans s1) s2 hi,λi G H x H' d s1 s2 e y=>its.yld i G H x H' d (sgb.trans s1) s2 e y⟩ hD3 gbD .nil zl λσ' H' G' vs' s4 L=>by
   obtain⟨m,hm,_⟩:=id L.inv.loc;have I7:Inv X pins σ H' s4:=I3.call' (ch:=fp) L.inv.os L.inv.base L.inv.hok L.inv.bare λb hb=>⟨(f3 b hb).2.2.2.1,(f3 b hb).2.1,(f3 b hb).2.2.2.2.1,(f3 b hb).2.2.2.2.2⟩
   obtain⟨Gf,eF,dF,rF⟩:=ex G' H' vs' esF hfl L.gg (λa o q=>L.hh a o (neD a o q) (sH a o q)) L.eok.gh (λa o q z=>L.np a o (neD a _ q) (sH a _ q) z) L.gd L.rp
   refine zq P.objs.size D vs' Gf H' s4 m I7 hm L.inv.free (JJ I3.lt) I3.sz (λx c e z=>by obtain⟨_,q⟩:=I3.cell x c e;exact absurd q.lt (by rw[z];exact Jv _)) (λp hp z=>by have:=Ql (I3.pin p hp).1;exact absurd this (by rw[z];exact Jv _))
    (k1.ext eF) (sg1.trans eF.g) ⟨k1.bh.free hfr,dF,L.hd,rF,λj es' q z=>?_,λj pt d v fp q s r=>k1.freshD eF.h hfr q s r⟩
   obtain⟨a',ws,h1',h2',h3',h4',h5'⟩:=k1.own j es' q;rw[z]at h1';cases h1';rw[hfr]at h4';cases h4'
 exact codeAny_compStart_list loop (T.self X.A 0 _ _ _ tn0 loop)
theorem MT  {tg elt iter}{ifs}{gs}{scope}{pos}{N2}{k:Nat}{f}{s}{t}{rd:RdB}(hc:X.calm=w5)
  (hi:PI X tg iter (iD X.K B G0 f)) (yn:Z9 X N2 scope (.ListComp elt (⟨tg,iter,ifs,0⟩::gs) scope pos) tg ifs s t rd) (hb:SI X.env.scope scope X.N N2 k) (hs:∀x,UL iter X.env x=pure x:=by intro _;rfl) :
  PE X (.ListComp elt (⟨tg,iter,ifs,0⟩::gs) scope pos) (tL X.K B G0 (dCG l f k s t rd)):=by
 intro pins s0 σ H Q I ⟨G,Z,k0,a⟩;cases z:dCG l f k s t rd Z with
 |bad=>rw[z]at a;exact a.elim
 |ok es Z1=>
 rw[z]at a;obtain⟨ds,ZF,zf,zl,hfl⟩:=Nu z;refine NQ hc hi yn hb hs I k0 zf zl hfl λC D vs G' H' s4 m I7 hm hC hL hz hcl hp k' s' n=>?_
 exact⟨m,hm,λh' sb=>⟨.ref D,H',I7.turned   (λb o hb e=>(sb.2 b hb).trans e) hC hL (.inr hz) hcl hp,rfl,a D vs G' H' k' s' n⟩⟩
theorem sD_g{l:Bool}{y:Str}{j:Nat}{py:Pos}{spos:Pos}{tg elt iter:Us}{ifs:yb}{gs}{scope:Scope}{pos:Pos}{N2:List Str}{k:Nat}{f:M w9}{s}{t:M Bool}{rd:RdB}(hN:X.N.Nodup)(hj:X.N[j]?=O y)(hy:X.env.scope.names.lookup y=O .local)(hc:X.calm=w5)
  (hi:PI X tg iter (iD X.K B G0 f)) (yn:Z9 X N2 scope (.ListComp elt (⟨tg,iter,ifs,0⟩::gs) scope pos) tg ifs s t rd) (hb:SI X.env.scope scope X.N N2 k) (hs:∀x,UL iter X.env x=pure x:=by intro _;rfl)
  (hsw:swapsWith (.ListComp elt (⟨tg,iter,ifs,0⟩::gs) scope pos) (O (.Name y py)) spos.line X.env=pure w5:=by rfl) :
  PS X (.Assign [.Name y py] (.ListComp elt (⟨tg,iter,ifs,0⟩::gs) scope pos) spos) (tS X.K B G0 KX (Zq j (dCG l f k s t rd))):=by
 intro pins s0 σ H Dn I ⟨G,Z,k0,a⟩;unfold Zq sB at a;cases z:dCG l f k s t rd Z with
 |bad=>rw[z]at a;exact a.elim
 |ok es Z1=>
 rw[z]at a;dsimp only at a;by_cases hl:j<Z1.length
 .rw[Qp hl]at a
  obtain⟨ds,ZF,zf,zl,hfl⟩:=Nu z;rw[exec_Assign_Name_used _ _ _ _ hsw];refine Qf (JA (Qf ?_));refine Qf (QL (NQ   hc hi yn hb hs I k0 zf zl hfl λC D vs G' H' s4 m I7 hm hC hL hz hcl hp k' s' n=>?_) (λ_ s' hq=>Qq (Qq hq)) λ_ _ e=>e);refine wpAny_assign_Name (MC I7 hN hj (.inl hy) (v:=.ref D) wZ (λs5 I8 ⟨ad,sb,hx⟩=>?_) (.inr hy))
  have hCa:C≠ad:=by
   rcases hx with e|e
   .rw[e];exact hL
   .exact Ne.symm (hcl y ad e)
  refine⟨m,hm.sameBut sb hCa,λh' sb'=>⟨_,H',I8.turned (t':=s5.toks) (it:=C) (λb o hb e=>(sb'.2 b hb).trans e) hC hL (.inr hz) hcl hp,?_⟩⟩;exact a _ G' H' (k'.setOwn n hl) s'
 .rw[Qw hl]at a;exact a.elim
theorem MS{K}{f f'}(h:∀Z es Z',f Z=.ok es Z'->f' Z=.ok es Z'){σ}{H}{Q}(q:tL K B G0 f σ H Q):tL K B G0 f' σ H Q:=by
 obtain⟨G,Z,k,a⟩:=q;refine⟨G,Z,k,?_⟩;cases z:f Z with
 |bad=>simp_all
 |ok es Z'=>rw[z]at a;rw[h Z es Z' z];exact a
theorem Lu{K}{f f'}{j}(h:∀Z es Z',f Z=.ok es Z'->f' Z=.ok es Z'){Dn}{σ}{H}(q:tS K B G0 KX (Zq j f) Dn σ H):tS K B G0 KX (Zq j f') Dn σ H:=by
 obtain⟨G,Z,k,a⟩:=q;refine⟨G,Z,k,?_⟩;unfold Zq sB at a⊢;cases z:f Z with
 |bad=>rw[z]at a;exact a.elim
 |ok es Z'=>rw[z]at a;rw[h Z es Z' z];exact a
end
theorem Of    : ∀{ds}{Z:US}{es esF},Zb s t g ds Z es=O esF->∃ZF,cT s t (rL g) ds Z es=O (esF,ZF)
 |[],Z,es,esF,h=>by cases h;exact⟨Z,rfl⟩
 |d::r,Z,es,esF,h=>by
  rw[Zb]at h;rw[cT];cases zs:s d Z with
  |none=>rw[zs]at h;cases h
  |some Z1=>
  rw[zs]at h;dsimp only at h⊢;cases zt:t Z1 with
  |bad=>rw[zt]at h;cases h
  |ok b Z2=>
  rw[zt]at h;dsimp only at h⊢;cases b with
  |false=>exact Of  h
  |true=>
   rw[Qp wZ]at h⊢;unfold rL;cases zg:g Z2 with
   |bad=>rw[zg]at h;cases h
   |ok e Z3=>
   rw[zg]at h;dsimp only at h⊢;split at h
   .rename_i hl
    rw[Qp hl];exact Of  h
   .cases h
theorem OA    : ∀{ds}{Z}{es},YZ s t g ds Z es=cT s t (rL g) ds Z es
 |[],Z,es=>rfl
 |d::r,Z,es=>by
  rw[YZ,cT];cases s d Z with
  |none=>rfl
  |some Z1=>
  dsimp only;cases t Z1 with
  |bad=>rfl
  |ok b Z2=>
  dsimp only;cases b with
  |false=>exact OA
  |true=>
   rw[Qp wZ,Qp wZ];unfold rL;cases g Z2 with
   |bad=>rfl
   |ok e Z3=>
   dsimp only;split
   .exact OA
   .rfl
theorem Oz{s s1}{t t1}{f}{Rd}{rd}(hR:∀ds Z es,Rd ds Z es=cT s1 t1 rd ds Z es) :
  ∀{ds}{Z}{es},Xr s t f Rd ds Z es=cT s t (rN f s1 t1 rd) ds Z es
 |[],Z,es=>rfl
 |d::r,Z,es=>by
  rw[Xr,cT];cases s d Z with
  |none=>rfl
  |some Z1=>
  dsimp only;cases t Z1 with
  |bad=>rfl
  |ok b Z2=>
  dsimp only;cases b with
  |false=>exact Oz hR
  |true=>
   rw[Qp wZ,Qp wZ];unfold rN;cases f Z2 with
   |bad=>rfl
   |ok ds Z3=>
   dsimp only;rw[hR];cases cT s1 t1 rd ds _ es with
   |none=>rfl
   |some pr=>exact Oz hR
theorem MD  {t t1}{f}{g:M D}:∀{ds:w9}{Z:US}{es esF:w9},WF s t f s1 t1 g ds Z es=O esF->∃ZF,cT s t (rN f s1 t1 (rL g)) ds Z es=O (esF,ZF)
 |[],Z,es,esF,h=>by cases h;exact⟨Z,rfl⟩
 |d::r,Z,es,esF,h=>by
  rw[WF]at h;rw[cT];cases zs:s d Z with
  |none=>rw[zs]at h;cases h
  |some Z1=>
  rw[zs]at h;dsimp only at h⊢;cases zt:t Z1 with
  |bad=>rw[zt]at h;cases h
  |ok b Z2=>
  rw[zt]at h;dsimp only at h⊢;cases b with
  |false=>exact MD  h
  |true=>
   rw[Qp wZ]at h⊢;unfold rN;cases zg:f Z2 with
   |bad=>rw[zg]at h;cases h
   |ok ds Z3=>
   rw[zg]at h;dsimp only at h⊢;rw[←OA];cases zl:YZ s1 t1 g ds _ es with
   |none=>rw[zl]at h;cases h
   |some pr=>rw[zl]at h;exact MD  h
theorem GP      (Z)(es)(Z')(h:Zo f k s t g Z=.ok es Z'):dCG w6 f k s t (rL g) Z=.ok es Z':=by
 unfold Zo at h;unfold dCG;cases zf:f Z with
 |bad=>simp_all
 |ok ds Z1=>
 rw[zf]at h;dsimp only[Y2]at h⊢;cases zl:Zb s t g ds _ []with
 |none=>rw[zl]at h;cases h
 |some esF=>
 obtain⟨ZF,e⟩:=Of zl;simp_all
theorem kM      (Z)(es)(Z')(h:RO f k s t g Z=.ok es Z'):dCG w5 f k s t (rL g) Z=.ok es Z':=by
 unfold RO at h;unfold dCG;cases zf:f Z with
 |bad=>simp_all
 |ok ds Z1=>
 rw[zf]at h;dsimp only[Y2]at h⊢;cases zl:Zb s t g ds _ []with
 |none=>rw[zl]at h;cases h
 |some esF=>
 rw[zl]at h;dsimp only at h;split at h
 .rename_i hf
  cases h;obtain⟨ZF,e⟩:=Of zl;rw[e];exact Qp λ_=>hf
 simp_all
theorem kL  {k}{s s1}{t t1}{g}(Z)(es)(Z')(h:RN f k s t f1 s1 t1 g Z=.ok es Z'):dCG w6 f k s t (rN f1 s1 t1 (rL g)) Z=.ok es Z':=by
 unfold RN at h;unfold dCG;cases zf:f Z with
 |bad=>simp_all
 |ok ds Z1=>
 rw[zf]at h;dsimp only[Y2]at h⊢;cases zl:WF s t f1 s1 t1 g ds _ []with
 |none=>rw[zl]at h;cases h
 |some esF=>
 obtain⟨ZF,e⟩:=MD zl;simp_all
theorem kJ  {k}{s s1 s2}{t t1 t2}{g}(Z)(es)(Z')(h:RM f k s t f1 s1 t1 f2 s2 t2 g Z=.ok es Z'):dCG w6 f k s t (rN f1 s1 t1 (rN f2 s2 t2 (rL g))) Z=.ok es Z':=by
 unfold RM at h;unfold dCG;cases zf:f Z with
 |bad=>simp_all
 |ok ds Z1=>
 rw[zf]at h;dsimp only[Y2,Tu]at h⊢;rw[Oz λ_ _ _=>Oz λ_ _ _=>OA]at h;cases zl:cT s t _ ds _ []with
 |none=>simp_all
 |some pr=>
 simp_all
noncomputable def WE(q:Option NameKind->Bool)(SC scope:Scope)(N1 N2:List Str)(k:Nat):Bool:=
 R5 scope.names N1 N2 k&&decide (scope.kind=.function)&&(scope.names.all λy=>decide (scope.names.lookup y.1=O y.2))&&scope.names.all λy=>match y.2 with
  |.free=>q (SC.names.lookup y.1)
  |_=>w5
noncomputable def VO:Option NameKind->Bool
 |some .cell=>w5|some .free=>w5|_=>w6
theorem Ev  {SC SC' scope}{N1 N2}{k}(h:WE q SC scope N1 N2 k=w5)(f:∀x,q (SC.names.lookup x)=w5->SC'.names.lookup x=O .cell∨SC'.names.lookup x=O .free):SI SC' scope N1 N2 k:=by unfold WE at h;rw[Jd,Jd,Jd,Je,Je]at h;obtain⟨⟨⟨h1,h2⟩,h0⟩,h3⟩:=h;refine⟨h1,Qa h2,λy hy=>Qa (h0 y hy),λy hy e=>?_⟩;have:=h3 y hy;rw[e]at this;exact f _ this
theorem Nt    (h:WE VO SC scope N1 N2 k=w5):SI SC scope N1 N2 k:=Ev h λx e=>by
 cases z:SC.names.lookup x with
 |none=>rw[z]at e;cases e
 |some y=>rw[z]at e;cases y<;>first|exact .inl rfl|exact .inr rfl|cases e
section
variable{X:Cx}{B G0:Hp}{KX:XW}
theorem E3  {tg elt iter}{ifs}{gs}{scope}{pos}{f}{s}{t}{rd}{F}(SC)(N1 N2)(k)(le:∀Z es Z',F Z=.ok es Z'->dCG l f k s t rd Z=.ok es Z')(hc:X.calm=w5)
  (hi:PI X tg iter (iD X.K B G0 f)) (yn:Z9 X N2 scope (.ListComp elt (⟨tg,iter,ifs,0⟩::gs) scope pos) tg ifs s t rd) (h1:X.env.scope=SC) (h2:X.N=N1) (hb:WE VO SC scope N1 N2 k=w5) (hs:∀x,UL iter X.env x=pure x:=by intro _;rfl) :
  PE X (.ListComp elt (⟨tg,iter,ifs,0⟩::gs) scope pos) (tL X.K B G0 F):=
 Kt (MT hc hi yn (by rw[h1,h2];exact Nt hb) hs) λ_ _ _ q=>MS le q
theorem sD_1   {j:Nat}{py:Pos}{spos:Pos}{tg elt iter:Us}{ifs}{gs}{scope}{pos:Pos}{f}{s}{t}{rd:RdB}{F}(SC:Scope)(N1 N2)(k:Nat)(le:∀Z es Z',F Z=.ok es Z'->dCG l f k s t rd Z=.ok es Z')(hN:X.N.Nodup)(hj:X.N[j]?=O y)(hy:X.env.scope.names.lookup y=O .local)(hc:X.calm=w5)
  (hi:PI X tg iter (iD X.K B G0 f)) (yn:Z9 X N2 scope (.ListComp elt (⟨tg,iter,ifs,0⟩::gs) scope pos) tg ifs s t rd) (h1:X.env.scope=SC) (h2:X.N=N1) (hb:WE VO SC scope N1 N2 k=w5) (hs:∀x,UL iter X.env x=pure x:=by intro _;rfl)
  (hsw:swapsWith (.ListComp elt (⟨tg,iter,ifs,0⟩::gs) scope pos) (O (.Name y py)) spos.line X.env=pure w5:=by rfl) :
  PS X (.Assign [.Name y py] (.ListComp elt (⟨tg,iter,ifs,0⟩::gs) scope pos) spos) (tS X.K B G0 KX (Zq j F)):=
 ZG (sD_g hN hj hy hc hi yn (by rw[h1,h2];exact Nt hb) hs hsw) λ_ _ _ q=>Lu le q
theorem D3   {cl}{C:Uq}{s₀}{H₀:Hp}{ex}{N2}{tg elt iter:Us}{ifs}{gs}{scope:Scope}{pos:Pos}{f}{s}{t}{rd:RdB}{F}(N3)(k:Nat)(le:∀Z es Z',F Z=.ok es Z'->dCG l f k s t rd Z=.ok es Z')(hc:X.calm=w5)
  (hi:PI (X.blk N2 scope0 cl C s₀ H₀ ex) tg iter (iD X.K B G0 f)) (yn:Z9 (X.blk N2 scope0 cl C s₀ H₀ ex) N3 scope (.ListComp elt (⟨tg,iter,ifs,0⟩::gs) scope pos) tg ifs s t rd) (hb:WE VO scope0 scope N2 N3 k=w5) (hs:∀x,UL iter (X.blk N2 scope0 cl C s₀ H₀ ex).env x=pure x:=by intro _;rfl) :
  PE (X.blk N2 scope0 cl C s₀ H₀ ex) (.ListComp elt (⟨tg,iter,ifs,0⟩::gs) scope pos) (tL X.K B G0 F):=by
 refine Kt (MT  hc hi yn (Ev hb λx e=>?_) hs) λ_ _ _ q=>MS le q
 cases z:scope0.names.lookup x with
 |none=>rw[z]at e;cases e
 |some y=>
  rw[z]at e;cases y with
  |free=>exact(ML  z).symm
  |cell=>exact .inl (V7 (by decide) z)
  |_=>cases e
end
theorem jS   {s zE s2'}{t t1' t2'}{f1 f2}{g}{Z Z1 Z2}{ds es}(h1:f Z=.ok ds Z1)(h2:Xr s t f1 (Xr zE t1' f2 (YZ s2' t2' g)) ds (KD Z1++Uy k w4) []=O (es,Z2)) :
  RM f k s t f1 zE t1' f2 s2' t2' g Z=.ok es Z1:=by
 unfold RM;dsimp only[Tu];simp_all
section
variable{X:Cx}{B G0:Hp}{e a b c tg:Us}{pos:Pos}{es rest:yb}
theorem EOk.given{K}{G H:Hp}{σ:St}{Z:US}{a:Uq}{vs}{ds:w9}(k:EOk K B G0 G H σ Z)(n:NewL K B G H σ Z a vs ds):EOk K B G0 (upd G a (.lst vs)) H σ Z where
 bh:=k.bh
 gh:=λb u q=>by
  by_cases z:b=a
  .subst z;rw[Zp]at q;cases q;exact n.h
  .rw[KH z]at q;exact k.gh b u q
 g0:=k.g0.trans (ZQ n.g)
 np:=λb o q z=>by
  have zb:b≠a:=λz=>by subst z;rw[n.b]at q;cases q
  rw[KH zb];exact k.np b o q z
 len:=k.len
 pub:=λi d q=>let ⟨v,h1,h2⟩:=k.pub i d q;⟨v,h1,h2.mono (ZQ n.g)⟩
 own:=λi ds q=>by
  obtain⟨b,ws,h1,h2,h3,h4,h5⟩:=k.own i ds q;have zb:b≠a:=λz=>by subst z;exact n.f i ds q h1
  exact⟨b,ws,h1,h2,by rw[KH zb];exact h3,h4,h5.mono (ZQ n.g)⟩
 sep:=k.sep
 dp:=k.dp.map (λ_ _ _ q=>⟨q,rfl⟩) (λ_ ds q=>⟨ds,q,rfl⟩) λi p d v fp q s r w nn=>⟨r.mono (ZQ n.g) (.refl _),λb m=>⟨(w b m).1,by rw[KH (λz=>n.dp i p d v fp q s r (by rw[←z];exact m))];exact(w b m).2⟩⟩
theorem BP  (h:PE X e (tL X.K B G0 f)):PE X e (tD X.K B G0 (U7 Uz f)):=
 Kt h λσ H Q ⟨G,Z,k,a⟩=>by
  refine⟨G,Z,k,?_⟩;unfold U7 Ke at a;cases z:f Z with
  |bad=>rw[z]at a;exact a.elim
  |ok ds Z1=>rw[z]at a;intro ad vs G' H' k' s' n;exact a _ _ H' (k'.given n) (s'.trans (ZQ n.g)) (.lst (SqL.of Zp) (n.r.mono (ZQ n.g)))
theorem jR(hc:X.calm=w5):Y6 X (.builtin "all") (λxs H Q=>∃l,∃bs:List Bool,xs=[.ref l]/\SqL X.K H l (bs.map V.bl)/\Q (.bl (bs.all id)) H):=by
 intro pins s σ H xs us Q I rx h;obtain⟨l,bs,rfl,hq,q⟩:=h;obtain⟨u,rfl,ru⟩:=rx.one;cases ru;obtain⟨its,rv,p,hz⟩:=I.list hq;have hl:=p.isList;have hlt:l<s.heap.objs.size:=by obtain⟨_,e,_⟩:=id hl;exact Ql e
 have key:∀(i:Nat) v,its.toArray[i]?=O v->∃t,bs[i]?=O t/\v=.bool t:=λi v e=>by
  have e   :=by simpa using e
  have hi:i<bs.length:=by
   have:=(Qg.mp e).1;have h2:=rv.length;rw[Qb]at h2
   lia
  obtain⟨u,e2,r2⟩:=rv.get (i:=i) (x:=.bl bs[i]) (by rw[Qd,Qe hi];rfl);rw[e]at e2;cases e2;exact⟨bs[i],Qe hi,r2⟩
 refine call_all_walk (JI hl ?_)
 refine⟨s.heap.objs.size,[s.heap.objs.size,l],[s.heap.objs.size],its.toArray.size,_,_,λi=>(bs[i]?).getD w5,rfl,Walks.list (A:=X.A.in1) (I.ok.hd hc) _ l (QX hlt) its.toArray,
  ⟨⟨_,QD _ wZ,rfl,rfl⟩,hl.push _⟩,λi v s' Q' E' hP hQ=>?_,λh' tk hk=>?_⟩
 .obtain⟨b,e,rfl⟩:=key i v hP
  simp only[e]at hQ;exact Q4 hQ
 .have hn:its.toArray.size=bs.length:=by have:=rv.length;rw[List.length_map]at this;simp;lia
  have e:((Ux its.toArray.size).all λi=>(bs[i]?).getD w5)=bs.all id:=by
   rw[hn,Jr,Je,Je];constructor
   .intro h b hb
    obtain⟨i,hi,e⟩:=List.getElem_of_mem hb;have:=h i (QZ.mpr hi);simp only[Qe hi,Option.getD_some,e]at this;exact this
   .intro h i hi
    have hi':=QZ.mp hi;simp only[Qe hi',Option.getD_some];exact h _ (JE hi')
  rw[e];exact⟨.bl (bs.all id),H,I.kept (t':=tk) λb x e=>hk b x (λhm=>by rw[Qu.mp hm]at e;exact Jv _ (Ql e)) (Qm _ e),rfl,q⟩
noncomputable def V6:w9->Option (List Bool)
 |[]=>O []
 |.bool b::r=>(V6 r).map (b :: ·)
 |_=>w4
theorem EN{K}{G}:∀{vs}{ds}{bs},Reps K G vs ds->V6 ds=O bs->vs=bs.map V.bl
 |_,_,bs,.nil,e=>by cases e;rfl
 |_,_,bs,.cons (d:=d) r t,e=>by
  cases d with
  |bool b=>
   unfold V6 at e;cases z:V6 _ with
   |none=>rw[z]at e;cases e
   |some cs=>rw[z]at e;cases e;rw[r.bl_inv,EN t z];rfl
  |_=>cases e
noncomputable def YB:w9->ya
 |[.list ds]=>(V6 ds).map λbs=>.bool (bs.all id)
 |_=>w4
theorem E1(hc:X.calm=w5):Y9 X (.builtin "all") YB:=by
 refine⟨_,jR hc,λvs G H ds d Q s r e k=>?_⟩;unfold YB at e;split at e
 .rename_i ds
  cases z:V6 ds with
  |none=>simp_all
  |some bs=>rw[z]at e;cases e;obtain⟨v,rfl,q⟩:=r.one_inv;obtain⟨l,ws,rfl,h1,r1⟩:=q.lst_inv;have hw:=EN r1 z;subst hw;exact⟨l,bs,rfl,s.seq h1,k _ G H (.refl s) (.bl _)⟩
 simp_all
noncomputable def Its(x:Str):It:=⟨λi _=>i<x.cps.size,λi H v H'=>H'=H/\∃c,x.cps[i]?=O c/\v=.str ⟨#[c]⟩,λi _=>x.cps.size<=i⟩
theorem jQ{P:Up}{w:World}{K:Frag}{tg:Us}(x:Str)(t:Tok)(it:Uq):Turn P w K tg (Its x) [it] it (λi h=>h.IsStrIter it (strIterType x) x t i) where
 mem:=by simp
 obj:=λi h st b hb=>by
  have e:b=it:=by simpa using hb
  subst e;obtain⟨o,e,c,d⟩:=st;exact⟨o,e,λv z=>by rw[d]at z;cases z⟩
 keep:=λi h h' st k=>by obtain⟨o,e,c,d⟩:=st;exact⟨o,k it (by simp) o e,c,d⟩
 item:=by
  intro X hP hw hK hc i pins s σ H E I hf st hg;subst hP hw hK;obtain⟨f0,f1,f2,f3,f4,f5⟩:=hf it (by simp);have hx:x.cps[i]?=O x.cps[i]:=Array.getElem?_eq_getElem hg
  have fin:∀h' tk(T:String),strIterType x=T->h'.IsStrIter it T x t (i+1)->Heap.SameBut it s.heap h'->["enumerate", "zip", "dict_itemiterator", "dict_reverseitemiterator", "odict_iterator", "itertools.zip_longest", "itertools.pairwise"].contains T=w6 ->
    ∃u,O (Value.str ⟨#[x.cps[i]]⟩ s.toks)=O u/\Uu (model X.prog X.w) X.A (letOwnedTupleGo tg (.ref it) u) (λ_ s2=>∃v H',Inv X pins σ H' s2/\RelV v u/\(Its x).yld i H v H'/\s2.heap.IsStrIter it (strIterType x) x t (i+1)/\∀b∈[it],H' b=w4) E {s with heap:=h',toks:=tk}:=by
   intro h' tk T eT st' sb hn;have I1   :=I.turned (t':=tk) (λb o hb e=>(sb.2 b hb).trans e) f0 f1 f3 f4 f5;obtain⟨o,e,c,d⟩:=id st';refine⟨_,rfl,Pv  e c d hn ⟨.str ⟨#[x.cps[i]]⟩,H,I1,⟨_,rfl⟩,⟨rfl,_,hx,rfl⟩,by rw[eT];exact st',λb hb=>(hf b hb).1⟩⟩
  cases ha:x.cps.all (· < 128)with
  |true=>
   have eT:strIterType x = "str_ascii_iterator" :=by simp[strIterType,ha]
   rw[eT]at st;exact wpAny_pyNext_ascii_item st hx λh' st' sb=>fin h' _ _ eT st' sb (by decide)
  |false=>
   have eT:strIterType x = "str_iterator" :=by simp[strIterType,ha]
   rw[eT]at st;exact wpAny_pyNext_wide_item st hx λh' st' sb=>fin h' _ _ eT st' sb (by decide)
 done:=by
  intro X hP hw hK hc i pins s σ H E I hf st hg;subst hP hw hK;obtain⟨f0,f1,f2,f3,f4,f5⟩:=hf it (by simp);have hx:x.cps[i]?=w4:=Array.getElem?_eq_none hg;cases ha:x.cps.all (· < 128)with
  |true=>
   have eT:strIterType x = "str_ascii_iterator" :=by simp[strIterType,ha]
   rw[eT]at st;exact wpAny_pyNext_ascii_end (I.ok.hd hc) st hx λh' eb=>⟨rfl,I.turned (t':=s.toks) (λb o hb e=>eb b o hb e) f0 f1 f3 f4 f5⟩
  |false=>
   have eT:strIterType x = "str_iterator" :=by simp[strIterType,ha]
   rw[eT]at st;exact wpAny_pyNext_wide_end (I.ok.hd hc) st hx λh' eb=>⟨rfl,I.turned (t':=s.toks) (λb o hb e=>eb b o hb e) f0 f1 f3 f4 f5⟩
 self:=λA i s Q E st h=>by
  cases ha:x.cps.all (· < 128)with
  |true=>
   have eT:strIterType x = "str_ascii_iterator" :=by simp[strIterType,ha]
   rw[eT]at st;exact wpAny_pyIter_striter_ascii st h
  |false=>
   have eT:strIterType x = "str_iterator" :=by simp[strIterType,ha]
   rw[eT]at st;exact wpAny_pyIter_striter_wide st h
noncomputable def iAny(K:Frag)(tl:TE):TI:=λσ H R=>tl σ H λx H1=>(∃a,x=.ref a/\(∃xs,SqL K H1 a xs)/\R (Itl K a) H1)∨(∃a,x=.ref a/\(∃xs,SqT K H1 a xs)/\R (Itt K a) H1) ∨ ∃z,x=.str z/\R (Its z) H1
theorem D2{l:Us}{tl:TE}(hl:PE X l tl):PI X tg l (iAny X.K tl):=by
 intro pins s σ H R I h;refine thn (hl pins s σ H _ I h) λv s1 ⟨x,H1,I1,r1,q1⟩=>?_
 have fpOk:∀b∈[s1.heap.objs.size],ZO X pins H1 b:=λb hb=>by
  have e   :=by simpa using hb
  subst e;exact I1.fpOk (Qv _) (I1.hok.fresh (Qv _))
 rcases q1 with ⟨a,e,⟨xs,hq⟩,q⟩|⟨a,e,⟨xs,hq⟩,q⟩|⟨z,e,q⟩
 .subst e
  cases r1;obtain⟨its,rv,p,hz⟩:=I1.list hq;refine JI p.isList ?_;exact⟨s1.heap.objs.size,[s1.heap.objs.size],_,_,H1,rfl,I1.kept (t':=s1.toks) λb o e=>Qm _ e,xy a _,⟨_,QD _ wZ,rfl,rfl⟩,fpOk,q⟩
 .subst e
  cases r1;obtain⟨its,rv,p,hz⟩:=I1.tuple hq;refine wpAny_pyIter_tuple p ?_;exact⟨s1.heap.objs.size,[s1.heap.objs.size],_,_,H1,rfl,I1.kept (t':=s1.toks) λb o e=>Qm _ e,vK a _,⟨_,QD _ wZ,rfl,rfl⟩,fpOk,q⟩
 .subst e
  obtain⟨t,rfl⟩:=r1;refine wpAny_pyIter_strU ?_;exact⟨s1.heap.objs.size,[s1.heap.objs.size],_,_,H1,rfl,I1.kept (t':=s1.toks) λb o e=>Qm _ e,jQ z t _,⟨_,QD _ wZ,rfl,rfl⟩,fpOk,q⟩
noncomputable def RL(z:Str):w9:=z.cps.toList.map λc=>.str ⟨#[c]⟩
noncomputable def Nr:D->Option w9
 |.list ds=>O ds
 |.tuple ds=>O ds
 |.str z=>O (RL z)
 |_=>w4
theorem wn{K}{G1}{ad}{vs}{ds}(h:SqT K G1 ad vs)(r:Reps K G1 vs ds):Wj K (Itt K ad) ds G1 where
 go:=λi G H s1 s2 hi=>by
  have hi':i<vs.length:=by rw[r.length];simp_all
  exact⟨vs,vs[i],Xl (s1.trans s2) h,Qe hi'⟩
 stop:=λi G H s1 s2 hi=>⟨vs,Xl (s1.trans s2) h,by rw[r.length];simp_all⟩
 yld:=λi G H x H' d s1 s2 e y=>by obtain⟨rfl,y⟩:=y;obtain⟨v,e1,r1⟩:=r.get e;have:=y vs (Xl (s1.trans s2) h);rw[e1]at this;cases this;exact⟨G,.refl s2,r1.mono s1⟩
theorem kI{K}{G1}{z}:Wj K (Its z) (RL z) G1 where
 go:=λi G H s1 s2 hi=>by unfold RL at hi;simpa[Its]using hi
 stop:=λi G H s1 s2 hi=>by unfold RL at hi;simpa[Its]using hi
 yld:=λi G H x H' d s1 s2 e y=>by
  obtain⟨rfl,c,hc,rfl⟩:=y;unfold RL at e;rw[Qd]at e;have:z.cps.toList[i]?=O c:=by simp_all
  rw[this]at e;cases e;exact⟨G,.refl s2,.str _⟩
noncomputable def KW(f:M D):M w9:=Ke f λx=>Kf (Nr x)
theorem O0  (h:PE X e (tD X.K B G0 f)):PI X tg e (iD X.K B G0 (KW f)):=Wp (D2 h) λσ H R q=>tM.toI  q λv H' G' Z' x k r a=>by
 cases x with
 |list ds=>obtain⟨ad,vs,rfl,h1,r1⟩:=r.lst_inv;exact .inl ⟨ad,rfl,⟨vs,k.gh.seq h1⟩,a _ G' H' k (.refl _) (vE h1 r1)⟩
 |tuple ds=>obtain⟨ad,vs,rfl,h1,r1⟩:=r.tup_inv;exact .inr (.inl ⟨ad,rfl,⟨vs,Xl k.gh h1⟩,a _ G' H' k (.refl _) (wn h1 r1)⟩)
 |str z=>have:=r.str_inv;subst this;exact .inr (.inr ⟨z,rfl,a _ G' H' k (.refl _) kI⟩)
 |_=>exact a.elim
noncomputable def inS(i j:Str):Bool:=!(Builtin.Str.occurrences j i 0 j.length 1).isEmpty
noncomputable def oInS:D->D->yl
 |.str i,.str j=>O (inS i j)
 |_,_=>w4
noncomputable def MR:D->D->yl
 |.str i,.str j=>O (!inS i j)
 |_,_=>w4
theorem DQ:OpB X (Uw .In) oInS:=⟨_,ve,λv u G H x y d Q s rx ry e k=>by
 unfold oInS at e;split at e
 .cases e
  have:=rx.str_inv;subst this;have:=ry.str_inv;subst this;exact⟨_,_,rfl,rfl,k⟩
 simp_all⟩
theorem D1:OpB X (Uw .NotIn) MR:=⟨_,wM,λv u G H x y d Q s rx ry e k=>by
 unfold MR at e;split at e
 .cases e
  have:=rx.str_inv;subst this;have:=ry.str_inv;subst this;exact⟨_,_,rfl,rfl,k⟩
 simp_all⟩
theorem DP   (hg:Gl X x)(hm:∃t,X.mg x=O (.int i t))(hd:(x==("__debug__" : Str))=w6:=by decide):PE X (.Name x pos) (tD X.K B G0 (UT (.int i))):=by obtain⟨t,hm⟩:=hm;exact Kt (HR (v:=.int i) hg hm ⟨t,rfl⟩ hd) λσ H Q ⟨G,Z,k,a⟩=>aft.now a k (.int _)
end
section
variable{X:Cx}{B G0:Hp}{KX:XW}{e o a b c tg i:Us}{pos p2:Pos}{es rest:yb}{te to ti:TE}
noncomputable def D0(te to ti:TE):TS:=λD σ H=>te σ H λv H1=>to σ H1 λx H2=>ti σ H2 λk H3=>∃l xs n,x=.ref l/\H3 l=O (.lst xs)/\k=.int n/\0<=n/\n<xs.length/\D.nx σ (upd H3 l (.lst (xs.set n.toNat v)))
theorem jP(he:PE X e te)(ho:PE X o to)(hi:PE X i ti)(hs:swapsWith e (O (.Subscript o i p2)) pos.line X.env=pure w6:=by rfl):PS X (.Assign [.Subscript o i p2] e pos) (D0 te to ti):=by
 intro pins s σ H D I h;refine wpAny_Assign_Subscript (thn (he pins s σ H _ I h) λv s1 ⟨x,H1,I1,r1,q1⟩=>thn (ho pins s1 σ H1 _ I1 q1) λov s2 ⟨y,H2,I2,r2,q2⟩=>thn (hi pins s2 σ H2 _ I2 q2) λiv s3 ⟨k,H3,I3,r3,q3⟩=>?_) hs;obtain⟨l,xs,n,rfl,hl,rfl,h0,h1,q⟩:=q3;cases r2;obtain⟨t,rfl⟩:=r3;obtain⟨z,its,m,r,hlen,ee⟩:=I3.lstM hl
 refine PySem.W.ki_setAt (items:=its.toArray) (n:=m) ee h0 (by
                                  have:Ut<2 ^ 63:=by decide
                                  lia) (by simp;lia) ?_
 refine⟨σ,_,I3.lset     hl ee (by simp) (r.set r1 n.toNat) (by rw[List.length_set];exact z),q⟩
noncomputable def VN(j:Nat)(g f:M D):SM:=sB f λd Z1=>match Z1[j]? with
 |some (O (.own _))=>sB g (λy Z2=>match y with
  |.int k=>(match Z2[j]? with
   |some (O (.own ds))=>if 0<=k/\k<ds.length then .nx (Z2.set j (O (.own (ds.set k.toNat d))))else .bad
   |_=>.bad)
  |_=>.bad) Z1
 |_=>.bad
theorem Hz  {f g:M D}(he:PE X e (tD X.K B G0 f))(ho:PE X o (Zg j))(hi:PE X i (tD X.K B G0 g))(hs:swapsWith e (O (.Subscript o i p2)) pos.line X.env=pure w6:=by rfl) :
  PS X (.Assign [.Subscript o i p2] e pos) (tS X.K B G0 KX (VN j g f)):=
 ZG (jP he ho hi hs) λD σ H q=>tS.bnd  q λv H1 G1 Z1 d k r a=>by
  cases q0:Z1[j]? with
  |none=>rw[q0]at a;exact a.elim
  |some o0=>
   cases o0 with
   |none=>rw[q0]at a;exact a.elim
   |some sl0=>
    cases sl0 with
    |deep _ _=>rw[q0]at a;exact a.elim
    |pub d=>rw[q0]at a;exact a.elim
    |own zu=>
     rw[q0]at a;obtain⟨ad,vs0,h1,h2,h3,h4,h5⟩:=k.own j zu q0;refine⟨.ref ad,h1,G1,Z1,k,?_⟩;dsimp only at a;unfold sB at a;cases z:g Z1 with
     |bad=>rw[z]at a;exact a.elim
     |ok y Z2=>
      rw[z]at a;dsimp only at a;intro kv G' H' k' s' r';cases y with
      |int n=>
       cases q:Z2[j]? with
       |none=>rw[q]at a;exact a.elim
       |some oo=>
        cases oo with
        |none=>rw[q]at a;exact a.elim
        |some sl=>
         cases sl with
         |deep _ _=>rw[q]at a;exact a.elim
         |pub d=>rw[q]at a;exact a.elim
         |own ds=>
          rw[q]at a;dsimp only at a;split at a
          .rename_i hn
           obtain⟨ad',vs,g1,g2,g3,g4,g5⟩:=k'.own j ds q;rw[h1]at g1;cases g1;refine⟨ad,vs,n,rfl,g4,r'.int_inv,hn.1,by rw[g5.length];exact hn.2,?_⟩;exact a σ G' _ (k'.change q h1 (g5.set (r.mono s') n.toNat)) s'
          .exact a.elim
      |_=>exact a.elim
noncomputable def XT(z:Str)(lo hi:yd):Str:=if(Builtin.Str.strSliceIndices lo hi 1 z.length).length=z.length then z else⟨((Builtin.Str.strSliceIndices lo hi 1 z.length).filterMap (z.cps[·]?)).toArray⟩
theorem DZ:SlR X (λx lo hi H Q=>∃z,x=.str z/\(XT z lo hi).length<=Ut/\Q (.str (XT z lo hi)) H):=by
 intro pins s σ H x v vl vu lo hi sl Q I rx hs pl pu h;obtain⟨z,rfl,hz,q⟩:=h;obtain⟨t,rfl⟩:=rx;refine⟨"str", _,F.slot_str_getitem.lookup,typeIs_str s z t,?_⟩
 obtain⟨l,el,e1⟩:∃l:Option (Int×Tok),vl=partValue l/\l.map (·.1)=lo:=by
  cases pl with
  |none=>exact⟨w4,rfl,rfl⟩
  |int k t'=>exact⟨O (k,t'),rfl,rfl⟩
 obtain⟨u,eu,e2⟩:∃u:Option _,vu=partValue u/\u.map (·.1)=hi:=by
  cases pu with
  |none=>exact⟨w4,rfl,rfl⟩
  |int k t'=>exact⟨O (k,t'),rfl,rfl⟩
 subst el eu;refine wpAny_getItem_str_slice (l:=l) (u:=u) (st:=w4) hs wZ ?_;unfold sliceMade slicePicked;rw[e1,e2];unfold XT at hz q;by_cases hw:(Builtin.Str.strSliceIndices lo hi 1 z.length).length=z.length
 .rw[Qp hw]at hz q
  rw[if_pos (by simp[hw])];exact⟨.str z,H,I,⟨t,rfl⟩,q⟩
 .rw[Qw hw]at hz q
  rw[if_neg (by simp[hw])];exact⟨hz,.str _,H,I.tok _,⟨_,rfl⟩,q⟩
end
section
variable{X:Cx}{B G0:Hp}{KX:XW}{e o a b c tg i:Us}{pos p2:Pos}{es rest:yb}{te to ti:TE}
theorem pvb(i){x}{pos}{N'}{scope}{cl}{C}{s₀}{H₀}{ex}(hN:N'[i]?=O x:=by rfl)
  (h:visK (scope.names.lookup x)=w5:=by rfl) (hd:(x==("__debug__" : Str))=w6:=by decide) (hcd:(x==("__classdict__" : Str))=w6:=by decide) :
  PE (X.blk N' scope cl C s₀ H₀ ex) (.Name x pos) (Zg i):=LH hN (BR h) hd hcd
noncomputable def Yz:D->yd->yd->ya
 |.list xs,lo,hi=>O (.list (DL.cutD xs lo hi))
 |.str z,lo,hi=>if(XT z lo hi).length<=1000000 then O (.str (XT z lo hi))else w4
 |_,_,_=>w4
noncomputable def ZX(f:M D)(lo hi:M yd):M D:=Ke f λx=>Ke lo λl=>Ke hi λh=>Kf (Yz x l h)
theorem vB{lo hi:Option Us}{f:M D}{l h}(he:PE X e (tD X.K B G0 f))(hl:PO X lo (tOi X.K B G0 l))(hu:PO X hi (tOi X.K B G0 h)) :
  PE X (.Subscript e (.Slice lo hi w4 p2) pos) (tD X.K B G0 (ZX f l h)):=
 Kt (jB (AS.or DZ) he hl hu) λσ H Q q=>by
  refine tM.one (R:=Rep X.K) q λv H2 G Z x k r a=>?_;refine tM.nx  k a λl' H3 G3 Z3 xl k3 s3 r3 a3=>?_;refine tM.nx  k3 a3 λh' H4 G4 Z4 xh k4 s4 r4 a4=>?_;subst r3 r4;unfold Kf Yz at a4
  cases x with
  |list xs=>obtain⟨ad,vs,rfl,h1,r1⟩:=((r.mono s3).mono s4).lst_inv;exact .inl ⟨ad,vs,rfl,k4.gh.seq h1,λp hp=>aft.done a4 k4 (Ext.new k4.gh hp) (.lst (SqL.of Zp) ((r1.cut l' h').mono (ZQ (k4.gh.free hp))))⟩
  |str z=>
   dsimp only at a4;have:=r.str_inv;subst this;by_cases hc:(XT z l' h').length<=1000000
   .rw[Qp hc]at a4
    exact .inr ⟨z,rfl,QN hc lim,aft.now a4 k4 (.str _)⟩
   .rw[Qw hc]at a4;exact a4.elim
  |_=>exact a4.elim
end
section
variable{X:Cx}{B G0:Hp}{e o a b c tg:Us}{pos p2:Pos}{es rest:yb}{te to ti:TE}
noncomputable def Zi{β:Type}(p:D->D->Option β)(i:Nat)(g:M D):M β:=λZ=>match Z[i]? with
 |some (O (.pub d))=>(Ke g λy=>Kf (p d y)) Z
 |some (O (.own _))=>(Ke g λy=>λZ'=>match Z'[i]? with|some (O (.own ds))=>Kf (p (.list ds) y) Z'|_=>.bad) Z
 |_=>.bad
theorem MQ{K}{σ:St}{H:Hp}{p}{r:R2}{i:Nat}{g:M D}{Q}{QV:VK}(hq:∀t H3,Q t H3->QV (.bl t) H3)(hr:∀v u G H x y d Q,Same G H->Rep K G v x->Rep K G u y->p x y=O d->Q (.bl d) H->r v u H Q)
  (q:tBo K B G0 (Zi p i g) σ H Q):Zg i σ H λx H1=>tD K B G0 g σ H1 λy H2=>r x y H2 QV:=by
 obtain⟨G,Z,k,a⟩:=q;unfold Zi at a;cases q:Z[i]? with
 |none=>rw[q]at a;exact a.elim
 |some o=>
  cases o with
  |none=>rw[q]at a;exact a.elim
  |some sl=>
   cases sl with
   |deep _ _=>rw[q]at a;exact a.elim
   |pub d=>
    rw[q]at a;obtain⟨v,h1,h2⟩:=k.pub i d q;refine⟨v,h1,G,Z,k,?_⟩;dsimp only[Ke]at a;cases z:g Z with
    |bad=>rw[z]at a;exact a.elim
    |ok y Z1=>rw[z]at a;intro u G' H' k' s' r';obtain⟨d',e',a'⟩:=aft.opt a;exact hr v u G' H' d y d' _ k'.gh (h2.mono s') r' e' (hq _ _ (a' d' G' H' k' s' wZ))
   |own ds=>
    rw[q]at a;obtain⟨ad,vs,h1,h2,h3,h4,h5⟩:=k.own i ds q;refine⟨.ref ad,h1,G,Z,k,?_⟩;dsimp only[Ke]at a;cases z:g Z with
    |bad=>rw[z]at a;exact a.elim
    |ok y Z1=>
     rw[z]at a;dsimp only at a;intro u G' H' k' s' r';cases q1:Z1[i]? with
     |none=>rw[q1]at a;exact a.elim
     |some oo=>
      cases oo with
      |none=>rw[q1]at a;exact a.elim
      |some sl1=>
       cases sl1 with
       |deep _ _=>rw[q1]at a;exact a.elim
       |pub d1=>rw[q1]at a;exact a.elim
       |own ds1=>
        rw[q1]at a;obtain⟨ad',ws,g1,g2,g3,g4,g5⟩:=k'.own i ds1 q1;rw[h1]at g1;cases g1;obtain⟨d',e',a'⟩:=aft.opt a;have sg:Same G' (upd G' ad (.lst ws)):=ZQ g3
        have sh:Same (upd G' ad (.lst ws)) H':=λb o q=>by
         by_cases z:b=ad
         .subst z;rw[Zp]at q;cases q;exact g4
         .rw[KH z]at q;exact k'.gh b o q
        exact hr (.ref ad) u _ H' (.list ds1) y d' _ sh (.lst (SqL.of Zp) (g5.mono sg)) (r'.mono sg) e' (hq _ _ (a' d' G' H' k' s' wZ))
theorem BO     (o:OpB X (Uw op) p)(ha:PE X a (Zg i))(hb:PE X b (tD X.K B G0 g))(hm:behindInMarks op b=w6) :
  PT X (.Compare a [op] [b] pos) (tBo X.K B G0 (Zi p i g)):=by
 obtain⟨r,h,j⟩:=o;exact Yo (Nn h ha hb hm) λσ H Q q=>MQ (λt H3 z=>⟨t,rfl,z⟩) j q
theorem BN     (o:OpB X (Uw op) p)(ha:PE X a (Zg i))(hb:PE X b (tD X.K B G0 g))(hm:behindInMarks op b=w6) :
  PE X (.Compare a [op] [b] pos) (tD X.K B G0 (U7 UA (Zi p i g))):=by
 obtain⟨r,h,j⟩:=o;exact Kt (HY h ha hb hm) λσ H Q q=>MQ (λt H3 z=>z) j (tBo.val q)
end
end DL
namespace L2
open PySem PySem.Spec PyProof.Rows
end L2
namespace DL
open PySem PySem.Spec L2
open PyProof.Rows hiding St
section
variable{X:Cx}{B G0:Hp}{e o a b c tg:Us}{pos p2 p3:Pos}{es rest:yb}{te to ti:TE}
noncomputable def oIn:D->D->yl
 |.str i,.str j=>O (inS i j)
 |x,.list xs=>if x.canLay0=w5/\UD xs=w5/\x.depth<=60 then O (xs.any λy=>UF y x)else w4
 |x,.tuple xs=>if x.canLay0=w5/\UD xs=w5/\x.depth<=60 then O (xs.any λy=>UF y x)else w4
 |_,_=>w4
noncomputable def Zw(x y:D):yl:=(oIn x y).map λt=>!t
noncomputable def XS(x y:D):yl:=match y with
 |.list xs=>if x.canLay0=w5/\UD xs=w5/\x.depth<=60 then O (xs.any λy=>UF y x)else w4
 |.tuple xs=>if x.canLay0=w5/\UD xs=w5/\x.depth<=60 then O (xs.any λy=>UF y x)else w4
 |_=>w4
theorem DO(hu:X.A.units+64<cLine):OpB X (Uw .In) XS:=by
 refine⟨λv u H Q=>∃G x y d,Same G H/\Rep X.K G v x/\Rep X.K G u y/\XS x y=O d/\Q _ H,?_,λv u G H x y d Q s rx ry e k=>⟨G,x,y,d,s,rx,ry,e,k⟩⟩;intro pins s σ H x y v u Q I rx ry ⟨G,dx,dy,d,sg,px,py,e,q⟩;unfold XS at e;split at e
 .split at e
  .rename_i c
   cases e;obtain⟨as,ra⟩:=Xb I sg px rx c.1;obtain⟨bs,rb⟩:=Xb I sg py ry (c.2.1);exact SeqAt.in_list_reads rb ra c.2.1 c.1 (by have:=c.2.2;lia) ⟨.bl _,H,I,rfl,q⟩
  simp_all
 .split at e
  .rename_i c
   cases e;obtain⟨as,ra⟩:=Xb I sg px rx c.1;obtain⟨bs,rb⟩:=Xb I sg py ry (c.2.1);exact SeqAt.in_tuple_reads rb ra c.2.1 c.1 (by have:=c.2.2;lia) ⟨.bl _,H,I,rfl,q⟩
  simp_all
 simp_all
theorem DY(hu:X.A.units+64<cLine):OpB X (Uw .NotIn) (λx y=>(XS x y).map λt=>!t):=by
 refine⟨λv u H Q=>∃G x y d,Same G H/\Rep X.K G v x/\Rep X.K G u y/\(XS x y).map _=O d/\Q _ H,?_,λv u G H x y d Q s rx ry e k=>⟨G,x,y,d,s,rx,ry,e,k⟩⟩;intro pins s σ H x y v u Q I rx ry ⟨G,dx,dy,d,sg,px,py,e,q⟩;unfold XS at e;split at e
 .split at e
  .rename_i c
   cases e;obtain⟨as,ra⟩:=Xb I sg px rx c.1;obtain⟨bs,rb⟩:=Xb I sg py ry (c.2.1);exact SeqAt.notIn_list_reads rb ra c.2.1 c.1 (by have:=c.2.2;lia) ⟨.bl _,H,I,rfl,q⟩
  simp_all
 .split at e
  .rename_i c
   cases e;obtain⟨as,ra⟩:=Xb I sg px rx c.1;obtain⟨bs,rb⟩:=Xb I sg py ry (c.2.1);exact SeqAt.notIn_tuple_reads rb ra c.2.1 c.1 (by have:=c.2.2;lia) ⟨.bl _,H,I,rfl,q⟩
  simp_all
 simp_all
theorem B_in(hu:X.A.units+64<cLine):OpB X (Uw .In) oIn:=(DQ.or (DO hu)).congr λx y=>by cases x<;>cases y<;>rfl
theorem DN(hu:X.A.units+64<cLine):OpB X (Uw .NotIn) Zw:=(D1.or (DY hu)).congr λx y=>by cases x<;>cases y<;>rfl
theorem kH  {lo hi:Option Us}{st:Us}(he:PE X e te)(hl:PO X lo tl)(hu:PO X hi th)(hst:PO X (O st) ts):PE X (.Subscript e (.Slice lo hi (O st) p2) pos)
  (λσ H Q=>te σ H λx H1=>tl σ H1 λl H2=>th σ H2 λu H3=>ts σ H3 λt H4=>∃a xs,x=.ref a/\SqL X.K H4 a xs/\l=w4/\u=w4/\t=O (-1)/\∀p,H4 p=w4->Q (.ref p) (upd H4 p (.lst xs.reverse))):=by
 intro pins s σ H Q I h;refine Subscript_ (thn (he pins s σ H _ I h) λv s1 ⟨x,H1,I1,r1,q1⟩=>?_);refine wpAny_Slice (thn (hl pins s1 σ H1 _ I1 q1) λvl s2 ⟨l,H2,I2,pl,q2⟩=>thn (hu pins s2 σ H2 _ I2 q2) λvu s3 ⟨u,H3,I3,pu,q3⟩=>thn (hst pins s3 σ H3 _ I3 q3) λvt s4 ⟨t,H4,I4,pt,q4⟩=>?_);obtain⟨a,xs,rfl,hx,rfl,rfl,rfl,q⟩:=q4;cases r1;have I5:Inv X pins σ H4 {s4 with heap:=s4.heap.push {cls:=.type "slice", data:=.fields #[vl,vu,vt]}}:=I4.kept (t':=s4.toks) λb ob q=>Qm _ q
 obtain⟨its,r,ht,hz⟩:=I5.list hx;have hlen:=r.length;have hg:Uu (model X.prog X.w) X.A (getItem (.ref a) (.ref s4.heap.objs.size)) (EP X pins σ Q) X.xe {s4 with heap:=s4.heap.push {cls:=.type "slice", data:=.fields #[vl,vu,vt]}}:=by refine wpAny_getItem_list_slice ht.isList (Heap.IsSliceOf.new ..) pl pu pt (by simp) ?_ (by rw[List.size_toArray]<;>lia);rw[PySem.W.krv_pick];refine⟨.ref _,_,I5.laid   (λb ob q=>Qm _ q) (Qv _) ?_,rfl,q _ (I5.hok.fresh (Qv _))⟩;exact⟨by rw[Jn];exact hz,its.reverse,0,r.reverse,QD _ wZ⟩
 exact tail_any  ht.isList.typeIs slot_list_getitem.lookup hg (by with_unfolding_all rfl)
noncomputable def Tt:D->yd->yd->yd->ya
 |.list xs,w4,w4,O i=>if i = -1 then O (.list xs.reverse)else w4
 |_,_,_,_=>w4
noncomputable def SA(f:M D)(lo hi st:M yd):M D:=Ke f λx=>Ke lo λl=>Ke hi λh=>Ke st λt=>Kf (Tt x l h t)
theorem BM{lo hi}{st:Us}{f:M D}{l h t}(he:PE X e (tD X.K B G0 f))(hl:PO X lo (tOi X.K B G0 l))(hu:PO X hi (tOi X.K B G0 h))(hst:PO X (O st) (tOi X.K B G0 t)) :
  PE X (.Subscript e (.Slice lo hi (O st) p2) pos) (tD X.K B G0 (SA f l h t)):=
 Kt (kH he hl hu hst) λσ H Q q=>by
  refine tM.one  q λv H2 G Z x k r a=>?_;refine tM.nx  k a λl' H3 G3 Z3 xl k3 s3 r3 a3=>?_;refine tM.nx  k3 a3 λh' H4 G4 Z4 xh k4 s4 r4 a4=>?_;refine tM.nx  k4 a4 λt' H5 G5 Z5 xt k5 s5 r5 a5=>?_;subst r3 r4 r5
  cases x with
  |list xs=>
   cases l' with
   |some _=>exact a5.elim
   |none=>
   cases h' with
   |some _=>exact a5.elim
   |none=>
   cases t' with
   |none=>exact a5.elim
   |some i=>
   obtain⟨ad,vs,rfl,h1,r1⟩:=(((r.mono s3).mono s4).mono s5).lst_inv;by_cases hi:i = -1
   .subst hi
    exact⟨ad,vs,rfl,k5.gh.seq h1,rfl,rfl,rfl,λp hp=>aft.done a5 k5 (Ext.new k5.gh hp) (.lst (SqL.of Zp) (r1.reverse.mono (ZQ (k5.gh.free hp))))⟩
   .unfold Kf Tt at a5
    dsimp only at a5;rw[Qw hi]at a5;exact a5.elim
  |_=>exact a5.elim
noncomputable def Te:w9->Option w9
 |[.list xs]=>O xs
 |[.tuple xs]=>O xs
 |_=>w4
theorem kG  (h:Te x=O l):x=[.list l]∨x=[.tuple l]:=by
 unfold Te at h;split at h
 .cases h;exact .inl wZ
 .cases h;exact .inr wZ
 simp_all
theorem vA:bootBuiltins "list" = O (.type "list"):=by decide +kernel
noncomputable def VX(i:Nat):M w9:=λZ=>match Z[i]? with
 |some (O (.pub d))=>Kf (Te [d]) Z
 |some (O (.own ds))=>.ok ds Z
 |_=>.bad
theorem kF  (hg:Gl X "list")(hm:X.mg "list" = w4)(ho:PE X a (Zg i))(he:Uv [a] X.env=(w6,eval a X.env)::Uv [] X.env:=by rfl) :
  PE X (.Call (.Name "list" p2) [a] [] pos) (tL X.K B G0 (VX i)):=
 Kt (MB wA hg hm vA (Tl ho SZ he) (by decide) (by decide) he wZ) λσ H Q ⟨G,Z,k,q⟩=>by
  unfold VX at q;cases z:Z[i]? with
  |none=>rw[z]at q;exact q.elim
  |some oo=>
   cases oo with
   |none=>rw[z]at q;exact q.elim
   |some sl=>
    cases sl with
    |deep _ _=>rw[z]at q;exact q.elim
    |own ds=>rw[z]at q;obtain⟨ad,vs,h1,h2,h3,h4,h5⟩:=k.own i ds z;exact⟨.ref ad,h1,ad,vs,rfl,.inl (SqL.of h4),λl hp=>q l vs G _ (k.ext (Ext.hid k.gh hp)) (.refl _) (NewL.of k hp h5)⟩
    |pub d=>
     rw[z]at q;dsimp only[Kf]at q;obtain⟨v,h1,h2⟩:=k.pub i d z;cases z2:Te [d]with
     |none=>rw[z2]at q;exact q.elim
     |some l=>
      rcases kG z2 with e|e
      .cases e
       obtain⟨p,ws,rfl,g1,r1⟩:=h2.lst_inv;exact⟨_,h1,p,ws,rfl,.inl (k.gh.seq g1),λad hp=>q ad ws G _ (k.ext (Ext.hid k.gh hp)) (.refl _) (NewL.of k hp r1)⟩
      .cases e
       obtain⟨p,ws,rfl,g1,r1⟩:=h2.tup_inv;exact⟨_,h1,p,ws,rfl,.inr (Xl k.gh g1),λad hp=>q ad ws G _ (k.ext (Ext.hid k.gh hp)) (.refl _) (NewL.of k hp r1)⟩
noncomputable def Ry:w9->ya
 |[.int i]=>O (.int i)
 |[.bool b]=>O (.int (if b then 1 else 0))
 |_=>w4
theorem DX:Y9 X (.type "int") Ry:=by
 refine⟨_,vc,λvs G H ds d Q s r e k=>?_⟩;unfold Ry at e;split at e
 .cases e
  obtain⟨v,rfl,q⟩:=r.one_inv;rw[q.int_inv];exact .inl ⟨_,rfl,k _ G H (.refl s) (.int _)⟩
 .cases e
  obtain⟨v,rfl,q⟩:=r.one_inv;rw[q.bl_inv];exact .inr ⟨_,rfl,k _ G H (.refl s) (.int _)⟩
 simp_all
theorem DM  {zs:List Str}(hg:Gl X x)(hm:∃ad o its n,X.mg x=O (.ref ad)/\X.K.lookup ad=O o/\o.cls=.type "tuple" /\ o.data=.seq its n/\its.size<=Ut/\Vals (zs.map V.str) its.toList)(hd:(x==("__debug__" : Str))=w6:=by decide) :
  PE X (.Name x pos) (tD X.K B G0 (UT (.tuple (zs.map UB)))):=by
 obtain⟨ad,o,its,n,hm,h1,h2,h3,h4,h5⟩:=hm;refine Kt (HR (v:=.ref ad) hg hm wZ hd) λσ H Q ⟨G,Z,k,a⟩=>aft.now a k (.tup (.inr ⟨o,its,n,h1,h2,h3,h4,h5⟩) ?_)
 have:∀zs:List Str,Reps X.K G (zs.map V.str) (zs.map UB):=λzs=>by
  induction zs with
  |nil=>exact .nil
  |cons z r ih=>exact .cons (.str _) ih
 simp_all
end
section
variable{X:Cx}{B G0:Hp}{e o a b c tg:Us}{pos p2 p3 p4:Pos}{es rest:yb}{te to ti:TE}
theorem Tb:∀{ns}{us},Vals (ns.map V.int) us->PyProof.Rows.IntsAre us ns
 |[],_,.nil=>.nil
 |n::ns,_,.cons h t=>by obtain⟨tk,rfl⟩:=h;exact .cons n tk (Tb t)
noncomputable def RK(ns:w8):Nat:=(PyProof.Rows.firstMet (λi=>ns.getD i 0) ns.length).length
theorem kE(hc:X.calm=w5):Y6 X (.type "set") (λxs H Q=>∃l,∃ns:w8,xs=[.ref l]/\SqL X.K H l (ns.map V.int)/\ns.length+1<4096/\∀S p,H p=w4->Q (.ref p) (upd H p (.set S (RK ns)))):=by
 intro pins s σ H xs us Q I rx h;obtain⟨l,ns,rfl,hq,hb,q⟩:=h;obtain⟨u,rfl,ru⟩:=rx.one;cases ru;obtain⟨its,rv,p,hz⟩:=I.list hq;have hi:=Tb rv;have hn:its.toArray.size=ns.length:=by have:=rv.length;grind
 refine call_set_list (I.ok.hd hc) p.isList  (by simpa using hi) (by rw[hn];exact hb) λh' tk hS hk=>?_
 rw[hn]at hS;refine⟨.ref s.heap.objs.size,_,I.laid  (λb o e=>hk b o (Ql e) e) (Qv _) (show Ys X.prog X.w _ h' _ (.set _ _)from hS),rfl,q _ _ (I.hok.fresh (Qv _))⟩
theorem kC:Y6 X (.builtin "len") (λxs H Q=>∃p S n,xs=[.ref p]/\H p=O (.set S n)/\Q (.int n) H):=by
 intro pins s σ H xs us Q I rx h;obtain⟨p,S,n,rfl,hp,q⟩:=h;obtain⟨u,rfl,ru⟩:=rx.one;cases ru;obtain⟨o,es,ep,t,h1,h2,h3,h4,h5,h6,h7,h8⟩:=(I.hok p _ hp)
 have hsb:scanBound=4096:=rfl;refine call_len_set h1 h2 h3 h7 (by lia) ?_;rw[h8];exact⟨.int n,H,I.tok _,⟨_,rfl⟩,q⟩
noncomputable def YV:w9->Option w8
 |[]=>O []
 |.int i::r=>(YV r).map (i :: ·)
 |_=>w4
theorem Pn{K}{G}:∀{vs}{ds}{ns},Reps K G vs ds->YV ds=O ns->vs=ns.map V.int
 |_,_,ns,.nil,e=>by cases e;rfl
 |_,_,ns,.cons (d:=d) r t,e=>by
  cases d with
  |int b=>
   unfold YV at e;cases z:YV _ with
   |none=>rw[z]at e;cases e
   |some cs=>rw[z]at e;cases e;rw[r.int_inv,Pn t z];rfl
  |_=>cases e
theorem Pd(ns):YV (ns.map int)=O ns:=by
 induction ns with
 |nil=>rfl
 |cons b r ih=>rw[Qt,YV,ih];rfl
noncomputable def WR:w9->ya
 |[.list ds]=>(match YV ds with
  |some ns=>if ns.length+1<4096 then O (.int (RK ns))else w4
  |none=>w4)
 |_=>w4
theorem wl   (h:WR xs=O d):∃ds ns,xs=[.list ds]/\YV ds=O ns/\ns.length+1<4096/\d=.int (RK ns):=by
 unfold WR at h;split at h
 .rename_i ds
  cases z:YV ds with
  |none=>simp_all
  |some ns=>simp_all
 simp_all
theorem kB:bootBuiltins "set" = O (.type "set"):=by decide +kernel
theorem vz  (hc:X.calm=w5)(hg:Gl X "len")(hm:X.mg "len" = w4)(hg2:Gl X "set")(hm2:X.mg "set" = w4)(ha:PA X [a] (tDs X.K B G0 f))(he:Uv [a] X.env=(w6,eval a X.env)::Uv [] X.env:=by rfl)
  (yQ:Uv [.Call (.Name "set" p2) [a] [] p3] X.env=(w6,eval (.Call (.Name "set" p2) [a] [] p3) X.env)::Uv [] X.env:=by rfl) :
  PE X (.Call (.Name "len" p4) [.Call (.Name "set" p2) [a] [] p3] [] pos) (tD X.K B G0 (ZB WR f)):=
 Kt (Oh kC hg hm boot_len (Tl (MB (kE hc) hg2 hm2 kB ha (by decide) (by decide) he wZ) SZ yQ) (by decide) (by decide) yQ wZ) λσ H Q q=>tM.one  q λvs H2 G Z x k r a=>by obtain⟨d,e,a⟩:=a.opt;obtain⟨ds,ns,rfl,z,c,rfl⟩:=wl e;obtain⟨v,rfl,q1⟩:=r.one_inv;obtain⟨l,ws,rfl,h1,r1⟩:=q1.lst_inv;have:=Pn r1 z;subst this;refine⟨l,ns,rfl,k.gh.seq h1,c,λS p hp=>⟨p,S,RK ns,rfl,Zp,?_⟩⟩;exact aft.done a k (Ext.hid k.gh hp) (.int _)
end
end DL
namespace L2
open PySem PySem.Spec PyProof.Rows
end L2
namespace DL
open PySem PySem.Spec L2
open PyProof.Rows hiding St
end DL
namespace L2
open PySem PySem.Spec PyProof.Rows
section
variable{prog:Up}{w:World}{A:Around}{E:Um->Uo->Prop}{s:Uo}{M:Model}{env:Env}
theorem BL  {T}{args}{kws}{Q}(hp:args.any (·.1)=w6)(hk:kws.any (·.1.isNone)=w6)
  (h:Uu M A (evalArgs (.type T) w5 args kws) (λa s1=>Uu M A (call (.type T) a.pos a.kw) Q E s1) E s):Uu M A (callWith pos (.type T) [] args kws) Q E s:=by
 refine Qf (wpAny_holding (QL h (λa s1 h1=>Qf (JA ?_)) λ_ _ z=>z));simp only[hp,hk];refine Qf (Qq ?_);exact Qf (QL h1 (λr s2 hr=>Qf (wpAny_holding (wpAny_point (Qq hr)))) λ_ _ z=>z)
theorem jO(l:Uq)(t:Tok)(items:Array Um)(n:Nat)(dct:yk)(sl) :
  Meets (Builtin.«enumerate.__new__» ⟨[.type "enumerate", .ref l],[("start", .int 1 t)]⟩) (λ_ R s=>s.heap.get? l=O ⟨.type "list", dct,.seq items n,sl⟩ /\
   R (.ok (.ret (.ref (s.heap.push {cls:=.type "list_iterator", data:=.fields #[.ref l,.int 0 0]}).objs.size))) {s with heap:=(s.heap.push {cls:=.type "list_iterator", data:=.fields #[.ref l,.int 0 0]}).push {cls:=.type "enumerate", data:=.fields #[.none,.bool w6,.ref s.heap.objs.size,rawInt 1,.none,.none]}}):=
 .of_wp λprog w A R s h=>by
  obtain⟨hl,h⟩:=h;have hsub:=sub_enumerate;have hL:Heap.IsList _ l items:=⟨_,hl,rfl,n,rfl⟩
  wp_walk using AutoSeq1.wpAny_loadPart' hl
  refine wpAny_stack_any λst=>(Qq ?_);split
  .rename_i c _ _ _ _ _
   cases (c==Value.type "enumerate")<;>(wp_walk using(AutoSeq1.wpAny_loadPart' hl),(JI hL))<;>exact⟨_,rfl,h⟩
  ·(wp_walk using(AutoSeq1.wpAny_loadPart' hl),(JI hL));exact⟨_,rfl,h⟩
theorem wH{T newId initId:String}{Bn Bi:Builtin}{args:yc}{kw:List (Str×Um)}{S:PySem.Spec}{Q Q1}(ft:TypeCalled T newId initId)
  (hct:checkTypeCall T ⟨args,kw⟩=pure ()) (hcn:checkBuiltinCall newId ⟨.type T::args,kw⟩=pure ()) (eN:entryFor table newId=O Bn) (eI:entryFor table initId=O Bi)
  (g:Meets (Bn ⟨.type T::args,kw⟩) S) (h:S A.in1 (wants Q1 E) s)
  (hnext:∀obj s1,Q1 obj s1->s1.TypeIs obj T/\argsOk initId ⟨obj::args,kw⟩/\∃Si,Meets (Bi ⟨obj::args,kw⟩) Si/\Si A.in1 (wants (λr s2=>r=.none/\Q obj s2) E) s1) :
  Uu (model prog w) A (call (.type T) args kw) Q E s:=by
 obtain⟨c,tl,hmro⟩:=ft.mro;have hmade:=ft.made;have hsub:=ft.sub;refine wpAny_call (codeAny_of_tree ?_);refine Qq ⟨Code.quiet_builtin _ (by decide +kernel),(codeAny_builtin F.entry_type_call ?_)⟩;have h1:=ft.notType;have h2:=ft.canCreate
 repeat' (any_goals (first|wp_step|assumption))
 refine codeAny_mono (codeAny_call_builtin ft.plain eN (wpAny_of_eq hcn (g prog w A.in1 _ s h))) λr s1 hr=>?_
 match r,hr with
 |.error e,hr=>exact hr
 |.ok (.ret obj),hr=>
  obtain⟨hT,hok,Si,gi,hsi⟩:=hnext _ _ hr;have hli:=ft.init.lookup;have hbi:=ft.init.bind obj
  repeat' (any_goals (first|wp_step|assumption))
  refine codeAny_mono (codeAny_call_builtin ft.init.plain eI (ft.init.check _ _ _ _ _ _ _ _ hT hok (gi prog w A.in1 _ s1 hsi))) λr2 s2 yA=>?_
  match r2,yA with
  |.error e,yA=>exact yA
  |.ok (.ret r),yA=>
   obtain⟨rfl,hq⟩:=yA
   repeat' (any_goals (first|wp_step|assumption))
  |.ok .next,yA=>exact yA.elim
  |.ok .brk,yA=>exact yA.elim
  |.ok .cont,yA=>exact yA.elim
 |.ok .next,hr=>exact hr.elim
 |.ok .brk,hr=>exact hr.elim
 |.ok .cont,hr=>exact hr.elim
theorem wk   {rest}{kw}(hl:typeLookup (.type T) "__init__" = pure (O (.builtin "object.__init__")))
  (hm:Bind.madeBy (.type T)=pure (O newId)) (hne:(O newId != O "object.__new__")=w5) :
  Meets (Builtin.«object.__init__» ⟨self::rest,kw⟩) (λ_ R s=>s.TypeIs self T/\R (.ok (.ret .none)) s):=by
 refine .of_wp λprog w A R s hs=>?_
 obtain⟨hT,hq⟩:=hs;cases rest with
 |nil=>
  cases kw with
  |nil=>exact Qq ⟨_,rfl,hq⟩
  |cons k kw=>(repeat' (any_goals (first|wp_step|assumption)));exact⟨_,rfl,hq⟩
 |cons a rest=>(repeat' (any_goals (first|wp_step|assumption)));exact⟨_,rfl,hq⟩
theorem wj(a)(t):checkTypeCall "enumerate" ⟨[a],[("start", .int 1 t)]⟩=pure ():=by kernel_rfl
theorem vy(a)(t):checkBuiltinCall "enumerate.__new__" ⟨[.type "enumerate", a],[("start", .int 1 t)]⟩=pure ():=by kernel_rfl
theorem wg(o a)(t):argsOk "object.__init__" ⟨[o,a],[("start", .int 1 t)]⟩:=by kernel_rfl
theorem vw{l:Uq}{items:Array Um}{t:Tok}{Q}(hL:s.heap.IsList l items)
  (h:∀h',IsEnum h' (s.heap.objs.size+1) s.heap.objs.size 1 .none->h'.IsListIter s.heap.objs.size l 0->(∀b o,s.heap.get? b=O o->h'.get? b=O o)->Q (.ref (s.heap.objs.size+1)) {s with heap:=h'}) :
  Uu (model prog w) A (call (.type "enumerate") [.ref l] [("start", .int 1 t)]) Q E s:=by
 obtain⟨⟨c,dct,dt,sl⟩,hl,hc,n,hd⟩:=hL;subst hc hd;have hz:(s.heap.push {cls:=.type "list_iterator", data:=.fields #[.ref l,.int 0 0]}).objs.size=s.heap.objs.size+1:=JH ..;have he:IsEnum ((s.heap.push {cls:=.type "list_iterator", data:=.fields #[.ref l,.int 0 0]}).push {cls:=.type "enumerate", data:=.fields #[.none,.bool w6,.ref s.heap.objs.size,rawInt 1,.none,.none]}) (s.heap.objs.size+1) s.heap.objs.size 1 .none:=by rw[←hz];exact QD _ wZ
 refine wH F.called_enumerate (wj _ t) (vy _ t) F.entry_enumerate_new F.entry_object_init (jO l t items n dct sl) (Q1:=λobj s1=>s1.TypeIs obj "enumerate" /\ Q obj s1) ⟨hl,?_⟩ λobj s1 hq=>
  ⟨hq.1,wg obj _ t,_,wk F.called_enumerate.init.lookup F.called_enumerate.made (by decide),hq.1,rfl,hq.2⟩
 rw[hz];exact⟨⟨_,he,rfl⟩,h _ he ⟨_,Qm _ (QD _ wZ),rfl,rfl⟩ λb o x=>Qm _ (Qm _ x)⟩
end
section
variable{prog:Up}{w:World}{A:Around}{E:Um->Uo->Prop}{s:Uo}
theorem kA{en it l:Uq}{i:Nat}{j:Int}{items:Array Um}{x old:Um}{Q:yf->Uo->Prop}(st:IsEnum s.heap en it j old)(li:s.heap.IsListIter it l i)(ls:s.heap.IsList l items)
  (at_:items[i]?=O x) (ne:en≠it)
  (k:∀h',IsEnumOut h' en it (j+1) x s.heap.objs.size->h'.IsListIter it l (i+1)->h'.get? s.heap.objs.size=O {cls:=.type "tuple", data:=.seq #[.int j s.toks,x]}->(∀b o,b≠en->b≠it->s.heap.get? b=O o->h'.get? b=O o) ->
   Q (O (.ref s.heap.objs.size)) {s with heap:=h',toks:=s.toks+1}):Uu (model prog w) A (pyNext (.ref en)) Q E s:=by
 have ty:s.TypeIs (.ref en) "enumerate" :=⟨_,st,rfl⟩
 have lt:en<s.heap.objs.size:=Ql st;unfold pyNext;refine Qf (wpAny_attempt (wpAny_callSpecial?_slot (name:=UH "__next__") ty F.slot_enumerate_next (wpAny_call_entry F.slot_enumerate_next ty F.entry_enumerate_next ?_ (F.args_enumerate_next_1 _))));show Uu _ _ (field (.ref en) 2 >>= _) _ _ s;refine Qf (wpAny_field st wZ (x:=.ref it) wZ ?_);refine Qf (wpAny_nextOf_list_item li ls at_ λm1 li1 c1=>?_);have c1:Heap.SameBut it s.heap m1:=c1;have st1:IsEnum m1 en it j old:=(c1.2 en ne).trans st;show Uu _ _ (field (.ref en) 3 >>= _) _ _ {s with heap:=m1};refine Qf (wpAny_field st1 wZ (x:=rawInt j) wZ ?_);show Uu _ _ (field (.ref en) 4 >>= _) _ _ {s with heap:=m1};refine Qf (wpAny_field st1 wZ (x:=.none) wZ ?_);show Uu _ _ (mkInt j >>= _) _ _ {s with heap:=m1};refine Qf (wpAny_mkInt ?_);refine wpAny_bind (wpAny_setField_rec st1 (by simp) λm2 st2 c2=>?_);have c2:Heap.SameBut en m1 m2:=c2;have st2:IsEnum m2 en it (j+1) old:=st2;show Uu _ _ (setField (.ref en) 4 .none >>= _) _ _ {s with heap:=m2,toks:=s.toks+1};refine wpAny_bind (wpAny_setField_rec st2 (by simp) λm3 st3 c3=>?_);have c3:Heap.SameBut en m2 m3:=c3;have st3:IsEnum m3 en it (j+1) old:=st3;refine Qf (wpAny_newTuple ?_);have z3:m3.objs.size=s.heap.objs.size:=c3.1.trans (c2.1.trans c1.1);have st4:IsEnum (m3.push {cls:=.type "tuple", data:=.seq #[.int j s.toks,x]}) en it (j+1) old:=Qm _ (show IsEnum m3 en it (j+1) old from st3);have tp4:(m3.push {cls:=.type "tuple", data:=.seq #[.int j s.toks,x]}).get? s.heap.objs.size=O {cls:=.type "tuple", data:=.seq #[.int j s.toks,x]}:=by rw[←z3];exact QD _ wZ
 have kp4:∀b o,b≠en->b≠it->s.heap.get? b=O o->(m3.push {cls:=.type "tuple", data:=.seq #[.int j s.toks,x]}).get? b=O o:=λb o n1 n2 q=>Qm _ ((c3.2 b n1).trans ((c2.2 b n1).trans ((c1.2 b n2).trans q)))
 have li4:(m3.push {cls:=.type "tuple", data:=.seq #[.int j s.toks,x]}).IsListIter it l (i+1):=by obtain⟨o,q,r⟩:=li1;exact⟨o,Qm _ ((c3.2 it (Ne.symm ne)).trans ((c2.2 it (Ne.symm ne)).trans q)),r⟩
 generalize m3.push {cls:=.type "tuple", data:=.seq #[.int j s.toks,x]}=m4 at st4 tp4 kp4 li4;rw[z3];refine Qf ?_;unfold Builtin.SmallTypes.ownedTupleIsFree Builtin.SmallTypes.ownedTupleHandOut;refine Qf (wpAny_field st4 wZ (x:=.none) wZ (Qq ?_));simp only[if_true];refine wpAny_bind (wpAny_rule (wpAny_bind (wpAny_field st4 wZ (x:=old) wZ (wpAny_bind (wpAny_setField_rec st4 (by simp) λm5 yC c5=>?_)))));have c5:Heap.SameBut en m4 m5:=c5;have yC:IsEnum m5 en it (j+1) x:=yC;refine wpAny_bind (wpAny_bind (wpAny_setField_rec yC (by simp) λm6 st6 c6=>?_));have c6:Heap.SameBut en m5 m6:=c6;have st6:IsEnumOut m6 en it (j+1) x s.heap.objs.size:=st6;refine wpAny_setField_rec st6 (by simp) λm7 st7 c7=>?_
 have c7:Heap.SameBut en m6 m7:=c7;have st7:IsEnumOut m7 en it (j+1) x s.heap.objs.size:=st7;have up:∀b,b≠en->m7.get? b=m4.get? b:=λb n=>(c7.2 b n).trans ((c6.2 b n).trans (c5.2 b n));refine Qf (wpAny_letGo (Qq ⟨_,rfl,Qq (k m7 st7 ?_ ((up _ (JJ lt)).trans tp4) λb o n1 n2 q=>(up b n1).trans (kp4 b o n1 n2 q))⟩))
 obtain⟨o,q,r⟩:=li4;exact⟨o,(up it (Ne.symm ne)).trans q,r⟩
theorem kz  {i:Nat}{j:Int}{items:Array Um}{old:Um}{Q}(hh:A.handled=w4)(st:IsEnum s.heap en it j old)(li:s.heap.IsListIter it l i)(ls:s.heap.IsList l items)
  (at_:items[i]?=w4) (k:∀h',Heap.ExtBut it s.heap h'->Q w4 {s with heap:=h'}):Uu (model prog w) A (pyNext (.ref en)) Q E s:=by
 have ty:s.TypeIs (.ref en) "enumerate" :=⟨_,st,rfl⟩
 refine Qf (wpAny_attempt (wpAny_callSpecial?_slot  ty F.slot_enumerate_next (wpAny_call_entry F.slot_enumerate_next ty F.entry_enumerate_next ?_ (F.args_enumerate_next_1 _))));show Uu _ _ (field (.ref en) 2 >>= _) _ _ s;refine Qf (wpAny_field st wZ  rfl (Qf  (wpAny_nextOf_list_end hh li ls at_ λh' z c y=>?_)));obtain⟨o,q,t⟩:=y;exact Qf (wpAny_isInstance  (b:=w5) ⟨o,q,t⟩ isSubtype_stop (Qq (k _ c)))
end
noncomputable def SE(K:Frag)(a:Uq):It:=
 ⟨λi H=>∃xs x,SqL K H a xs/\xs[i]?=O x,
  λi H v H'=>∃p x,H p=w4/\v=.ref p/\(∀xs,SqL K H a xs->xs[i]?=O x)/\H'=upd H p (.tup [.int (1+(i:Int)),x]),
  λi H=>∃xs,SqL K H a xs/\xs.length<=i⟩
theorem vv{P:Up}{w:World}{K:Frag}{elts:yb}{x1}{tp:Pos}(a e it:Uq)(hne:e≠it) :
  Turn P w K (.Tuple elts x1 tp) (SE K a) [e,it] e (λi h=>(∃old,IsEnum h e it (1+(i:Int)) old)/\h.IsListIter it a i) where
 mem:=by simp
 obj:=λi h st b hb=>by
  obtain⟨⟨old,he⟩,o,ho,c,d⟩:=st;have hb':b=e∨b=it:=by simpa using hb
  rcases hb' with rfl|rfl
  .exact⟨_,he,λv z=>by have z'   :=z;cases z'⟩
  .exact⟨o,ho,λv z=>by rw[d]at z;cases z⟩
 keep:=λi h h' st k=>by obtain⟨⟨old,he⟩,hi⟩:=st;exact⟨⟨old,k e (by simp) _ he⟩,hi.at λo q=>k it (by simp) o q⟩
 item:=by
  intro X hP hw hK hc i pins s σ H E I hf st hg;subst hP hw hK;obtain⟨⟨old,he⟩,hi⟩:=st;obtain⟨xs,x,hq,hx⟩:=hg;obtain⟨its,rv,p,hz⟩:=I.list hq;obtain⟨u,hu,ru⟩:=rv.get hx;refine kA he hi p.isList (x:=u) (by simpa using hu) hne λh1 out hi1 ht kk=>?_
  refine⟨_,rfl,wpAny_letOwnedTupleGo_enum out λh2 yQ hs2=>?_⟩;have hel:e<s.heap.objs.size:=Ql he;have yu:Heap.SameBut e h1 h2:=hs2;have ht2   :=(yu.2 _ (JJ hel)).trans ht
  have kk2:∀b o,b∉[e,it]->s.heap.get? b=O o->h2.get? b=O o:=λb o hb q=>by
   have yw:b≠e:=λz=>hb (by simp[z])
   have hbi:b≠it:=λz=>hb (by simp[z])
   exact(yu.2 b yw).trans (kk b o yw hbi q)
  have hn:H s.heap.objs.size=w4:=I.hok.fresh (Qv _)
  have I2:Inv X pins σ (upd H s.heap.objs.size (.tup [.int (1+(i:Int)),x])) {s with heap:=h2,toks:=s.toks+1}:=
   I.turnedNew (fp:=[e,it]) hf kk2 (Qv _) ⟨by show 2<=Ut;decide,[.int (1+(i:Int)) s.toks,u],.cons ⟨_,rfl⟩ (.cons ru .nil),⟨_,ht2,rfl,_,rfl⟩⟩
  refine⟨.ref s.heap.objs.size,_,I2,rfl,⟨_,x,hn,rfl,λys hy=>by rw[I.list_inj hy hq];exact hx,rfl⟩,⟨⟨u,?_⟩,?_⟩,λb hb=>?_⟩
  .have e2:(1+((i+1:Nat):Int))=1+(i:Int)+1:=by lia
   rw[e2];exact yQ
  .exact hi1.at λo q=>(yu.2 it (Ne.symm hne)).trans q
  .have hlt:b<s.heap.objs.size:=by
    have hb':b=e∨b=it:=by simpa using hb
    rcases hb' with rfl|rfl
    .exact hel
    .obtain⟨o,ho,_⟩:=hi;exact Ql ho
   rw[KH (QX hlt)];exact(hf b hb).1
 done:=by intro X hP hw hK hc i pins s σ H E I hf st hg;subst hP hw hK;obtain⟨⟨old,he⟩,hi⟩:=st;obtain⟨xs,hq,hx⟩:=hg;obtain⟨its,rv,p,hz⟩:=I.list hq;have hl:=rv.length;exact kz (I.ok.hd hc) he hi p.isList (by simp;lia) λh' eb=>⟨rfl,I.turnedL (t':=s.toks) hf λb o hb q=>eb b o (λz=>hb (by simp[z])) q⟩
 self:=λ_ _ _ _ _ st h=>by obtain⟨⟨old,he⟩,_⟩:=st;exact wpAny_pyIter_enum he h
section
variable{X:Cx}
theorem jN{a:Us}{ta:TA}{p pos k1 k2:Pos}{j}{elts}{x1}{tp:Pos}(hg:Gl X "enumerate")(hm:X.mg "enumerate" = w4)(ha:PA X [a] ta)
  (hs:backTo pos (Uv [a] X.env)=(w6,eval a X.env)::backTo pos (Uv [] X.env):=by rfl) (hpl:(backTo pos (Uv [a] X.env)).any (·.1)=w6:=by rfl) :
  PI X (.Tuple elts x1 tp) (.Call (.Name "enumerate" p) [a] [⟨O "start", .Constant (.int 1) j k1,k2⟩] pos) (λσ H R=>ta σ H λvs H1=>∃a xs,vs=[.ref a]/\SqL X.K H1 a xs/\R (SE X.K a) H1):=by
 intro pins s σ H R I h;refine wpAny_Call_Name_kw (Th I hg hm boot_enumerate (BL hpl wZ ?_));rw[hs];refine evalArgs_kwB wZ ?_;rw[←hs];refine thn (ha pos pins s σ H _ I h) λus s1 ⟨vs,H1,I1,r1,q1⟩=>?_;refine kws_cons (wpAny_Constant_int (kws_nil ?_))
 obtain⟨l,xs,e,hq,q⟩:=q1;subst e;cases r1 with
 |cons r rr=>
  cases rr;cases (r);have I1':=I1.tok (s1.toks+1);obtain⟨its,rv,pl,hz⟩:=I1'.list hq;refine vw pl.isList λh' he hi kk=>?_;have I2   :=I1'.kept (t':=s1.toks+1) kk;refine wpAny_pyIter_enum he ?_
  refine⟨s1.heap.objs.size+1,[s1.heap.objs.size+1,s1.heap.objs.size],_,_,H1,rfl,I2,vv l _ _ (Nat.succ_ne_self _),⟨⟨_,he⟩,hi⟩,λb hb=>?_,q⟩;have hb'   :=by simpa using hb
  rcases hb' with rfl|rfl
  .exact I1.fpOk (JV _) (I1.hok.fresh (JV _))
  .exact I1.fpOk (Qv _) (I1.hok.fresh (Qv _))
end
end L2
namespace DL
open PySem PySem.Spec L2
open PyProof.Rows hiding St
section
variable{X:Cx}{B G0:Hp}{e a b c tg:Us}{pos:Pos}{es rest:yb}
theorem wf{K}{G1}{ad}{vs}{ds}(h:SqL K G1 ad vs)(r:Reps K G1 vs ds):Wj K (SE K ad) (Yc 1 ds) G1 where
 go:=λi G H s1 s2 hi=>by
  rw[YH]at hi;have hi':i<vs.length:=by rw[r.length];exact hi
  exact⟨vs,vs[i],(s1.trans s2).seq h,Qe hi'⟩
 stop:=λi G H s1 s2 hi=>by rw[YH]at hi;exact⟨vs,(s1.trans s2).seq h,by rw[r.length];exact hi⟩
 yld:=λi G H x H' d s1 s2 e y=>by
  obtain⟨p,v,hp,rfl,y1,rfl⟩:=y;have z1:=y1 vs ((s1.trans s2).seq h);rw[Oj]at e;cases q:ds[i]? with
  |none=>rw[q]at e;cases e
  |some dd=>rw[q]at e;cases e;obtain⟨v',e1,r1⟩:=r.get q;rw[z1]at e1;cases e1;refine⟨upd G p _,Ext.new s2 hp,.tup (SqT.of Zp) (.cons ?_ (.cons ((r1.mono s1).mono (ZQ (s2.free hp))) .nil))⟩;exact .int _
noncomputable def SW:w9->Option w9
 |[.list ds]=>O (Yc 1 ds)
 |_=>w4
noncomputable def OZ(f:M w9):M w9:=Ke f λx=>Kf (SW x)
theorem vq  (h:SW x=O l):∃ds,x=[.list ds]/\l=Yc 1 ds:=by
 unfold SW at h;split at h
 .simp_all
 simp_all
theorem jM  {p2 k1 k2}{j}{elts}{x1}{tp}(hg:Gl X "enumerate")(hm:X.mg "enumerate" = w4)(ha:PA X [a] (tDs X.K B G0 f))
  (hs:backTo pos (Uv [a] X.env)=(w6,eval a X.env)::backTo pos (Uv [] X.env):=by rfl) (hpl:(backTo pos (Uv [a] X.env)).any (·.1)=w6:=by rfl) :
  PI X (.Tuple elts x1 tp) (.Call (.Name "enumerate" p2) [a] [⟨O "start", .Constant (.int 1) j k1,k2⟩] pos) (iD X.K B G0 (OZ f)):=Wp (jN hg hm ha hs hpl) λσ H R q=>tM.toI  q λv H' G' Z' x k r a=>by
 cases z:SW x with
 |none=>rw[z]at a;exact a.elim
 |some l=>obtain⟨ds,rfl,rfl⟩:=vq z;obtain⟨v,rfl,q⟩:=r.one_inv;obtain⟨l,ws,rfl,h1,r1⟩:=q.lst_inv;exact⟨l,ws,rfl,k.gh.seq h1,a _ G' H' k (.refl _) (wf h1 r1)⟩
end
section
variable{X:Cx}
noncomputable def most:w8->Int
 |[]=>0
 |[n]=>n
 |n::r=>if most r > n then most r else n
theorem Oe:∀{ns},0<ns.length->most ns∈ns
 |[n],_=>List.mem_singleton.2 wZ
 |n::m::r,_=>by
  have ih:=Oe (ns:=m::r) (JK _);unfold most;split
  .exact Qi _ ih
  .exact Qj ..
theorem Nq:∀{ns}{a},a∈ns->a<=most ns
 |[n],a,h=>by rw[List.mem_singleton.1 h];exact Ja _
 |n::m::r,a,h=>by
  have ih:∀b,b∈m::r->b<=most _:=λb hb=>Nq hb;unfold most;rcases QE.1 h with e|h
  .subst e;split<;>lia
  .have:=ih a h;split<;>lia
theorem BK  {M}(h1:M∈ns)(h2:∀a,a∈ns->a<=M):most ns=M:=
 JR (h2 _ (Oe (List.length_pos_of_mem h1))) (Nq h1)
theorem xn(hc:X.calm=w5):Y6 X (.builtin "max") (λxs H Q=>∃l,∃ns:w8,xs=[.ref l]/\SqL X.K H l (ns.map V.int)/\0<ns.length/\Q (.int (most ns)) H):=by
 intro pins s σ H xs us Q I rx h;obtain⟨l,ns,rfl,hq,hb,q⟩:=h;obtain⟨u,rfl,ru⟩:=rx.one;cases ru;obtain⟨its,rv,p,hz⟩:=I.list hq;have hi:=Tb rv;obtain⟨ys,e⟩:=hi.allInts.items;have hns:ns=ys.toList.map (·.1):=by rw[←hi.numsOf,←nums_intItems,←e]
 have hsz:0<ys.size:=by simp_all
 have hl:=p.isList;rw[e]at hl;refine max_intList (I.ok.hd hc) hl hsz λv h' tk hv hk=>?_
 obtain⟨t,rfl⟩:=intItems_at hv;obtain⟨h1,h2⟩:=argBest_gt (numAt ys) (ys.size-1);refine⟨.int _,H,I.kept hk,⟨t,?_⟩,q⟩;rw[BK  ?_ ?_]
 .rw[hns,numAt_eq];exact getD_mem (by rw[Qb,Ug];omega)
 .intro a ha
  rw[hns]at ha;obtain⟨j,hj,rfl⟩:=mem_getD ha;rw[Qb,Ug]at hj;rw[←numAt_eq];exact h2 j (by omega)
noncomputable def SH:w9->ya
 |[.list ds]=>(match YV ds with
  |some ns=>if 0<ns.length then O (.int (most ns))else w4
  |none=>w4)
 |_=>w4
theorem xm   (h:SH xs=O d):∃ds ns,xs=[.list ds]/\YV ds=O ns/\0<ns.length/\d=.int (most ns):=by
 unfold SH at h;split at h
 .rename_i ds
  cases z:YV ds with
  |none=>simp_all
  |some ns=>simp_all
 simp_all
theorem DW(hc:X.calm=w5):Y9 X (.builtin "max") SH:=by refine⟨_,xn hc,λvs G H ds d Q s r e k=>?_⟩;obtain⟨ds,ns,rfl,z,c,rfl⟩:=xm e;obtain⟨v,rfl,q1⟩:=r.one_inv;obtain⟨l,ws,rfl,h1,r1⟩:=q1.lst_inv;have:=Pn r1 z;subst this;exact⟨l,ns,rfl,s.seq h1,c,k _ G H (.refl s) (.int _)⟩
theorem jL  (h:0<ns.length):SH [.list (ns.map .int)]=O (.int (most ns)):=by unfold SH;simp only[Pd,Qp h]
end
section
variable{X:Cx}{B G0:Hp}{e o:Us}{es:yb}
theorem we   {xs:w9}{as}{d:D}(rs:ReadsAll h vs xs as)(hxs:UD xs=w5) :
  vs.countP (λy=>UF (SeqAt.readOf h y) d)=xs.countP (λy=>UF y d):=by
 have key   :=(SeqAt.readsAll_map xs vs as hxs rs).symm;rw[key,List.countP_map];rfl
noncomputable def WQ(y x:D):ya:=match y with
 |.list ds=>if x.canLay0=w5/\UD ds=w5/\x.depth<=60 then O (.int (ds.countP λy=>UF y x))else w4
 |_=>w4
theorem qD(hu:X.A.units+64<cLine):MtR X "list.count" (λv vs H Q=>∃G u y x d,vs=[u]/\Same G H/\Rep X.K G v y/\Rep X.K G u x/\WQ y x=O (.int d)/\Q (.int d) H):=by
 intro pins s σ H x xs v us Q I rx rs h;obtain⟨G,u,dy,dx,d,rfl,sg,py,px,e,q⟩:=h;obtain⟨w,rfl,yr⟩:=rs.one;unfold WQ at e;split at e
 .split at e
  .rename_i c
   obtain⟨bs,rb⟩:=Xb I sg py rx (c.2.1);obtain⟨as,ra⟩:=Xb I sg px yr c.1;cases rb with
   |list h1 h2 h3 h4=>rename_i l ob its cs n;obtain⟨cls,dd,data,sl⟩:=ob;subst h2 h3;refine call_meets F.slot_list_count ⟨_,h1,rfl⟩ F.entry_list_count (F.args_list_count_2 _ _) (SeqAt.list_countAt _ _ _ dd sl _ _) ⟨h1,SeqAt.items_eqAt h4 ra c.2.1 c.1 (by lia),?_⟩;rw[we h4 c.2.1];cases e;exact⟨.int _,H,I.tok _,⟨_,rfl⟩,q⟩
  simp_all
 simp_all
noncomputable def PZ(y:D)(xs:w9):ya:=match xs with
 |[x]=>WQ y x
 |_=>w4
theorem wd{ds xs:w9}{d}(h:PZ (.list ds) xs=O d):∃x n,xs=[x]/\d=.int n/\WQ (.list ds) x=O (.int n):=by
 unfold PZ at h;split at h
 .rename_i x
  have h':=h;unfold WQ at h;dsimp only at h;split at h
  .cases h;exact⟨x,_,rfl,rfl,h'⟩
  .cases h
 simp_all
noncomputable def VW(f:M D)(g:M w9):M D:=Ke f λy=>Ke g λxs=>Kf (match y with | .list ds=>PZ (.list ds) xs|_=>w4)
theorem xk{apos cpos}{f}{g}(hu:X.A.units+64<cLine)(ho:PE X o (tD X.K B G0 f))(ha:PA X (e::es) (tDs X.K B G0 g))
  (hbase:attributeBase o "count" X.env (eval o X.env)=eval o X.env:=by rfl)
  (hfew:((backTo cpos (Uv (e::es) X.env)).all (λx=>!x.1)&&(backToKw cpos (keywordEach [] X.env)).all (λx=>x.1.isSome)
   && decide ((e::es).length+([]:List Keyword).length+(if([]:List Keyword).isEmpty then 0 else 1)<30))=w5:=by rfl)
  (hline:(apos.endLine==cpos.line)=w5:=by rfl) (hs:Uv (e::es) X.env=(w6,eval e X.env)::Uv es X.env:=by rfl) (hplain:(backTo cpos (Uv es X.env)).any (·.1)=w6:=by rfl) :
  PE X (.Call (.Attribute o "count" apos) (e::es) [] cpos) (tD X.K B G0 (VW f g)):=
 Kt (OP F.plainAttrs_list F.slot_list_count F.type_list_count (qD hu) ho ha hbase hfew hline hs hplain) λσ H Q q=>by
  refine tM.one  q λv H2 G Z y k r a=>?_
  cases y with
  |list ds=>
   obtain⟨l,ws,rfl,h1,r1⟩:=r.lst_inv;refine⟨.inl ⟨rfl,ws,k.gh.seq h1⟩,?_⟩;refine tM.nx  k a λxs H3 G3 Z3 es k3 s3 r3 a3=>?_
   obtain⟨d,e,a3⟩:=a3.opt;obtain⟨x,n,rfl,rfl,e'⟩:=wd e;obtain⟨u,rfl,ru⟩:=r3.one_inv;exact⟨G3,u,.list ds,x,n,rfl,k3.gh,r.mono s3,ru,e',aft.now a3 k3 (.int _)⟩
  |_=>
   unfold Ke at a;cases z:g Z with
   |bad=>rw[z]at a;exact a.elim
   |ok xs Z1=>rw[z]at a;exact a.elim
theorem NP   {Z Z1 Z2}{ds:w9}{x d}(h1:f Z=.ok (.list ds) Z1)(h2:g Z1=.ok [x] Z2)(h3:WQ (.list ds) x=O d):VW f g Z=.ok d Z2:=by unfold VW Ke;rw[h1];dsimp only;rw[h2];dsimp only[PZ];rw[h3];rfl
end
section
variable{prog:Up}{w:World}{A:Around}{R:Result->Uo->Prop}{h0:Heap}{l I S:Uq}{rs:List (Uq×yc)}
def XU(h h':Heap):Prop:=∀b o,h.get? b=O o->h'.get? b=O o
def Ls1(h:Heap)(a:Uq)(its:yc)(sl:Array yf):Prop:=∃n,h.get? a=O {cls:=.type "list", dict:=w4,data:=.seq its.toArray n,slots:=sl}
def Ls(h:Heap)(a:Uq)(its:yc):Prop:=∃n sl,h.get? a=O {cls:=.type "list", dict:=w4,data:=.seq its.toArray n,slots:=sl}
theorem Ls.kept  {a}{its}(x:Ls h a its)(k:XU h h'):Ls h' a its:=by obtain⟨n,sl,e⟩:=x;exact⟨n,sl,k _ _ e⟩
theorem vp(hh:A.in1.handled=w4)(hI:h0.objs.size<=I)(hS:h0.objs.size<=S)(hIS:S≠I)(hl:h0.IsList l (rs.map λp=>Value.ref p.1).toArray)(hr:∀p∈rs,Ls h0 p.1 p.2) :
  ∀(k i:Nat)(s:Uo)(t:Uq)(acc:yc)(c:Nat)(sl:Array yf),rs.length-i=k->i<=rs.length->XU h0 s.heap->s.heap.IsListIter I l i ->
   s.heap.get? S=O {cls:=.type "list", dict:=w4,data:=.seq #[.ref t] c,slots:=#[]}->t≠S->t≠I->Ls1 s.heap t acc sl->acc.length+((rs.drop i).map (·.2)).flatten.length<=Ut ->
   (∀p h' tk yx,XU h0 h'->Ls1 h' p (acc++((rs.drop i).map (·.2)).flatten) yx->(p=t/\i=rs.length/\yx=sl∨h0.objs.size<=p/\yx=#[])->R (.ok (.ret (.ref p))) {s with heap:=h',toks:=tk}) ->
   codeAny (model prog w) A (.builtin "sum.loop" ⟨[.ref I,.ref S,rawInt 2,rawInt 0],[]⟩) R s:=by
 intro k;induction k with
 |zero=>
  intro i s t acc c sl hk hi hK hit hSS htS htI ht hz hR;have hin:i=rs.length:=by lia
  subst hin;refine codeAny_builtin F.entry_sum_loop ?_;rw[Around.under_plainId F.plain_sum_loop _];show Uu _ A.in1 (seqItems? (.ref S) >>= _) _ _ s;refine Qf (wpAny_seqItems hSS wZ ?_);show Uu _ A.in1 (tryCatch (pyNext (.ref I)) _ >>= _) _ _ s;have hl':s.heap.IsList l (rs.map λp=>Value.ref p.1).toArray:=by obtain⟨o,e,r⟩:=hl;exact⟨o,hK _ _ e,r⟩
  refine wpAny_bind (wpAny_tryCatch (wpAny_pyNext_list_end hh hit hl' (by simp) λh' ex=>?_));refine Qq (hR t h' s.toks sl (λb o e=>?_) ?_ (.inl ⟨rfl,rfl,rfl⟩))
  .exact ex b o (QX (QH (Ql e) hI)) (hK b o e)
  .obtain⟨n,e⟩:=ht
   rw[List.drop_length,List.map_nil,List.flatten_nil,Jl];exact⟨n,ex _ _ htI e⟩
 |succ k ih=>
  intro i s t acc c sl hk hi hK hit hSS htS htI ht hz hR;have hlt:i<rs.length:=by lia
  refine codeAny_builtin F.entry_sum_loop ?_;rw[Around.under_plainId F.plain_sum_loop _];show Uu _ A.in1 (seqItems? (.ref S) >>= _) _ _ s;refine Qf (wpAny_seqItems hSS wZ ?_);show Uu _ A.in1 (tryCatch (pyNext (.ref I)) _ >>= _) _ _ s;have hl':s.heap.IsList l (rs.map λp=>Value.ref p.1).toArray:=by obtain⟨o,e,r⟩:=hl;exact⟨o,hK _ _ e,r⟩
  refine wpAny_bind (wpAny_tryCatch (wpAny_pyNext_list_item (x:=.ref (rs[i]'hlt).1) hit hl' (by simp[hlt]) λh' z9 sb=>?_));refine Qf (wpAny_attempt (wpAny_holding ?_));have hm:rs[i]'hlt∈rs:=JE hlt;have hd:rs.drop i=rs[i]'hlt::rs.drop (i+1):=Jc hlt;have hK':XU h0 h':=λb o e=>(sb.2 b (QX (QH (Ql e) hI))).trans (hK b o e)
  obtain⟨n1,e1⟩:=ht;have e1':=(sb.2 t htI).trans e1;obtain⟨n2,s2,e2⟩:=(hr _ hm).kept hK';have ao:=(sb.2 S hIS).trans hSS;rw[hd,Qt,Jz,Qk]at hz;refine concat_meets ⟨_,e1',rfl⟩ ⟨_,e2,rfl⟩ noFill_list_add seq_list_add PySem.F.slot_list_add PySem.F.entry_list_add (PySem.F.args_list_add_2 _ _) (list_addW t _ acc.toArray _ n1 n2 w4 w4 sl s2 (by rw[Jf,Jf];lia)) ⟨e1',e2,?_⟩;have hlS:S<h'.objs.size:=Ql ao;have hlI:I<h'.objs.size:=by obtain⟨o,e,_⟩:=z9;exact Ql e
  have ea:acc.toArray++(rs[i]'hlt).2.toArray=(acc++(rs[i]'hlt).2).toArray:=by simp
  rw[ea];have hP:∀b o,h'.get? b=O o->(h'.push {cls:=Value.type "list", data:=Data.seq (acc++(rs[i]'hlt).2).toArray}).get? b=O o:=λb o e=>Qm _ e
  have hS1:=hP _ _ ao;have hNew:(h'.push {cls:=Value.type "list", data:=Data.seq (acc++(rs[i]'hlt).2).toArray}).get? h'.objs.size=O {cls:=Value.type "list", data:=Data.seq (acc++(rs[i]'hlt).2).toArray}:=QD _ wZ;show Uu _ A.in1 (updateSeq S (λ_=>#[.ref h'.objs.size]) >>= _) _ _ _;refine Qf (wpAny_updateSeq hS1 wZ ?_);have hS2:=Heap.get?_update_self (Obj.mapSeq λ_=>#[Value.ref h'.objs.size]) hS1 wZ;refine Qf (wpAny_letGo ?_);refine Qf (wpAny_updateSeq hS2 wZ (Qq ⟨plainId_quiet F.plain_sum_loop _,?_⟩));have oth:∀b o,b≠S->(h'.push {cls:=Value.type "list", data:=Data.seq (acc++(rs[i]'hlt).2).toArray}).get? b=O o->(((h'.push {cls:=Value.type "list", data:=Data.seq (acc++(rs[i]'hlt).2).toArray}).update S (Obj.mapSeq λx=>#[Value.ref h'.objs.size])).update S (Obj.mapSeq λx=>#[Value.ref h'.objs.size])).get? b=O o:=λb o hb e=>(Heap.get?_update_other _ _ (Ne.symm hb)).trans ((Heap.get?_update_other _ _ (Ne.symm hb)).trans e)
  refine ih (i+1) _ h'.objs.size (acc++(rs[i]'hlt).2) _ #[] (by lia) hlt ?_ ?_ (Heap.get?_update_self _ hS2 wZ) (JJ hlS) (JJ hlI) ?_ (by rw[Qk];lia) λp h'' tk yx hk'' hp hq=>?_
  .exact λb o e=>oth b o (QX (QH (Ql e) hS)) (hP b o (hK' b o e))
  .obtain⟨o,e,r⟩:=z9
   exact⟨o,oth I o (Ne.symm hIS) (hP I o e),r⟩
  .exact⟨_,oth _ _ (JJ hlS) hNew⟩
  .refine hR p h'' tk yx hk'' ?_ (.inr ?_)
   .rw[hd,Qt,Jz,←Q6];exact hp
   .rcases hq with ⟨rfl, -,e⟩|hq
    .exact⟨Uj (Nat.lt_of_le_of_lt hS hlS),e⟩
    .exact hq
end
section
variable{prog:Up}{w:World}{A:Around}{E:Um->Uo->Prop}{s:Uo}{l z:Uq}{rs:List (Uq×yc)}
theorem xj(a b:Um):argsOk "sum" ⟨[a,b],[]⟩:=by unfold argsOk;kernel_rfl
theorem vo{Q:Um->Uo->Prop}(hh:A.handled=w4)(hl:s.heap.IsList l (rs.map λp=>Value.ref p.1).toArray)(hr:∀p∈rs,Ls s.heap p.1 p.2)(hz:Ls s.heap z [])(hb:(rs.map (·.2)).flatten.length<=Ut)
  (h:∀p h' tk yx,XU s.heap h'->Ls1 h' p (rs.map (·.2)).flatten yx->(p=z/\rs=[]∨s.heap.objs.size<=p/\yx=#[])->Q (.ref p) {s with heap:=h',toks:=tk}) :
  Uu (model prog w) A (call (.builtin "sum") [.ref l,.ref z]) Q E s:=by
 refine call_function_tree F.kind_sum F.plain_sum F.entry_sum (xj _ _) ?_;unfold Builtin.«sum»;simp only[Qz,Qx];rw[Qw (by decide)];refine Qf (wpAny_of_eq (rfl) ?_);refine Qf (JI hl ?_);refine Qf (Qq ?_);obtain⟨n,sl,ez⟩:=id hz;have ty:∀h:Heap,h.get? z=O {cls:=.type "list", dict:=w4,data:=.seq [].toArray n,slots:=sl}->({s with heap:=h}:Uo).TypeIs (.ref z) "list" :=λh e=>⟨_,e,rfl⟩
 have ez':(s.heap.push {cls:=.type "list_iterator", data:=.fields #[.ref l,.int 0 0]}).get? z=_:=Qm _ ez;refine Qf (Qf (Qf (wpAny_isInstance (T:= "list") (b:=w6) (ty _ ez') F.sub_list_str ?_)));simp only[J6,if_false];refine Qq (Qf (Qf (wpAny_isInstance (T:= "list") (b:=w6) (ty _ ez') F.sub_list_bytes ?_)));simp only[J6,if_false];refine Qq (Qf (Qf (wpAny_isInstance (T:= "list") (b:=w6) (ty _ ez') F.sub_list_bytearray ?_)));simp only[J6,if_false];refine Qq (Qq ?_);refine Qf (wpAny_newObj_type ?_);have hzs:=Ql ez;have s1:(s.heap.push {cls:=.type "list_iterator", data:=.fields #[.ref l,.int 0 0]}).objs.size=s.heap.objs.size+1:=JH ..;have k2:XU s.heap ((s.heap.push {cls:=.type "list_iterator", data:=.fields #[.ref l,.int 0 0]}).push {cls:=.type "list", data:=.seq #[.ref z]}):=λb o e=>Qm _ (Qm _ e)
 refine Qq ⟨plainId_quiet F.plain_sum_loop _,vp (h0:=s.heap) (l:=l) (I:=s.heap.objs.size)  (rs:=rs) hh (Qv _) (by rw[s1];exact JV _) (by rw[s1];exact Nat.succ_ne_self _) hl hr rs.length 0 _ z [] 0 sl wZ (JM _)
  k2 ⟨_,Heap.get?_push_of_some _ (Heap.get?_push_size _ wZ),rfl,rfl⟩ (Heap.get?_push_size _ wZ) (by rw[s1];exact Nat.ne_of_lt (Nat.lt_succ_of_lt hzs)) (Nat.ne_of_lt hzs) ⟨n,k2 _ _ ez⟩ (by simpa using hb) λp h' tk yx hk hp hq=>?_⟩
 exact h p h' tk yx hk (by simpa using hp) (hq.imp (λe=>⟨e.1,List.eq_nil_of_length_eq_zero e.2.1.symm⟩) id)
end
section
variable{X:Cx}{pins:List (Uq×Obj)}{σ:St}{H:Hp}{s:Uo}
theorem HK(I:Inv X pins σ H s):∀{rs:List (Uq×List V)},(∀p∈rs,SqL X.K H p.1 p.2) ->
  ∃ts:List (Uq×yc),(ts.map λp=>Value.ref p.1)=(rs.map λp=>Value.ref p.1)/\(∀p∈ts,Ls s.heap p.1 p.2)/\Vals (rs.map (·.2)).flatten (ts.map (·.2)).flatten
 |[],_=>⟨[],rfl,(λ_ h=>by cases h),(Paired.nil)⟩
 |p::rs,h=>by
  obtain⟨ts,e,hl,hv⟩:=HK I λq hq=>h q (Qi _ hq)
  obtain⟨its,rv,⟨⟨c1,d1,t1,sl⟩,n,e1,ec,ed,et⟩,z⟩:=I.list (h p (Qj ..));simp only at ec ed et;subst ec ed et;refine⟨(p.1,its)::ts,by simp_all,λq hq=>?_,?_⟩
  .rcases QE.1 hq with rfl|hq
   .exact⟨n,sl,e1⟩
   .exact hl q hq
  .exact rv.append hv
theorem FA:∀{as:ye}{us},Vals (as.map V.ref) us->us=as.map Value.ref
 |[],_,.nil=>rfl
 |a::as,_,.cons h t=>by cases h;rw[FA t];rfl
theorem xi(hc:X.calm=w5):Y6 X (.builtin "sum") (λxs H Q=>∃l z,∃rs:List (Uq×List V),xs=[.ref l,.ref z]/\SqL X.K H l (rs.map λp=>V.ref p.1)/\(∀p∈rs,SqL X.K H p.1 p.2)/\SqL X.K H z []/\(rs.map (·.2)).flatten.length<=Ut /\
  (rs=[]->Q (.ref z) H)/\∀p,H p=w4->Q (.ref p) (upd H p (.lst (rs.map (·.2)).flatten))):=by
 intro pins s σ H xs us Q I rx h;obtain⟨l,z,rs,rfl,hq,hr,hz,hb,q0,q⟩:=h;obtain⟨u,u',rfl,ru,ru'⟩:=OQ rx;cases ru;cases ru';obtain⟨its,rv,pl, -⟩:=I.list hq;obtain⟨ts,e,hl,hv⟩:=HK I hr;have ei:its=ts.map λp=>Value.ref p.1:=by rw[e];have:=FA   (by rw[Jb];exact rv);rw[this,Jb];rfl
 subst ei;obtain⟨zi,rz,⟨⟨c1,d1,t1,sl⟩,n,e1,ec,ed,et⟩, -⟩:=I.list hz;cases rz;simp only at ec ed et;subst ec ed et;have hlen:=hv.length;refine vo (I.ok.hd hc) pl.isList hl ⟨n,sl,e1⟩ (by lia) λp h' tk yx hk hp hq=>?_
 rcases hq with ⟨rfl,rfl⟩|⟨zJ,rfl⟩
 .have hr0:rs=[]:=by
   simp_all
  exact⟨.ref _,H,I.kept hk,rfl,q0 hr0⟩
 .obtain⟨m,ep⟩:=hp
  exact⟨.ref p,_,I.laid  hk zJ (show Ys X.prog X.w _ h' _ (.lst _)from⟨hb,_,m,hv,ep⟩),rfl,q p (I.hok.fresh zJ)⟩
noncomputable def WO:w9->Option (List w9)
 |[]=>O []
 |.list xs::r=>(WO r).map (xs :: ·)
 |_=>w4
theorem EV{K}{G}:∀{vs}{ds}{ls},Reps K G vs ds->WO ds=O ls ->
  ∃rs:List (Uq×List V),vs=(rs.map λp=>V.ref p.1)/\(∀p∈rs,SqL K G p.1 p.2)/\Reps K G (rs.map (·.2)).flatten ls.flatten/\rs.length=ls.length
 |_,_,ls,.nil,e=>by cases e;exact⟨[],rfl,(λ_ h=>by cases h),.nil,rfl⟩
 |_,_,ls,.cons (d:=d) r t,e=>by
  cases d with
  |list xs=>
   unfold WO at e;cases z:WO _ with
   |none=>rw[z]at e;cases e
   |some cs=>
    rw[z]at e;cases e;obtain⟨rs,rfl,h1,h2,h3⟩:=EV t z;obtain⟨a,ws,rfl,h,rr⟩:=r.lst_inv;refine⟨(a,ws)::rs,rfl,λp hp=>?_,?_,Ub _ h3⟩
    .rcases QE.1 hp with rfl|hp
     .exact h
     .exact h1 p hp
    .exact rr.append h2
  |_=>cases e
theorem vj(ls):WO (ls.map Uz)=O ls:=by
 induction ls with
 |nil=>rfl
 |cons b r ih=>rw[Qt,WO,ih];rfl
noncomputable def SG:w9->ya
 |[.list ds,.list []]=>(match WO ds with
  |some ls=>if ls.flatten.length<=1000000 then O (.list ls.flatten)else w4
  |none=>w4)
 |_=>w4
theorem xg   (h:SG xs=O d):∃ds ls,xs=[.list ds,.list []]/\WO ds=O ls/\ls.flatten.length<=1000000/\d=.list ls.flatten:=by
 unfold SG at h;split at h
 .rename_i ds
  cases z:WO ds with
  |none=>simp_all
  |some ls=>simp_all
 simp_all
theorem DV(hc:X.calm=w5):Y9 X (.builtin "sum") SG:=by
 refine⟨_,xi hc,λvs G H ds d Q s r e k=>?_⟩;obtain⟨ds,ls,rfl,z,c,rfl⟩:=xg e;obtain⟨v,v',rfl,q1,q2⟩:=r.two_inv;obtain⟨l,ws,rfl,h1,r1⟩:=q1.lst_inv;obtain⟨a,za,rfl,h2,r2⟩:=q2.lst_inv;have:=r2.nil_inv;subst this;obtain⟨rs,rfl,g1,g2,g3⟩:=EV r1 z;refine⟨l,a,rs,rfl,s.seq h1,λp hp=>s.seq (g1 p hp),s.seq h2,?_,λe0=>?_,λp hp=>?_⟩
 .rw[g2.length];exact QN c lim
 .subst e0
  have   :=List.eq_nil_of_length_eq_zero g3.symm;subst this;exact k _ G H (.refl s) (.lst h2 .nil)
 .exact k _ _ _ (.new s hp) (.lst (SqL.of Zp) (g2.mono (ZQ (s.free hp))))
end
section
variable{X:Cx}
noncomputable def YE(ns:w8):w8:=ns.mergeSort λa b=>decide (a<=b)
theorem Wg(ns:w8):(YE ns).Perm ns:=List.mergeSort_perm ..
theorem Oy(ns):(YE ns).Pairwise (· <= ·):=by have:=List.pairwise_mergeSort (le:=λa b   =>decide (a<=b)) (by intro a b c;simp;lia) (by intro a b;simp;lia) ns;exact this.imp (by simp)
theorem HJ:∀{a b:w8},a.Perm b->a.Pairwise (· <= ·)->b.Pairwise (· <= ·)->a=b
 |[],b,p,_,_=>by simp_all
 |x::a,[],p,_,_=>by simp_all
 |x::a,y::b,p,ha,hb=>by
  have hx:y<=x:=by
   rcases QE.1 (p.mem_iff.1 (Qj ..))with e|e
   .exact Int.le_of_eq e.symm
   simp_all
  have hy:x<=y:=by
   rcases QE.1 (p.mem_iff.2 (Qj ..))with e|e
   .exact Int.le_of_eq e.symm
   simp_all
  have e:=JR hy hx;subst e;rw[HJ (List.Perm.cons_inv p) (JO.1 ha).2 (JO.1 hb).2]
theorem Fz:∀{us}{ns},PyProof.Rows.IntsAre us ns->Vals (ns.map V.int) us
 |_,_,.nil=>Paired.nil
 |_,_,.cons n t h=>Paired.cons ⟨t,rfl⟩ (Fz h)
theorem vi:Y6 X (.builtin "sorted") (λxs H Q=>∃l,∃ns:w8,xs=[.ref l]/\SqL X.K H l (ns.map V.int)/\ns.length<64/\∀p,H p=w4->Q (.ref p) (upd H p (.lst ((YE ns).map V.int)))):=by
 intro pins s σ H xs us Q I rx h;obtain⟨l,ns,rfl,hq,hb,q⟩:=h;obtain⟨u,rfl,ru⟩:=rx.one;cases ru;obtain⟨its,rv,p,hz⟩:=I.list hq;have hi:=Tb rv;have hn:its.length=ns.length:=by have:=rv.length;simp_all
 refine sorted_ints p.isList hi (by lia) λout ns' a1 a2 a3=>?_
 obtain⟨e,he⟩:=sortedAll_at s.heap its out;have en   :=HJ (a2.trans (Wg ns).symm) a3 (Oy ns);subst en;refine⟨.ref _,_,I.laid  (λb o=>sortedAll_old) (JV _) (show Ys X.prog X.w _ _ _ (.lst _)from⟨?_,out.toList,e,Fz a1,he⟩),rfl,q _ (I.hok.fresh (JV _))⟩;rw[Qb,(Wg ns).length_eq];simp_all
noncomputable def SV:w9->ya
 |[.list ds]=>(match YV ds with
  |some ns=>if ns.length<64 then O (.list ((YE ns).map .int))else w4
  |none=>w4)
 |_=>w4
theorem vP   (h:SV xs=O d):∃ds ns,xs=[.list ds]/\YV ds=O ns/\ns.length<64/\d=.list ((YE ns).map .int):=by
 unfold SV at h;split at h
 .rename_i ds
  cases z:YV ds with
  |none=>simp_all
  |some ns=>simp_all
 simp_all
theorem Fy{K}{G}:∀ns:w8,Reps K G (ns.map V.int) (ns.map int)
 |[]=>.nil
 |n::r=>.cons (.int n) (Fy r)
theorem BJ:Y9 X (.builtin "sorted") SV:=by refine⟨_,vi,λvs G H ds d Q s r e k=>?_⟩;obtain⟨ds,ns,rfl,z,c,rfl⟩:=vP e;obtain⟨v,rfl,q1⟩:=r.one_inv;obtain⟨l,ws,rfl,h1,r1⟩:=q1.lst_inv;have:=Pn r1 z;subst this;exact⟨l,ns,rfl,s.seq h1,c,λp hp=>k _ _ _ (.new s hp) (.lst (SqL.of Zp) (Fy _))⟩
theorem xf  (h:ns.length<64):SV [.list (ns.map .int)]=O (.list ((YE ns).map .int)):=by unfold SV;simp only[Pd,Qp h]
end
@[simp] theorem mBind_ok   {k:α->M β}{Z Z'}{x}(h:f Z=.ok x Z'):Ke f k Z=k x Z':=by unfold Ke;rw[h]
theorem Fx   {P:Nat->US->Prop}{R:Out->Prop}:∀(ds)(n:Nat)(Z:US),P n Z ->
  (∀i d Z,ds[i]?=O d->P (n+i) Z->∃Z1,s d Z=O Z1/\((∃Z2,(g Z1=.nx Z2∨g Z1=.ct Z2)/\P (n+i+1) Z2)∨(∃x,g Z1=.rt x/\R (.rt x))∨(∃Z2,g Z1=.bk Z2/\R (.nx Z2))∨(∃Z2 x,g Z1=.ex Z2 x/\R (.ex Z2 x)) ∨ ∃x,g Z1=.ro x/\R (.ro x)))->(∀Z,P (n+ds.length) Z->R (.nx Z))->R (Tf s g ds Z)
 |[],n,Z,h,_,f=>f Z h
 |d::r,n,Z,h,st,f=>by
  obtain⟨Z1,e1,e2⟩:=st 0 d Z wZ h;rw[Tf,e1];dsimp only;rcases e2 with ⟨Z2,e2,h2⟩|⟨x,e2,h2⟩|⟨Z2,e2,h2⟩|⟨Z2,x,e2,h2⟩|⟨x,e2,h2⟩
  .have goal:=Fx (R:=R) r (n+1) Z2 h2 (λi d' Z3 q p=>by
    have e:n+1+i=n+(i+1):=by lia
    rw[e]at p⊢;exact st (i+1) d' Z3 (by simpa using q) p) (λZ3 p=>f Z3 (by
    have e:n+1+r.length=n+(d::r).length:=by rw[Qz];lia
    rw[e]at p;exact p))
   rcases e2 with e2|e2<;>(rw[e2];exact goal)
  .rw[e2];exact h2
  .rw[e2];exact h2
  .rw[e2];exact h2
  .rw[e2];exact h2
theorem Wo{lo hi}{i:Nat}{d}(h:(Yt lo hi)[i]?=O d):d=.int (lo+i)/\(i:Int)<hi-lo:=by have hl   :=(Qg.mp h).1;rw[Y0]at hl;unfold Yt at h;simp_all
theorem Lr   {i}{v:α}(h0:0<=i)(h:xs[i.toNat]?=O v):atI xs i=O v:=by have:=K0   h;rw[Int.toNat_of_nonneg h0]at this;exact this
section
variable{α β:Type}{Z Z1 Z2 Z3 Z':US}{f g h:M D}
theorem U0{a:α}:UT a Z=.ok a Z:=rfl
theorem UX:UN Z=.ok [] Z:=rfl
theorem YG{o:Option α}{a:α}(h:o=O a):Kf o Z=.ok a Z:=by subst h;rfl
theorem K6{f}{k}{x:α}{r:Res β}(h:f Z=.ok x Z1)(h2:k x Z1=r):Ke f k Z=r:=by unfold Ke;rw[h];exact h2
theorem KS{f}{k:α->β}{x}(h:f Z=.ok x Z1):U7 k f Z=.ok (k x) Z1:=by unfold U7 Ke;rw[h];rfl
theorem UO{i:Nat}{d:D}(h:Z[i]?=O (O (.pub d))):UM i Z=.ok d Z:=by unfold UM;rw[h]
theorem YY  {ds:w9}(h:Z[i]?=O (O (.own ds)))(h2:Z.set i (O (.pub (.list ds)))=Z'):UM i Z=.ok (.list ds) Z':=by unfold UM;simp_all
theorem U9  {x y}{r:β}(h1:f Z=.ok x Z1)(h2:g Z1=.ok y Z2)(h3:op x y=O r):UR op f g Z=.ok r Z2:=by exact K6 h1 (K6 h2 (YG h3))
theorem UQ{g}{x}{xs}(h1:f Z=.ok x Z1)(h2:g Z1=.ok xs Z2):UP f g Z=.ok (x::xs) Z2:=by exact K6 h1 (K6 h2 wZ)
theorem Yi{g}{xs:w9}(h1:g Z=.ok xs Z1)(h2:xs.length<=1000000):Kz g Z=.ok (.tuple xs) Z1:=by exact K6 h1 (by rw[Qp h2];rfl)
theorem Zz{g}{xs:w9}(h1:g Z=.ok xs Z1)(h2:xs.length<=1000000):Ks g Z=.ok (.list xs) Z1:=by exact K6 h1 (by rw[Qp h2];rfl)
theorem Tk{g}{xs:w9}(h1:g Z=.ok xs Z1)(h2:xs.length<=1000000):(Ke g λxs=>if xs.length<=1000000 then UT xs else λ_=>.bad) Z=.ok xs Z1:=
 K6 h1 (by rw[Qp h2];rfl)
theorem Ky  {d y r}(h:Z[i]?=O (O (.pub d)))(h1:g Z=.ok y Z1)(h2:oIx d y=O r):U1 i g Z=.ok r Z1:=by unfold U1;rw[h];exact K6 h1 (YG h2)
theorem RJ  {ds es:w9}{y r}(h:Z[i]?=O (O (.own ds)))(h1:g Z=.ok y Z1)(h3:Z1[i]?=O (O (.own es)))(h2:oIx (.list es) y=O r):U1 i g Z=.ok r Z1:=by unfold U1;rw[h];exact K6 h1 (by rw[h3];exact YG h2)
theorem Yg  {g}{xs}{r}(h1:g Z=.ok xs Z1)(h2:p xs=O r):ZB p g Z=.ok r Z1:=by exact K6 h1 (YG h2)
theorem Kj   {g}{xs}{r}(h1:g Z=.ok xs Z1)(h2:xs.length=n)(h3:F xs=O r):UY n F g Z=.ok r Z1:=by exact K6 h1 (by rw[Qp h2];exact YG h3)
theorem RI  (h1:f Z=.ok (.int i) Z1):YC f Z=.ok (.int (-i)) Z1:=by exact K6 h1 wZ
theorem ZP   (h:Z[i]?=O (O (.pub d)))(h2:Kk [d]=O r):Zu i Z=.ok r Z:=by unfold Zu;rw[h];exact YG h2
theorem HI   (h:Z[i]?=O (O (.own ds))):Zu i Z=.ok (.int ds.length) Z:=by unfold Zu;rw[h]
theorem Wn{g}{i}{r}(h1:g Z=.ok [.int i] Z1)(h2:RH [.int i]=O r):Xx g Z=.ok r Z1:=by exact K6 h1 (YG h2)
theorem Np{g}{i j}{r}(h1:g Z=.ok [.int i,.int j] Z1)(h2:RG [.int i,.int j]=O r):RF g Z=.ok r Z1:=by exact K6 h1 (YG h2)
theorem XJ{g}{xs r}(h1:g Z=.ok xs Z1)(h2:RE xs=O r):Y5 g Z=.ok r Z1:=by exact K6 h1 (YG h2)
theorem Y8  (h1:f Z=.ok (.int i) Z1):(Ke f λx=>Kf (YF x)) Z=.ok (O i) Z1:=K6 h1 wZ
theorem XB{f:M Bool}{t:Bool}(h1:f Z=.ok t Z1):K4 f Z=.ok (!t) Z1:=KS h1
theorem Wf  (h1:f Z=.ok (.bool t) Z1):Yu f Z=.ok t Z1:=by exact K6 h1 wZ
theorem Lq{f g}{t u}(h1:f Z=.ok t Z)(h2:t=w5->g Z=.ok u Z):ZW f g Z=.ok (t&&u) Z:=by
 refine K6 h1 ?_;cases t with
 |true=>exact h2 wZ
 |false=>rfl
theorem PY  (h1:f Z=.ok (.bool t) Z)(h2:t=w5->g Z=.ok (.bool u) Z):SJ f g Z=.ok (.bool (t&&u)) Z:=by
 refine K6 h1 ?_;cases t with
 |true=>exact h2 wZ
 |false=>rfl
theorem Lp  (h1:f Z=.ok (.bool t) Z)(h2:t=w6->g Z=.ok (.bool u) Z):W6 f g Z=.ok (.bool (t || u)) Z:=by
 refine K6 h1 ?_;cases t with
 |false=>exact h2 wZ
 |true=>rfl
theorem BI  (h1:f Z=.ok (.bool t) Z1):OI f Z=.ok (.bool (!t)) Z1:=by exact K6 h1 wZ
theorem Lo{f}{g h:M α}{r}(h1:f Z=.ok w5 Z1)(h2:g Z1=r):mIf f g h Z=r:=by exact K6 h1 (by exact h2)
theorem O2{f}{g h:M α}{r}(h1:f Z=.ok w6 Z1)(h2:h Z1=r):mIf f g h Z=r:=by exact K6 h1 (by exact h2)
theorem DK{f}{g h}{t}{x y:α}(h1:f Z=.ok t Z1)(h2:g Z1=.ok x Z1)(h3:h Z1=.ok y Z1):mIf f g h Z=.ok (if t=w5 then x else y) Z1:=by
 refine K6 h1 ?_;cases t with
 |true=>exact h2
 |false=>exact h3
theorem NO  {x y z}{t u}(h1:f Z=.ok x Z)(h2:g Z=.ok y Z)(h3:p x y=O t)(h4:t=w5->h Z=.ok z Z)(h5:t=w5->q y z=O u):SY p q f g h Z=.ok (t&&u) Z:=by
 refine K6 h1 (K6 h2 (K6 (YG h3) ?_));cases t with
 |true=>exact K6 (h4 wZ) (YG (h5 wZ))
 |false=>rfl
theorem Zj{i j:Int}:U8 (.int i) (.int j)=O (.int (i+j)):=rfl
theorem XH{x y:w9}(h:x.length+y.length<=1000000):U8 (.list x) (.list y)=O (.list (x++y)):=by exact Qp h
theorem Xc{i j:Int}:K9 (.int i) (.int j)=O (.int (i-j)):=rfl
theorem V4  (h1 : -18446744073709551616<i)(h2:i<18446744073709551616):KF (.int i) (.int j)=O (.int (i*j)):=by exact Qp (.inl ⟨by lia,by lia⟩)
theorem Rt{i j}(h1 : -18446744073709551616<j)(h2:j<18446744073709551616):KF (.int i) (.int j)=O (.int (i*j)):=by exact Qp (.inr ⟨by lia,by lia⟩)
theorem Eu{x:w9}{k}(h : -1000000<=k/\k<=1000000/\x.length*k.toNat<=1000000):KF (.list x) (.int k)=O (.list (Uy k.toNat x).flatten):=by exact Qp h
theorem V5{i j}(h:0<j):YA (.int i) (.int j)=O (.int (i % j)):=by exact Qp h
theorem qC{i j}(h:0<j)(h2:j<2 ^ 200):Wq (.int i) (.int j)=O (.int (i / j)):=by exact Qp ⟨h,h2⟩
theorem HH{i j}(h:0<j)(h2:j<18446744073709551616):Wq (.int i) (.int j)=O (.int (i / j)):=qC h (Int.lt_trans h2 (by decide))
theorem BH{i j}(h:0<=j/\j<=1000000/\i.natAbs<2 ^ 64):W5 (.int i) (.int j)=O (.int (i ^ j.toNat)):=by exact Qp h
theorem Ln{p:Int->Int->Bool}{i j:Int}:oIB p (.int i) (.int j)=O (p i j):=rfl
theorem XI  : oEq (.int i) (.int j)=O (decide (i=j)):=by
 congr 1
theorem Zy{xs:w9}:Kk [.list xs]=O (.int xs.length):=rfl
theorem HG{i j:Int}:RB [.int i,.int j]=O (.int (if j > i then j else i)):=rfl
theorem Wm  (h1:j<=1000000)(h2 : -1000000<=j):RH [.int j]=O (Yt 0 j):=by exact Qp ⟨h1,h2⟩
theorem NN{i j}(h1:j<=1000000)(h2 : -1000000<=j)(h3:i<=1000000)(h4 : -1000000<=i):RG [.int i,.int j]=O (Yt i j):=by exact Qp ⟨h1,h2,h3,h4⟩
theorem XG{xs:w9}:RE [.list xs]=O (Yc 0 xs):=rfl
theorem KM  {d}(h1:f Z=.ok d Z1)(h2:i<Z1.length)(h3:Z1.set i (O (.pub d))=Z'):Kc i f Z=.nx Z':=by unfold Kc Zr sB gN;simp_all
theorem YJ  {f}{ds}(h1:f Z=.ok ds Z1)(h2:i<Z1.length)(h3:Z1.set i (O (.own ds))=Z'):Zq i f Z=.nx Z':=by unfold Zq sB;simp_all
theorem WN   {zu ds}(h0:Z[i]?=O (O (.own zu)))(h1:f Z=.ok d Z1)(h2:Z1[i]?=O (O (.own ds)))(h3:ds.length<1000000)(h4:Z1.set i (O (.own (ds++[d])))=Z'):ZV i f Z=.nx Z':=by unfold ZV sB;simp_all
theorem XA   (h1:f Z=.ok d Z1)(h2:s d Z1=O Z'):Zr f s Z=.nx Z':=by unfold Zr sB;simp_all
theorem WH{d:D}(h1:f Z=.ok d Z1):Xy f Z=.nx Z1:=by unfold Xy sB;rw[h1]
theorem UV   (h:i<Z.length)(h2:Z.set i (O (.pub d))=Z'):gN i d Z=O Z':=by unfold gN;simp_all
theorem Kr:gN0 [] Z=O Z:=rfl
theorem UZ     (h1:s d Z=O Z1)(h2:t r Z1=O Z'):gNC s t (d::r) Z=O Z':=by unfold gNC;simp_all
theorem Kq   {ds:w9}(h1:ds.length=n)(h2:t ds Z=O Z'):gT n t (.tuple ds) Z=O Z':=by unfold gT;simp_all
structure Ho(g:SM)(Z:US)(Q:Out->Prop):Prop where
 out:Q (g Z)
noncomputable def DJ(h:SM)(Q:Out->Prop):Out->Prop
 |.nx Z'=>Ho h Z' Q
 |o=>Q o
structure OG(h:SM)(Q:Out->Prop)(o:Out):Prop where
 out:DJ h Q o
variable{Q:Out->Prop}{s t u:SM}
theorem Za(h:Ho s Z (OG t Q)):Ho (UU s t) Z Q:=by
 have h:=h.out.out;constructor;unfold UU;cases e:s Z with
 |nx o=>rw[e]at h;exact h.out
 |_=>rw[e]at h;exact h
theorem Kh(h1:s Z=.nx Z1)(h2:Ho t Z1 Q):Ho (UU s t) Z Q:=by
 constructor;unfold UU;rw[h1];exact h2.out
theorem YI{o:Out}(h1:s Z=o)(h2:Q o):Ho s Z Q:=by constructor;rw[h1];exact h2
theorem Ze(h:Q (.nx Z)):Ho sNx Z Q:=⟨h⟩
theorem Zc{o:US}(h:Ho t o Q):OG t Q (.nx o):=⟨h⟩
theorem V3{d:D}(h:Q (.rt d)):OG t Q (.rt d):=⟨h⟩
theorem KU{f}{b}(h1:f Z=.ok b Z1)(h2:b=w5->Ho s Z1 Q)(h3:b=w6->Ho t Z1 Q):Ho (sIf f s t) Z Q:=by
 constructor;unfold sIf sB;rw[h1];cases b with
 |true=>exact(h2 wZ).out
 |false=>exact(h3 wZ).out
theorem KB  (h1:f Z=.ok d Z1)(h2:Q (.rt d)):Ho (U5 f) Z Q:=by constructor;unfold U5 sB;simp_all
theorem HF{P:Out->Prop}(h:Ho s Z P)(k:∀o,P o->Q o):Ho s Z Q:=⟨k _ h.out⟩
noncomputable def DI(I:US->Prop)(Q:Out->Prop):Out->Prop
 |.nx Z | .ct Z=>I Z
 |.bk Z=>Q (.nx Z)
 |.rt d=>Q (.rt d)
 |.ex Z d=>Q (.ex Z d)
 |.ro ds=>Q (.ro ds)
 |.bad=>False
structure SS(I:US->Prop)(Q:Out->Prop)(o:Out):Prop where
 out:DI I Q o
theorem Zf{I:US->Prop}(h:I Z):SS I Q (.nx Z):=⟨h⟩
theorem Pc{I:US->Prop}{d:D}(h:Q (.rt d)):SS I Q (.rt d):=⟨h⟩
theorem ZR{f}{tg}{ds}(I:Nat->US->Prop)(h1:f Z=.ok ds Z1)(h0:I 0 Z1)
  (hst:∀i d Z,ds[i]?=O d->I i Z->∃Z2,tg d Z=O Z2/\Ho s Z2 (SS (I (i+1)) Q)) (hend:∀Z,I ds.length Z->Q (.nx Z)):Ho (KI f tg s) Z Q:=by
 constructor;unfold KI sB;rw[h1];refine Fx   ds 0 Z1 h0 (λi d Z e p=>?_) (λZ p=>hend Z (by simp_all))
 rw[QO]at p;obtain⟨Z2,e2,q⟩:=hst i d Z e p;refine⟨Z2,e2,?_⟩;rw[QO];have q:=q.out.out;cases z:s Z2 with
 |nx o=>rw[z]at q;exact .inl ⟨o,.inl wZ,q⟩
 |ct o=>rw[z]at q;exact .inl ⟨o,.inr wZ,q⟩
 |rt o=>rw[z]at q;exact .inr (.inl ⟨o,rfl,q⟩)
 |bk o=>rw[z]at q;exact .inr (.inr (.inl ⟨o,rfl,q⟩))
 |ex o x=>rw[z]at q;exact .inr (.inr (.inr (.inl ⟨o,x,rfl,q⟩)))
 |ro o=>rw[z]at q;exact .inr (.inr (.inr (.inr ⟨o,rfl,q⟩)))
 |bad=>rw[z]at q;exact q.elim
theorem WD   {P:D->Prop}(h0:We N ds=Z)(h:Ho s Z λo=>∃d,o=.rt d/\P d):∃d,Kb N s ds=O d/\P d:=by subst h0;obtain⟨d,e,p⟩:=h.out;refine⟨d,?_,p⟩;unfold Kb;rw[e]
theorem KY    (h0:We N ds=Z)(h:Ho s Z λo=>o=.rt d):Kb N s ds=O d:=by obtain⟨d',e,p⟩:=WD  h0 (HF h λo e=>⟨d,e,rfl⟩);simp_all
end
section
variable{α β:Type}{Z Z1 Z2 Z3 Z':US}{f g h:M D}
theorem WC  {x r}{a b}(h1:f Z=.ok x Z1)(h2:l Z1=.ok a Z2)(h3:u Z2=.ok b Z3)(h4:Yz x a b=O r):ZX f l u Z=.ok r Z3:=by exact K6 h1 (K6 h2 (K6 h3 (YG h4)))
theorem VU{f g}{u}(h1:f Z=.ok w6 Z1)(h2:g Z1=.ok u Z2):mOr f g Z=.ok u Z2:=by exact K6 h1 (by exact h2)
theorem No{f g}(h1:f Z=.ok w6 Z1):ZW f g Z=.ok w6 Z1:=by exact K6 h1 wZ
theorem R3{f g}{u}(h1:f Z=.ok w5 Z1)(h2:g Z1=.ok u Z2):ZW f g Z=.ok u Z2:=by exact K6 h1 (by exact h2)
theorem V2  {d}{t}(h:f Z=.ok d Z1)(ht:(!Zs d c)=t):K4 (Yu (U7 (λd=>.bool (Zs d c)) f)) Z=.ok t Z1:=by subst ht;exact XB (Wf (KS  h))
theorem Zv   (h1:f Z=.ok x Z1)(h2:Nr x=O r):KW f Z=.ok r Z1:=by exact K6 h1 (YG h2)
theorem Ye  {i}{d y}{r:β}(h:Z[i]?=O (O (.pub d)))(h1:g Z=.ok y Z1)(h2:p d y=O r):Zi p i g Z=.ok r Z1:=by unfold Zi;rw[h];exact K6 h1 (YG h2)
theorem NM  {i}{ds es}{y}{r:β}(h:Z[i]?=O (O (.own ds)))(h1:g Z=.ok y Z1)(h3:Z1[i]?=O (O (.own es)))(h2:p (.list es) y=O r):Zi p i g Z=.ok r Z1:=by unfold Zi;rw[h];exact K6 h1 (by rw[h3];exact YG h2)
theorem ZC{f}{k}{s}{t}{ds es}(h1:f Z=.ok ds Z1)(h2:Zb s t g ds (KD Z1++Uy k w4) []=O es):Zo f k s t g Z=.ok es Z1:=by unfold Zo;simp_all
theorem Pk   (p)(q)(I:US->Prop):∀(ds:w9)(Z:US)(es:w9),(∀d∈ds,∀Z,I Z->∃Z1,s d Z=O Z1/\t Z1=.ok (p d) Z1/\(p d=w5->g Z1=.ok (q d) Z1)/\I (KD Z1))->I Z->es.length+ds.length<=1000000 ->
  Zb s t g ds Z es=O (es++(ds.filter p).map q)
 |[],Z,es,_,_,_=>by rw[Zb];simp
 |d::r,Z,es,st,h0,hz=>by
  obtain⟨Z1,e1,e2,e3,h1⟩:=st d Qj Z h0;have ih:=λes' hz'=>Pk p q I r _ es' (λd' hd=>st d' (Qi _ hd)) h1 hz';rw[Qz]at hz;rw[Zb,e1];dsimp only;rw[e2];dsimp only
  cases hp:p d with
  |true=>rw[Qp wZ,e3 hp];dsimp only;rw[Qp (by lia),ih _ (by rw[Qk,QU];lia),List.filter_cons_of_pos hp,Q6];rfl
  |false=>rw[Qw (by decide),ih _ (by lia),List.filter_cons_of_neg (by rw[hp];decide)]
theorem R1  {d}{k}{zu ds}(h1:f Z=.ok d Z1)(h0:Z1[j]?=O (O (.own zu)))(h2:g Z1=.ok (.int k) Z2)(h3:Z2[j]?=O (O (.own ds)))(h4:0<=k/\k<ds.length)(h5:Z2.set j (O (.own (ds.set k.toNat d)))=Z'):VN j g f Z=.nx Z':=by unfold VN sB;simp_all
theorem V1{xs:w9}{a b:yd}:Yz (.list xs) a b=O (.list (DL.cutD xs a b)):=rfl
theorem ZK{xs:w9}:Nr (.list xs)=O xs:=rfl
theorem wc(bs):V6 (bs.map UA)=O bs:=by
 induction bs with
 |nil=>rfl
 |cons b r ih=>rw[Qt,V6,ih];rfl
theorem HE{bs:List Bool}:YB [.list (bs.map UA)]=O (.bool (bs.all id)):=by unfold YB;dsimp only;rw[wc];rfl
end
section
variable{α β:Type}{Z Z1 Z2 Z3 Z4 Z':US}{f g h:M D}{s:SM}
theorem DU  {xs:w9}(h1:f Z=.ok (.list xs) Z1)(h2:l Z1=.ok w4 Z2)(h3:u Z2=.ok w4 Z3)(h4:t Z3=.ok (O (-1)) Z4):SA f l u t Z=.ok (.list xs.reverse) Z4:=by exact K6 h1 (K6 h2 (K6 h3 (K6 h4 (YG (by unfold Tt;exact Qp wZ)))))
theorem Od    (h:Z[i]?=O (O (.pub d)))(h2:Te [d]=O ds):VX i Z=.ok ds Z:=by unfold VX;rw[h];exact YG h2
theorem RU   (h0:We N ds=Z)(h:Ho s Z λo=>∃Z',o=.nx Z'):Kb N s ds=O .none:=by subst h0;obtain⟨Z',e⟩:=h.out;unfold Kb;rw[e]
theorem PX  : oNe (.int i) (.int j)=O (!decide (i=j)):=by
 congr 1
theorem NL{xs:w8}{a b:Int}(ha:0<=a)(hb:0<=b)(hl:b<=xs.length):DL.cutD (xs.map int) (O a) (O b)=((xs.drop a.toNat).take (b.toNat-a.toNat)).map int:=by
 unfold DL.cutD HT.sIx;dsimp only;rw[Qw (by lia),Qw (by lia),Qb,List.map_take];have e2:min b.toNat xs.length=b.toNat:=by lia
 rw[e2];by_cases hab:a.toNat<=xs.length
 .simp_all
 .have e3:b.toNat-a.toNat=0:=by lia
  grind
end
section
variable{Z Z1:US}
theorem GO   (h1:g Z=.ok xs Z1)(h2:SW xs=O r):OZ g Z=.ok r Z1:=by exact K6 h1 (YG h2)
theorem FZ{xs:w9}:SW [.list xs]=O (Yc 1 xs):=rfl
end
section
variable{X:Cx}{B G0:Hp}{KX:XW}{e o a b c tg i:Us}{pos p2:Pos}{es rest:yb}
noncomputable def Xz(f:M Bool)(g:SM):Nat->SM
 |0,_=>.bad
 |n+1,Z=>match f Z with
  |.bad=>.bad
  |.ok t Z1=>if t=w5 then(match g Z1 with
   |.nx Z2=>Xz f g n Z2
   |.ct Z2=>Xz f g n Z2
   |.bk Z2=>.nx Z2
   |.rt d=>.rt d
   |.ro ds=>.ro ds
   |.ex Z2 d=>.ex Z2 d
   |.bad=>.bad)else .nx Z1
theorem qB  {f}{g}(n)(hp:PassesOwn (model X.prog X.w) X.A X.env X.xe)(hc:PT X c (tBo X.K B G0 f))(hb:PSs X body (tS X.K B G0 KX g)):PS X (.While c body [] pos) (tS X.K B G0 KX (Xz f g n)):=
 ZG (jF hp hc hb) λDn σ H ⟨G,Z,k,a⟩=>by
  refine⟨λm σ' H'=>∃G' Z',EOk X.K B G0 G' H' σ' Z'/\aftS X.K B G0 KX (Xz f g m Z') G' Dn,⟨n,G,Z,k,a⟩,?_⟩;rintro m σ' H' ⟨G',Z',k',a'⟩;cases m with
  |zero=>exact a'.elim
  |succ m=>
   rw[Xz]at a';refine⟨G',Z',k',?_⟩;cases z:f Z' with
   |bad=>rw[z]at a';exact a'.elim
   |ok t Z1=>
    rw[z]at a';dsimp only at a';intro v G1 H1 k1 s1 e1;subst e1;cases v with
    |false=>exact a' _ G1 H1 k1 s1
    |true=>
     refine⟨λσ2 H2=>∃G2 Z2,EOk X.K B G0 G2 H2 σ2 Z2/\aftS X.K B G0 KX _ G2 Dn,λσ2 H2 h2=>⟨m,JN m,h2⟩,G1,Z1,k1,?_⟩;cases z2:g Z1 with
     |nx Z2=>rw[z2]at a';exact λσ4 G4 H4 k4 s4=>⟨G4,Z2,k4,aftS.mono (s1.trans s4) a'⟩
     |ct Z2=>rw[z2]at a';exact λσ4 G4 H4 k4 s4=>⟨G4,Z2,k4,aftS.mono (s1.trans s4) a'⟩
     |bk Z2=>rw[z2]at a';exact λσ4 G4 H4 k4 s4=>a' σ4 G4 H4 k4 (s1.trans s4)
     |rt d=>rw[z2]at a';exact a'
     |ro ds=>rw[z2]at a';exact a'
     |ex Z2 d=>rw[z2]at a';exact λv σ4 G4 H4 k4 s4 r4=>a' v σ4 G4 H4 k4 (s1.trans s4) r4
     |bad=>rw[z2]at a';exact a'.elim
noncomputable def XN(op:Int->Int->ya)(j:Nat)(f:M D):SM:=λZ=>match Z[j]? with
 |some (O (.pub (.int a)))=>sB f (λy Z1=>match y with
  |.int b=>(match op a b with
   |some d=>if j<Z1.length then .nx (Z1.set j (O (.pub d)))else .bad
   |none=>.bad)
  |_=>.bad) Z
 |_=>.bad
def IpD(X:Cx)(op:Operator)(p:Int->Int->ya):Prop:=∃ti,PIp X op ti/\∀i j d,p i j=O d->∃v:V,(∀G,Rep X.K G v d)/\∀H(Q:VK),Q v H->ti (.int i) (.int j) H Q
theorem BG:IpD X .Mult Xf:=⟨_,AZ,λi j d e=>by
 unfold Xf at e;split at e
 .rename_i h
  cases e;exact⟨_,λ_=>.int _,λH Q q=>⟨i,j,rfl,rfl,h,q⟩⟩
 simp_all⟩
theorem DT  {x:Str}{op}{p}{f:M D}{pos':Pos}(hN:X.N.Nodup)(hi:X.N[j]?=O x)(hx:Loc X.env.scope x)(ho:IpD X op p)(he:PE X e (tD X.K B G0 f))(hf:X.fn x=w5∨X.env.scope.names.lookup x=O .local:=by first|exact .inl rfl|exact .inr rfl|assumption) :
  PS X (.AugAssign (.Name x pos') op e pos) (tS X.K B G0 KX (XN p j f)):=by
 obtain⟨ti,hti,hp⟩:=ho;refine ZG (CN hN hi hx he hti hf) λDn σ H ⟨G,Z,k,a⟩=>?_;unfold XN at a
 cases q:Z[j]? with
 |none=>rw[q]at a;exact a.elim
 |some o0=>
  cases o0 with
  |none=>rw[q]at a;exact a.elim
  |some sl=>
   cases sl with
   |deep _ _=>rw[q]at a;exact a.elim
   |own ds=>rw[q]at a;exact a.elim
   |pub d0=>
    rw[q]at a;cases d0 with
    |int i0=>
     dsimp only at a;obtain⟨v,h1,h2⟩:=k.pub j _ q;cases h2.int_inv;refine⟨.int i0,h1,G,Z,k,?_⟩;unfold sB at a;cases z:f Z with
     |bad=>rw[z]at a;exact a.elim
     |ok y Z1=>
      rw[z]at a;intro u G1 H1 k1 s1 r1;cases y with
      |int i1=>
       cases r1.int_inv;dsimp only at a;cases w:p i0 i1 with
       |none=>rw[w]at a;exact a.elim
       |some d=>
        rw[w]at a;dsimp only at a;split at a
        .rename_i hl
         obtain⟨v',rv,hq⟩:=hp i0 i1 d w;exact hq H1 _ (a _ G1 H1 (k1.setPub (rv G1) hl) s1)
        .exact a.elim
      |_=>exact a.elim
    |_=>exact a.elim
end
section
variable{X:Cx}{B G0:Hp}{e o a b c tg i:Us}{pos p2:Pos}{es rest:yb}
theorem xc:MtR X "list.index" (λv vs H Q=>∃l k,∃ns:w8,v=.ref l/\vs=[.int k]/\SqL X.K H l (ns.map V.int)/\PyData.layable0 (.list (ns.map .int))=w5/\k∈ns/\Q (.int (ns.idxOf k:Nat)) H):=by intro pins s σ H x vs v us Q I rx rv h;obtain⟨l,k,ns,rfl,rfl,hq,hl,hk,q⟩:=h;cases rx;obtain⟨u,rfl,ru⟩:=rv.one;obtain⟨t,rfl⟩:=ru;obtain⟨its,rv,p,hz⟩:=I.list hq;exact index_list_ints p.isList (Tb rv) hl hk ⟨.int _,H,I.tok _,⟨_,rfl⟩,q⟩
noncomputable def Rc(y:D)(xs:w9):ya:=match y,xs with
 |.list ds,[.int k]=>(match YV ds with
  |some ns=>if PyData.layable0 (.list (ns.map .int))=w5/\k∈ns then O (.int (ns.idxOf k:Nat))else w4
  |none=>w4)
 |_,_=>w4
theorem wb{ds xs:w9}{d}(h:Rc (.list ds) xs=O d):∃k ns,xs=[.int k]/\YV ds=O ns/\PyData.layable0 (.list (ns.map .int))=w5/\k∈ns/\d=.int (ns.idxOf k:Nat):=by
 unfold Rc at h;split at h
 .rename_i ds' k e1
  cases e1;cases z:YV ds with
  |none=>simp_all
  |some ns=>simp_all
 simp_all
noncomputable def PH(f:M D)(g:M w9):M D:=Ke f λy=>Ke g λxs=>Kf (match y with | .list ds=>Rc (.list ds) xs|_=>w4)
theorem xb{apos cpos}{f}{g}(ho:PE X o (tD X.K B G0 f))(ha:PA X (e::es) (tDs X.K B G0 g))
  (hbase:attributeBase o "index" X.env (eval o X.env)=eval o X.env:=by rfl)
  (hfew:((backTo cpos (Uv (e::es) X.env)).all (λx=>!x.1)&&(backToKw cpos (keywordEach [] X.env)).all (λx=>x.1.isSome)
   && decide ((e::es).length+([]:List Keyword).length+(if([]:List Keyword).isEmpty then 0 else 1)<30))=w5:=by rfl)
  (hline:(apos.endLine==cpos.line)=w5:=by rfl) (hs:Uv (e::es) X.env=(w6,eval e X.env)::Uv es X.env:=by rfl) (hplain:(backTo cpos (Uv es X.env)).any (·.1)=w6:=by rfl) :
  PE X (.Call (.Attribute o "index" apos) (e::es) [] cpos) (tD X.K B G0 (PH f g)):=
 Kt (OP F.plainAttrs_list F.slot_list_index F.type_list_index xc ho ha hbase hfew hline hs hplain) λσ H Q q=>by
  refine tM.one  q λv H2 G Z y k r a=>?_
  cases y with
  |list ds=>
   obtain⟨l,ws,rfl,h1,r1⟩:=r.lst_inv;refine⟨.inl ⟨rfl,ws,k.gh.seq h1⟩,?_⟩;refine tM.nx  k a λxs H3 G3 Z3 es k3 s3 r3 a3=>?_
   obtain⟨d,e,a3⟩:=a3.opt;obtain⟨x,ns,rfl,z,hl,hk,rfl⟩:=wb e;obtain⟨u,rfl,ru⟩:=r3.one_inv;have:=Pn r1 z;subst this;exact⟨l,x,ns,rfl,by rw[ru.int_inv],k3.gh.seq (s3.seq h1),hl,hk,aft.now a3 k3 (.int _)⟩
  |_=>
   unfold Ke at a;cases z:g Z with
   |bad=>rw[z]at a;exact a.elim
   |ok xs Z1=>rw[z]at a;exact a.elim
theorem qA   {Z Z1 Z2}{ds:w9}{x d}(h1:f Z=.ok (.list ds) Z1)(h2:g Z1=.ok [x] Z2)(h3:Rc (.list ds) [x]=O d):PH f g Z=.ok d Z2:=by unfold PH Ke;rw[h1];dsimp only;rw[h2];dsimp only;rw[h3];rfl
end
end DL
namespace DL
open PySem PySem.Spec PySem.W PyProof.Rows
noncomputable def Km{α:Type}(lt:Nat->Nat->Bool):KasT α->α
 |.ret a=>a
 |.ask i j k=>Km lt (k (lt i j))
theorem Rl   {f:α->KasT β}:∀t:KasT α,Km lt (t.bind f)=Km lt (f (Km lt t))
 |.ret _=>rfl
 |.ask i j k=>by show Km lt ((k _).bind f)=_;rw[Rl];rfl
section
variable{key:Nat->Int}{p:Array Nat}
noncomputable def KA(key:Nat->Int)(p:Array Nat)(i:Nat):Int:=key (p.getD i 0)
def srt(key:Nat->Int)(p:Array Nat)(m:Nat):Prop:=∀i j,i<=j->j<m->KA key p i<=KA key p j
def dsc(key:Nat->Int)(p:Array Nat)(m:Nat):Prop:=∀i j,i<=j->j<m->KA key p j<=KA key p i
noncomputable abbrev kl(key:Nat->Int)(i j:Nat):Bool:=decide (key i<key j)
theorem FY  (hk:k<p.size)(hd:d<=k):KA key (bubble p k d) i=if i=k-d then KA key p k else if k-d<i/\i<=k then KA key p (i-1)else KA key p i:=by
 unfold KA;simp only[Jy];rw[getElem?_bubble hk d hd]
 repeat' split
 all_goals rfl
theorem RT{i j k}(hj:j<=p.size):KA key (kas_rev p i j) k=if i<=k/\k<j then KA key p (i+j-1-k)else KA key p k:=by
 unfold KA kas_rev;simp only[Jy];rw[getElem?_mirror_all hj]
 split<;>rfl
theorem Tn{i j:Nat}:(kas_rev p i j).size=p.size:=mirror_size _ _ _ _
theorem WX{i j:Nat}:(kas_rev p i j).Perm p:=mirror_perm _ _ _ _
theorem NK:∀(f n:Nat),1<=n->srt key p n->srt key p (Km (kl key) (kas_asc p f n))/\n<=Km (kl key) (kas_asc p f n)/\Km (kl key) (kas_asc p f n)<=n+f /\
  (Km (kl key) (kas_asc p f n)<n+f->KA key p (Km (kl key) (kas_asc p f n))<KA key p (Km (kl key) (kas_asc p f n)-1))
 |0,n,h1,hs=>⟨hs,Qv _,Qv _,λh=>absurd h (Jv _)⟩
 |f+1,n,h1,hs=>by
  unfold kas_asc Km;cases c:kl key (p.getD n 0) _ with
  |true=>exact⟨hs,Qv _,by show n<=n+(f+1);lia,λ_=>Qa c⟩
  |false=>
   dsimp only;rw[Qw (by decide)];have hle   :=Ul.mp (Jk c)
   obtain⟨a1,a2,a3,a4⟩:=NK f (n+1) (by lia) (λi j hij hj=>by
    by_cases zp:j=n
    .subst zp
     by_cases hin:i=j
     .subst hin;exact Ja _
     .exact JL (hs i (j-1) (by lia) (by lia)) hle
    .exact hs i j hij (by lia))
   exact⟨a1,by lia,by lia,λh=>a4 (by lia)⟩
def eqs(key:Nat->Int)(p:Array Nat)(n q:Nat):Prop:=∀i,n-1-q<=i->i<n->KA key p i=KA key p (n-1)
theorem Ox:∀(f:Nat)(p:Array Nat)(n q:Nat),1<=n->q+1<=n->n+f<=p.size->dsc key p n->eqs key p n q ->
  let r:=Km (kl key) (kas_desc f p n q)
  r.1.Perm p/\r.1.size=p.size/\dsc key r.1 r.2.1/\eqs key r.1 r.2.1 r.2.2/\r.2.2+1<=r.2.1/\n<=r.2.1/\r.2.1<=n+f
 |0,p,n,q,h1,hq,hz,hd,he=>⟨Ui _,rfl,hd,he,hq,Qv _,Qv _⟩
 |f+1,p,n,q,h1,hq,hz,hd,he=>by
  intro r;have hr:r=Km (kl key) (kas_desc (f+1) p n q):=rfl;unfold kas_desc Km at hr;cases c:kl key (p.getD n 0) (p.getD (n-1) 0)with
  |true=>
   rw[c]at hr;(try dsimp only at hr);rw[if_pos wZ]at hr;have hlt:KA key p n<KA key p (n-1):=Qa c
   have ext:∀p':Array Nat,(∀i,KA key p' i=KA key p i)->dsc key p' (n+1)/\eqs key p' (n+1) 0:=λp' hp=>⟨λi j hij hj=>by
     rw[hp,hp];by_cases zp:j=n
     .subst zp
      by_cases hin:i=j
      .subst hin;exact Ja _
      .exact JL (Int.le_of_lt hlt) (hd i (j-1) (by lia) (by lia))
     .exact hd i j hij (by lia),λi hi1 hi2=>by
     have:i=n:=by lia
     subst this;rfl⟩
   by_cases hq0:q > 0
   .rw[Qp hq0]at hr
    have same:∀i,KA key (kas_rev p (n-(q+1)) n) i=KA key p i:=λi=>by
     rw[RT (by lia)];split
     .rw[he _ (by lia) (by lia),he i (by lia) (by lia)]
     .rfl
    obtain⟨d1,e1⟩:=ext _ same;obtain⟨a1,a2,a3,a4,a5,a6,a7⟩:=Ox f (kas_rev p (n-(q+1)) n) (n+1) 0 (by lia) (by lia) (by rw[Tn];lia) d1 e1;rw[←hr]at a1 a2 a3 a4 a5 a6 a7;exact⟨a1.trans WX,a2.trans Tn,a3,a4,a5,by lia,by lia⟩
   .rw[Qw hq0]at hr
    obtain⟨d1,e1⟩:=ext p λ_=>rfl
    obtain⟨a1,a2,a3,a4,a5,a6,a7⟩:=Ox f p (n+1) 0 (by lia) (by lia) (by lia) d1 e1;rw[←hr]at a1 a2 a3 a4 a5 a6 a7;exact⟨a1,a2,a3,a4,a5,by lia,by lia⟩
  |false=>
   rw[c]at hr;(try dsimp only at hr);rw[if_neg (by decide)]at hr;unfold Km at hr;have hle:KA key p (n-1)<=KA key p n:=Ul.mp (Jk c);cases d:kl key (p.getD (n-1) 0) (p.getD n 0)with
   |true=>rw[d]at hr;(try dsimp only at hr);rw[if_pos wZ]at hr;unfold Km at hr;rw[hr];exact⟨Ui _,rfl,hd,he,hq,Qv _,by show n<=n+(f+1);lia⟩
   |false=>
    rw[d]at hr;(try dsimp only at hr);rw[if_neg (by decide)]at hr;have hge:KA key p n<=KA key p (n-1):=Ul.mp (Jk d)
    obtain⟨a1,a2,a3,a4,a5,a6,a7⟩:=Ox f p (n+1) (q+1) (by lia) (by lia) (by lia) (λi j hij hj=>by
     by_cases zp:j=n
     .subst zp
      by_cases hin:i=j
      .subst hin;exact Ja _
      .exact JL hge (hd i (j-1) (by lia) (by lia))
     .exact hd i j hij (by lia)) (λi hi1 hi2=>by
     have e0:KA key p n=KA key p (n-1):=JR hge hle;rw[Nat.add_sub_cancel,e0];by_cases hin:i=n
     .subst hin;exact e0
     .exact he i (by lia) (by lia))
    rw[←hr]at a1 a2 a3 a4 a5 a6 a7;exact⟨a1,a2,a3,a4,a5,by lia,by lia⟩
theorem Et  (h1:1<=n)(hn:n<=nrem)(hz:nrem<=p.size)(hd:dsc key p n) :
  let r:=Km (kl key) (kas_tail3 n nrem p)
  r.2.Perm p/\r.2.size=p.size/\srt key r.2 r.1/\1<=r.1/\r.1<=nrem:=by
 intro r;have hr:r=Km _ _:=rfl;unfold kas_tail3 at hr;rw[Rl]at hr;have hs:srt key (kas_rev p 0 n) n:=λi j hij hj=>by rw[RT (by lia),RT (by lia),Qp (by lia),Qp (by lia)];exact hd _ _ (by lia) (by lia)
 obtain⟨a1,a2,a3,_⟩:=NK   _ n h1 hs;rw[hr];exact⟨WX,Tn,a1,by show 1<=Km _ _;lia,by show Km _ _<=_;lia⟩
theorem EZ{n nrem:Nat}(h1:1<=n)(hn:n+1<=nrem)(hz:nrem<=p.size)(hd:dsc key p (n+1)) :
  let r:=Km (kl key) (kas_descPart n nrem p)
  r.2.Perm p/\r.2.size=p.size/\srt key r.2 r.1/\1<=r.1/\r.1<=nrem:=by
 intro r;have hr:r=Km (kl key) _:=rfl;unfold kas_descPart at hr;rw[Rl]at hr
 obtain⟨a1,a2,a3,a4,a5,a6,a7⟩:=Ox (key:=key) (nrem-(n+1)) p (n+1) 0 (by lia) (by lia) (by lia) hd (λi hi1 hi2=>by
  have:i=n:=by lia
  subst this;rfl)
 generalize Km (kl key) (kas_desc _ p (n+1) 0)=d at hr a1 a2 a3 a4 a5 a6 a7;obtain⟨p1,n1,q1⟩:=d;dsimp only at hr a1 a2 a3 a4 a5 a6 a7;by_cases hq:q1 > 0
 .rw[Qp hq]at hr
  have same:∀i,KA key (kas_rev p1 (n1-(q1+1)) n1) i=KA key p1 i:=λi=>by
   rw[RT (by lia)];split
   .rw[a4 _ (by lia) (by lia),a4 i (by lia) (by lia)]
   .rfl
  obtain⟨b1,b2,b3,b4,b5⟩:=Et (key:=key) (p:=kas_rev p1 (n1-(q1+1)) n1) (n:=n1) (nrem:=nrem) (by lia) (by lia) (by rw[Tn];lia) (λi j hij hj=>by rw[same,same];exact a3 i j hij hj);rw[hr];exact⟨(b1.trans WX).trans a1,(b2.trans Tn).trans a2,b3,b4,b5⟩
 .rw[Qw hq]at hr
  obtain⟨b1,b2,b3,b4,b5⟩:=Et (key:=key) (p:=p1) (n:=n1) (nrem:=nrem) (by lia) (by lia) (by lia) a3;rw[hr];exact⟨b1.trans a1,b2.trans a2,b3,b4,b5⟩
theorem vO{nrem:Nat}(h1:1<=nrem)(hz:nrem<=p.size) :
  let r:=Km (kl key) (kas_count nrem p)
  r.2.Perm p/\r.2.size=p.size/\srt key r.2 r.1/\1<=r.1/\r.1<=nrem:=by
 intro r;have hr:r=Km (kl key) (kas_count nrem p):=rfl;unfold kas_count at hr;rw[Rl]at hr
 obtain⟨a1,a2,a3,a4⟩:=NK (key:=key) (p:=p) (nrem-1) 1 (Qv _) (λi j hij hj=>by
  have:i=j:=by lia
  subst this;exact Ja _)
 generalize Km (kl key) (kas_asc p (nrem-1) 1)=n at hr a1 a2 a3 a4;by_cases hn:(n==nrem)=w5
 .rw[Qp hn]at hr
  unfold Km at hr;rw[hr];exact⟨Ui _,rfl,a1,a2,by show n<=nrem;lia⟩
 .rw[Qw hn]at hr
  have hlt:=a4 (by lia);by_cases hn1:n > 1
  .rw[Qp hn1]at hr
   unfold Km at hr;cases c:kl key (p.getD 0 0) (p.getD (n-1) 0)with
   |true=>rw[c]at hr;(try dsimp only at hr);rw[if_pos wZ]at hr;unfold Km at hr;rw[hr];exact⟨Ui _,rfl,a1,a2,by show n<=nrem;lia⟩
   |false=>
    rw[c]at hr;(try dsimp only at hr);rw[if_neg (by decide)]at hr;have hge:KA key p (n-1)<=KA key p 0:=Ul.mp (Jk c);have all   :=λi hi=>JR (JL (a1 i (n-1) (by lia) (by lia)) hge) (a1 0 i (by lia) hi)
    have same:∀i,KA key (kas_rev p 0 n) i=KA key p i:=λi=>by
     rw[RT (by lia)];split
     .rw[all _ (by lia),all i (by lia)]
     .rfl
    obtain⟨b1,b2,b3,b4,b5⟩:=EZ (key:=key) (p:=kas_rev p 0 n) (n:=n) (nrem:=nrem) a2 (by lia) (by rw[Tn];exact hz) (λi j hij hj=>by
     rw[same,same];by_cases zp:j=n
     .subst zp
      by_cases hin:i=j
      .subst hin;exact Ja _
      .rw[all i (by lia)]
       rw[all (j-1) (by lia)]at hlt;exact Int.le_of_lt hlt
     .rw[all i (by lia),all j (by lia)];exact Ja _)
    rw[hr];exact⟨b1.trans WX,b2.trans Tn,b3,b4,b5⟩
  .rw[Qw hn1]at hr
   have:n=1:=by lia
   subst this
   obtain⟨b1,b2,b3,b4,b5⟩:=EZ (key:=key) (p:=p) (n:=1) (nrem:=nrem) (Qv _) (by lia) hz (λi j hij hj=>by
    by_cases hij2:i=j
    .subst hij2;exact Ja _
    .have h0:i=0:=by lia
     have h1:j=1:=by lia
     subst h0;subst h1;exact Int.le_of_lt hlt)
   rw[hr];exact⟨b1,b2,b3,b4,b5⟩
theorem MA{k:Nat}(hs:srt key p k):∀(f l r:Nat),l<=r->r<=k->r-l<=f->(∀i,i<l->KA key p i<=KA key p k)->(∀i,r<=i->i<k->KA key p k<KA key p i) ->
  let m:=Km (kl key) (kas_place p k f l r)
  m<=k/\(∀i,i<m->KA key p i<=KA key p k)/\(∀i,m<=i->i<k->KA key p k<KA key p i)
 |0,l,r,hlr,hrk,hf,h1,h2=>⟨by show l<=k;lia,h1,λi (hi:l<=i)=>h2 i (by lia)⟩
 |f+1,l,r,hlr,hrk,hf,h1,h2=>by
  intro m;have hm:m=Km (kl key) _:=rfl;unfold kas_place at hm;by_cases hge:l ≥ r
  .rw[Qp hge]at hm
   unfold Km at hm;rw[hm];exact⟨by lia,h1,λi hi=>h2 i (by lia)⟩
  .rw[Qw hge]at hm
   unfold Km at hm;cases c:kl key (p.getD k 0) (p.getD ((l+r) / 2) 0)with
   |true=>rw[c]at hm;rw[hm];have hlt   :=Qa c;exact MA hs f l ((l+r) / 2) (by lia) (by lia) (by lia) h1 λi hi hik=>Int.lt_of_lt_of_le hlt (hs _ _ hi hik)
   |false=>rw[c]at hm;(try dsimp only at hm);rw[hm];have hle   :=Ul.mp (Jk c);exact MA hs f ((l+r) / 2+1) r (by lia) hrk (by lia) (λi hi=>JL (hs i ((l+r) / 2) (by lia) (by lia)) hle) h2
theorem GN:∀(f:Nat)(p:Array Nat)(k:Nat),k+f<=p.size->srt key p k->let r:=Km (kl key) (kas_bin f p k);r.Perm p/\r.size=p.size/\srt key r (k+f)
 |0,p,k,_,hs=>⟨Ui _,rfl,hs⟩
 |f+1,p,k,hz,hs=>by
  intro r;have hr:r=Km (kl key) _:=rfl;unfold kas_bin at hr;rw[Rl]at hr;obtain⟨a1,a2,a3⟩:=MA (key:=key) hs k 0 k (JM _) (Qv _) (by omega) (λi hi=>by omega) (λi h1 h2=>by omega);generalize Km (kl key) (kas_place p k k 0 k)=l at hr a1 a2 a3;have hk:k<p.size:=by omega
  obtain⟨b1,b2,b3⟩:=GN f (bubble p k (k-l)) (k+1) (by rw[bubble_size];omega) (λi j hij hj=>by
   rw[FY hk (by omega),FY hk (by omega),show k-(k-l)=l by omega];by_cases hi:i=l
   .rw[Qp hi]
    by_cases yB:j=l
    .rw[Qp yB];exact Ja _
    .rw[Qw yB,Qp (by omega)]
     exact Int.le_of_lt (a3 (j-1) (by omega) (by omega))
   .rw[Qw hi]
    by_cases hi2:l<i/\i<=k
    .rw[Qp hi2,Qw (show ¬j=l by omega),Qp (by omega)]
     exact hs _ _ (by omega) (by omega)
    .rw[Qw hi2]
     by_cases yB:j=l
     .rw[Qp yB];exact a2 i (by omega)
     .rw[Qw yB]
      split
      .exact hs _ _ (by omega) (by omega)
      .exact hs _ _ (by omega) (by omega))
  rw[hr];exact⟨b1.trans (bubble_perm _ _ _),b2.trans (bubble_size _ _ _),by rw[show k+(f+1)=k+1+f by omega];exact b3⟩
theorem xa{n:Nat}(h1:1<=n):let r:=Km (kl key) (kas_sort n);r.Perm (List.toArray (Ux n))/\r.size=n/\srt key r n:=by
 intro r;have hr:r=Km (kl key) _:=rfl;unfold kas_sort at hr;rw[Rl]at hr;have hsz:(List.toArray (Ux n)).size=n:=by simp
 obtain⟨a1,a2,a3,a4,a5⟩:=vO   (nrem:=n) h1 (by rw[hsz];exact Qv _);generalize Km (kl key) (kas_count n _)=d at hr a1 a2 a3 a4 a5;by_cases hlt:d.1<n
 .rw[Qp hlt]at hr
  have hmax:max d.1 1=d.1:=by lia
  rw[hmax]at hr;obtain⟨b1,b2,b3⟩:=GN  (n-d.1) d.2 d.1 (by lia) a3;rw[hr];exact⟨b1.trans a1,by lia,by rw[show d.1+(n-d.1)=n by lia]at b3;exact b3⟩
 .rw[Qw hlt]at hr
  unfold Km at hr;rw[hr];exact⟨a1,by lia,by rw[show d.1=n by lia]at a3;exact a3⟩
noncomputable def Asks{α:Type}(N:Nat)(R:α->Prop):KasT α->Prop
 |.ret a=>R a
 |.ask i j k=>i<N/\j<N/\∀b,Asks N R (k b)
theorem Asks.bind   {R:α->Prop}{S:β->Prop}{f}(hf:∀a,R a->Asks N S (f a)):∀{t},Asks N R t->Asks N S (t.bind f)
 |.ret a,h=>hf a h
 |.ask _ _ k,⟨h1,h2,h3⟩=>⟨h1,h2,λb=>Asks.bind hf (h3 b)⟩
theorem GM   {cmp}{s}{N}{R}(hc:∀i j C,i<N->j<N->C (lt i j) s->cmp i j C s):∀(t:KasT α)(Q),Asks N R t->Q (Km lt t) s->t.kasWp cmp Q s
 |.ret _,_,_,h=>h
 |.ask i j k,Q,⟨h1,h2,h3⟩,h=>hc i j _ h1 h2 (GM hc _ Q (h3 _) h)
def bnd(N:Nat)(p:Array Nat):Prop:=∀i,p.getD i 0<N
theorem Rs  {p q}(hN:0<N)(h:bnd N p)(e:q.Perm p):bnd N q:=λi=>by
 rw[Jy];cases z:q[i]? with
 |none=>simp_all
 |some v=>have hm   :=Array.mem_of_getElem? z;have hm2   :=e.mem_iff.mp hm;obtain⟨j,hj,e2⟩:=Array.mem_iff_getElem.mp hm2;have:=h j;simp_all
section
variable{N:Nat}(hN:0<N)
include hN
theorem NJ{p}(h:bnd N p):∀(f n),Asks N (λ_=>True) (kas_asc p f n)
 |0,_=>trivial
 |f+1,n=>⟨h _,h _,λb=>by
  cases b with
  |true=>trivial
  |false=>exact NJ h f _⟩
theorem Ow:∀(f)(p)(n q),bnd N p->Asks N (λr=>bnd N r.1) (kas_desc f p n q)
 |0,p,_,_,h=>h
 |f+1,p,n,q,h=>⟨h _,h _,λb=>by
  cases b with
  |true=>
   dsimp only;rw[Qp wZ];split
   .exact Ow f _ _ _ (Rs hN h WX)
   .exact Ow f _ _ _ h
  |false=>
   refine⟨h _,h _,λb=>?_⟩;cases b with
   |true=>exact h
   |false=>exact Ow f _ _ _ h⟩
theorem Es{p}{n nrem}(h:bnd N p):Asks N (λr=>bnd N r.2) (kas_tail3 n nrem p):=
 Asks.bind   (S:=λr   =>bnd N r.2) (f:=λm=>.ret (m,kas_rev p 0 n)) (λ_ _=>Rs   hN h WX) (NJ hN (Rs hN h WX) _ _)
theorem EY{p}{n nrem}(h:bnd N p):Asks N (λr=>bnd N r.2) (kas_descPart n nrem p):=
 Asks.bind (λr hr=>by
  split
  .exact Es hN (Rs hN hr WX)
  .exact Es hN hr) (Ow hN _ _ _ _ h)
theorem vN{p}{nrem}(h:bnd N p):Asks N (λr=>bnd N r.2) (kas_count nrem p):=
 Asks.bind  (λn _=>by
  split
  .exact h
  .split
   .refine⟨h _,h _,λb=>?_⟩
    cases b with
    |true=>exact h
    |false=>exact EY hN (Rs hN h WX)
   .exact EY hN h) (NJ hN h _ _)
theorem Mz{p}(h:bnd N p)(k):∀(f l r),Asks N (λ_=>True) (kas_place p k f l r)
 |0,_,_=>trivial
 |f+1,l,r=>by
  unfold kas_place;split
  .trivial
  .refine⟨h _,h _,λb=>?_⟩
   cases b with
   |true=>exact Mz h k f _ _
   |false=>exact Mz h k f _ _
theorem GL:∀(f)(p)(k),bnd N p->Asks N (λ_=>True) (kas_bin f p k)
 |0,_,_,_=>trivial
 |f+1,p,k,h=>Asks.bind  (λl _=>GL f _ _ (Rs hN h (bubble_perm _ _ _))) (Mz hN h k _ _ _)
end
theorem kZ  (hn:0<n):Asks n (λ_=>True) (kas_sort n):=by
 have hb:bnd n (List.toArray (Ux n)):=λi=>by
  by_cases hi:i<n
  .simp_all
  simp_all
 refine Asks.bind (λr hr=>?_) (vN hn hb);split
 .exact GL hn _ _ _ hr
 .trivial
end
noncomputable def KG(q:Int×Int):Int:=q.1*10000000+q.2
def okP(q:Int×Int):Prop:=-1000000<=q.2/\q.2<=1000000
theorem Ar  (hx:okP x)(hy:okP y):KG x<KG y ↔ (x.1<y.1∨x.1=y.1/\x.2<y.2):=by
 unfold KG okP at *
 lia
theorem qz  (hx:okP x)(hy:okP y)(h:KG x=KG y):x=y:=by
 unfold KG okP at *
 grind
section
variable{prog:Up}{w:World}{A:Around}{E:Um->Uo->Prop}{s:Uo}
def PF(h:Heap)(v:Um)(q:Int×Int):Prop:=∃a t u o n,v=.ref a/\h.get? a=O o/\o.cls=.type "tuple" /\ o.data=.seq #[.int q.1 t,.int q.2 u] n
theorem Aq{x y:Um}{p q:Int×Int}{Q:Bool->Uo->Prop}(hx:PF s.heap x p)(hy:PF s.heap y q)(h:Q (decide (p.1<q.1∨p.1=q.1/\p.2<q.2)) s):Uu (model prog w) A (keyLt' (tuples' w5) x y) Q E s:=by
 obtain⟨a,t,u,o,n,rfl,e1,c1,d1⟩:=hx;obtain⟨b,t',u',o',n',rfl,e2,c2,d2⟩:=hy;refine kat_lt e1 d1 e2 d2 ?_;refine kat_cons (wpAny_eqBool_int ?_);by_cases h1:p.1=q.1
 .have e:(p.1==q.1)=w5:=by simpa using h1
  rw[e];refine kat_yes (kat_cons (wpAny_eqBool_int ?_));by_cases h2:p.2=q.2
  .have e:(p.2==q.2)=w5:=by simpa using h2
   rw[e];have:decide (p.1<q.1∨p.1=q.1/\p.2<q.2)=w6:=QQ (by lia);rw[this]at h;exact h
  .have e:(p.2==q.2)=w6:=by simpa using h2
   rw[e];refine kat_no (kat_one _ _ (PyProof.Rows.lt_int ?_))
   have:decide (p.1<q.1∨p.1=q.1/\p.2<q.2)=decide (p.2<q.2):=by
    by_cases z:p.2<q.2
    .rw[QW z,QW (.inr ⟨h1,z⟩)]
    .rw[QQ z,QQ (by lia)]
   rw[this]at h;exact h
 .have e:(p.1==q.1)=w6:=by simpa using h1
  rw[e];refine kat_no (oneLt_int ?_)
  have:decide (p.1<q.1∨p.1=q.1/\p.2<q.2)=decide (p.1<q.1):=by
   by_cases z:p.1<q.1
   .rw[QW z,QW (.inl z)]
   .rw[QQ z,QQ (by lia)]
  rw[this]at h;exact h
noncomputable def YX(h:Heap):yc->LP->Prop
 |[],[]=>True
 |v::vs,q::qs=>PF h v q/\YX h vs qs
 |_,_=>False
theorem YX.get  : ∀{vs}{qs},YX h vs qs->vs.length=qs.length/\∀(i)(hi:i<vs.length),PF h (vs.getD i .none) (qs.getD i (0,0))
 |[],[],_=>⟨rfl,λi hi=>absurd hi (JS _)⟩
 |v::vs,q::qs,⟨h1,h2⟩=>by
  obtain⟨e,f⟩:=YX.get h2;refine⟨by simp_all,λi hi=>?_⟩;cases i with
  |zero=>exact h1
  |succ i=>exact f i (by simpa using hi)
theorem YX.tups  : ∀{vs}{qs},YX h vs qs->∃fs:yc,KatTups h vs fs/\fs.length=vs.length/\∀v∈fs,∃i t,v=.int i t
 |[],[],_=>⟨[],trivial,rfl,λ_ h=>by cases h⟩
 |v::vs,q::qs,⟨hp,h2⟩=>by
  obtain⟨a,t,u,o,n,rfl,e1,c1,d1⟩:=hp;obtain⟨fs,f1,f2,f3⟩:=YX.tups h2;refine⟨.int q.1 t::fs,.cons e1 c1 d1 wZ f1,by simp_all,λv hv=>?_⟩;rcases QE.mp hv with rfl|hv
  .exact⟨_,_,rfl⟩
  .exact f3 v hv
theorem YX.mono  (k:∀b o,h.get? b=O o->h'.get? b=O o):∀{vs}{qs},YX h vs qs->YX h' vs qs
 |[],[],_=>trivial
 |v::vs,q::qs,⟨hp,h2⟩=>by obtain⟨a,t,u,o,n,rfl,e1,c1,d1⟩:=hp;exact⟨⟨a,t,u,o,n,rfl,k _ _ e1,c1,d1⟩,YX.mono k h2⟩
def Pq(qs:LP)(π:yi):Prop:=π.Perm (Ux qs.length)/\(π.map λi=>qs.getD i (0,0)).Pairwise λx y=>KG x<=KG y
theorem wY{a:Uq}{vs:yc}{qs:LP}{n:Nat}{P:Fin->Uo->Prop}(ho:s.heap.get? a=O (seqObj "list" vs.toArray n))
  (hp:YX ((s.heap.update a (Obj.mapSeq λ_=>#[]))) vs qs) (hq:∀q∈qs,okP q) (h64:vs.length<64)
  (h:∀π:yi,Pq qs π->P (.done (.ret .none)) {s with heap:=sortedHeap s.heap a vs (List.toArray (π.map λi=>vs.getD i .none))}) :
  Uu (model prog w) A (Builtin.«list.sort» ⟨[.ref a],[]⟩) P E s:=by
 obtain⟨hl,hget⟩:=hp.get;rw[list_sort_plain];have ha:a<s.heap.objs.size:=Ql ho;refine Qf (listItems_at ho wZ ?_);refine Qf (listUpdate_at ho wZ ?_);obtain⟨e1,ho1⟩:∃e1,(s.heap.update a (Obj.mapSeq λ_=>#[])).get? a=O (seqObj "list" #[] e1):=⟨_,get?_update_seq ho (λ_=>#[])⟩
 refine Qf (seqEpoch_at ho1 wZ ?_);refine Qf (wpAny_newTuple ?_);refine Qf (wpAny_newList ?_);refine wpAny_holding ?_;have ho6:(((s.heap.update a (Obj.mapSeq λ_=>#[])).push (seqObj "tuple" vs.toArray 0)).push (seqObj "list" #[] 0)).get? a=O (seqObj "list" #[] e1):=by rw[Heap.get?_push_ne _ _ _ (by rw[size_push',Heap.size_update];exact QX (JW ha)),Heap.get?_push_ne _ _ _ (by rw[Heap.size_update];exact QX ha)];exact ho1
 have hp6:YX (((s.heap.update a (Obj.mapSeq λ_=>#[])).push (seqObj "tuple" vs.toArray 0)).push (seqObj "list" #[] 0)) vs qs:=hp.mono λb o e=>Qm _ (Qm _ e)
 dsimp only;have hsz:vs.toArray.size=vs.length:=by simp
 by_cases h2:vs.toArray.size<2
 .rw[Qp h2,Qp h2]
  refine Qf (Qq ?_);rw[StateT.run_pure];refine Qf (Qq ?_);dsimp only;refine Qf (seqEpoch_at ho6 wZ ?_);refine Qf (listUpdate_at ho6 wZ ?_ (hsz2:=by rw[Array.size_map];show(pairsOf vs).size<=_;rw[pairsOf_size,sizeLine_eq];lia));simp only[bne_self_eq_false,J6,if_false]
  have hid:(arrOf (SortSt.mk' general' (vs.toArray.zip vs.toArray) #[] 7 w4)).map (·.2)=List.toArray ((Ux vs.length).map λi=>vs.getD i .none):=by
   show(vs.toArray.zip vs.toArray).map (·.2)=_
   apply Array.toList_inj.mp;apply Jp;intro i;simp only[Array.toList_map,Array.toList_zip,Qd,List.getElem?_zip_eq_some];by_cases hi:i<vs.length
   .simp[List.getElem?_zip_eq_some,hi,List.getElem?_range]
   .simp[hi]
  rw[hid];refine Qq (h (Ux vs.length) ⟨by rw[hl],?_⟩);rw[List.pairwise_map];rw[hsz]at h2
  rcases(show vs.length=0∨vs.length=1 by lia)with z|z<;>rw[z]
  .exact .nil
  .exact List.pairwise_singleton _ _
 .rw[Qw h2,Qw h2]
  rw[hsz]at h2;obtain⟨fs,f1,f2,f3⟩:=hp6.tups;refine Qf (kat_kind (T:=.type "int") f1 (by lia) (λv hv=>by obtain⟨i,t,rfl⟩:=f3 v hv;exact(show Looks _ _ (pure (Value.type "int")) _ from .now)) wZ ?_)
  refine Qf (QL (kat_run (ks:=vs) (G:=λp s'=>s' = {s with heap:=((s.heap.update a (Obj.mapSeq λ_=>#[])).push (seqObj "tuple" vs.toArray 0)).push (seqObj "list" #[] 0)}/\p=Km (kl λi=>KG (qs.getD i (0,0))) (kas_sort vs.length))
   (Q:=λst' s'=>s' = {s with heap:=((s.heap.update a (Obj.mapSeq λ_=>#[])).push (seqObj "tuple" vs.toArray 0)).push (seqObj "list" #[] 0)}/\failedOf st'=w4/\arrOf st'=(Km (kl λi=>KG (qs.getD i (0,0))) (kas_sort vs.length)).map (kas_item (vs.toArray.zip vs.toArray)))
   rfl (by lia) h64 (λp st' s' a1 a2 a3 a4=>⟨a4.1,a3,by rw[a2,a4.2]⟩) ?_) ?_ λ_ _ e=>e)
  .refine GM (N:=vs.length) (R:=λ_=>True) (lt:=kl λi=>KG (qs.getD i (0,0))) (λi j C hi hj hC=>?_) _ _ (kZ (by lia)) ⟨rfl,rfl⟩
   refine Aq (YX.get hp6 |>.2 i hi) (YX.get hp6 |>.2 j hj) ?_;have oi:okP (qs.getD i (0,0)):=hq _ (by rw[Qh,Qe (by lia)];exact JE _);have oj:okP (qs.getD j (0,0)):=hq _ (by rw[Qh,Qe (by lia)];exact JE _);have e:decide ((qs.getD i (0,0)).1<(qs.getD j (0,0)).1∨(qs.getD i (0,0)).1=(qs.getD j (0,0)).1/\(qs.getD i (0,0)).2<(qs.getD j (0,0)).2)=kl (λi=>KG (qs.getD i (0,0))) i j:=by unfold kl;exact decide_eq_decide.mpr (Ar oi oj).symm
   rw[e];exact hC
  .rintro⟨⟨⟩,st'⟩ s' ⟨rfl,hf,har⟩
   dsimp only;obtain⟨b1,b2,b3⟩:=xa (key:=λi=>KG (qs.getD i (0,0))) (n:=vs.length) (by lia);generalize Km (kl λi=>KG (qs.getD i (0,0))) (kas_sort vs.length)=p at har b1 b2 b3;have hout:=kat_snds (ks:=vs) (vs:=vs) wZ har;have hsz2:((arrOf st').map (·.2)).size=vs.length:=by rw[hout,Jf,Qb,Ug,b2]
   refine Qf (seqEpoch_at ho6 wZ ?_);refine Qf (listUpdate_at ho6 wZ ?_ (hsz2:=by rw[hsz2,sizeLine_eq];lia));rw[hf];simp only[bne_self_eq_false,J6,if_false];rw[hout];refine Qq (h p.toList ⟨?_,?_⟩)
   .have:=Array.perm_iff_toList_perm.mp b1
    rw[←hl];exact this
   .rw[List.pairwise_map,List.pairwise_iff_getElem]
    intro i j hi hj hij;rw[Ug,b2]at hi hj;have:=b3 i j (by lia) hj;unfold KA at this;rw[Jy,Jy,Array.getElem?_eq_getElem (by lia),Array.getElem?_eq_getElem (by lia)]at this;simpa using this
end
section
variable{prog:Up}{w:World}{A:Around}{E:Um->Uo->Prop}{s:Uo}
theorem wE{l:Uq}{vs:yc}{qs:LP}{Q:Um->Uo->Prop}(hl:s.heap.IsList l vs.toArray)(hp:YX s.heap vs qs)(hq:∀q∈qs,okP q)(h64:vs.length<64)
  (h:∀π:yi,Pq qs π->Q (.ref (s.heap.objs.size+1)) {s with heap:=sortedAll s.heap vs (List.toArray (π.map λi=>vs.getD i .none))}) :
  Uu (model prog w) A (call (.builtin "sorted") [.ref l]) Q E s:=by
 refine Calls.call_function_entry kind_sorted plain_sorted entry_sorted (args_sorted1 _) ?_;unfold Builtin.«sorted»;refine Qf  (Qq ?_);refine Qf (collect_list hl ?_);refine Qf (wpAny_newList ?_);have hsz:((s.heap.push (seqObj "list" #[] 0)).update s.heap.objs.size (Obj.mapSeq (· ++ vs.toArray))).objs.size=s.heap.objs.size+1:=by rw[Heap.size_update,size_push']
 have hoL:(((s.heap.push (seqObj "list" #[] 0)).update s.heap.objs.size (Obj.mapSeq (· ++ vs.toArray))).push (seqObj "list" vs.toArray 0)).get? (s.heap.objs.size+1)=O (seqObj "list" vs.toArray 0):=by rw[←hsz];exact QD _ wZ
 rw[hsz];refine Qf (wpAny_holding (wpAny_call_entry slot_list_sort ⟨_,hoL,rfl⟩ entry_list_sort (wY (qs:=qs) hoL (hp.mono λb o e=>?_) hq h64 λπ a1=>⟨_,rfl,?_⟩) (args_list_sort _)))
 .have hlt:b<s.heap.objs.size:=Ql e
  dsimp only;have zY:(b:Nat)<s.heap.objs.size:=hlt;rw[Heap.get?_update_ne _ _ _ _ (QX (JW zY)),Heap.get?_push_ne _ _ _ (by rw[hsz];exact QX (JW zY)),Heap.get?_update_ne _ _ _ _ (QX hlt),Heap.get?_push_ne _ _ _ (QX hlt)];exact e
 .exact Qq ⟨_,rfl,h π a1⟩
end
end DL
namespace DL
open PySem PySem.Spec L2
open PyProof.Rows hiding St
section
variable{X:Cx}
theorem GK   {σ:St}{H}(I:Inv X pins σ H s):∀{as:ye}{us}{qs},Vals (as.map V.ref) us->as.length=qs.length->(∀(i:Nat) a q,as[i]?=O a->qs[i]?=O q->SqT X.K H a [.int q.1,.int q.2])->YX s.heap us qs
 |[],_,[],.nil,_,_=>trivial
 |a::as,_,q::qs,.cons r t,hl,h=>by refine⟨?_,GK I t (by simpa using hl) λi a q h1 h2=>h (i+1) a q (by simpa using h1) (by simpa using h2)⟩;cases r;obtain⟨its,rv,⟨o,e,c,n,d⟩,_⟩:=I.tuple (h 0 a q wZ wZ);obtain⟨u,v,rfl,r1,r2⟩:=rv.two;obtain⟨t1,rfl⟩:=r1;obtain⟨t2,rfl⟩:=r2;exact⟨a,t1,t2,o,n,rfl,e,c,by simpa using d⟩
theorem FX{as:ye}{us}(r:Vals (as.map V.ref) us):∀(π:yi),(∀i∈π,i<as.length)->Vals (π.map λi=>V.ref (as.getD i 0)) (π.map λi=>us.getD i .none)
 |[],_=>.nil
 |i::π,h=>by
  refine .cons ?_ (FX r π λj hj=>h j (Qi _ hj));have hi:=h i Qj;have e:(as.map V.ref)[i]?=O (.ref (as.getD i 0)):=by simp[List.getD,List.getElem?_eq_getElem hi]
  obtain⟨u,e2,ru⟩:=r.get e;simp only[List.getD,e2];exact ru
theorem vM:Y6 X (.builtin "sorted") (λxs H Q=>∃l,∃as:ye,∃qs:LP,xs=[.ref l]/\SqL X.K H l (as.map V.ref)/\as.length=qs.length/\(∀(i:Nat) a q,as[i]?=O a->qs[i]?=O q->SqT X.K H a [.int q.1,.int q.2])/\(∀q∈qs,okP q)/\qs.length<64 /\
  ∀π p,Pq qs π->H p=w4->Q (.ref p) (upd H p (.lst (π.map λi=>V.ref (as.getD i 0))))):=by
 intro pins s σ H xs us Q I rx h;obtain⟨l,as,qs,rfl,hq,hl,ht,ho,hb,q⟩:=h;obtain⟨u,rfl,ru⟩:=rx.one;cases ru;obtain⟨its,rv,p,hz⟩:=I.list hq;have hn:its.length=qs.length:=by have:=rv.length;rw[Qb]at this;lia
 refine wE (qs:=qs) p.isList (GK I rv hl ht) ho (by lia) λπ hπ=>?_
 obtain⟨e,he⟩:=sortedAll_at s.heap its _
 have hπl:∀i∈π,i<as.length:=λi hi=>by
  have:=hπ.1.mem_iff.mp hi;rw[QZ]at this
  lia
 refine⟨.ref _,_,I.laid  (λb o=>sortedAll_old) (JV _) (show Ys X.prog X.w _ _ _ (.lst _)from⟨?_,_,e,FX rv π hπl,he⟩),rfl,q π _ hπ (I.hok.fresh (JV _))⟩;rw[Qb,hπ.1.length_eq,Qo];rw[Qb]at hz
 lia
noncomputable def PD:D->Option (Int×Int)
 |.tuple [.int a,.int b]=>O (a,b)
 |_=>w4
noncomputable def V0:w9->Option LP
 |[]=>O []
 |d::r=>(PD d).bind λq=>(V0 r).map (q :: ·)
noncomputable def U4(q:Int×Int):D:=.tuple [.int q.1,.int q.2]
theorem kY   (h:PD d=O q):d=U4 q:=by
 unfold PD at h;split at h
 .cases h;rfl
 simp_all
theorem EU:∀{ds}{qs},V0 ds=O qs->ds=qs.map U4
 |[],qs,h=>by cases h;rfl
 |d::r,qs,h=>by
  unfold V0 at h;cases z:PD d with
  |none=>simp_all
  |some q=>
   rw[z]at h;cases z2:V0 r with
   |none=>simp_all
   |some qs'=>rw[z2]at h;cases h;rw[kY z,EU z2];rfl
theorem EM:∀qs:LP,V0 (qs.map U4)=O qs
 |[]=>rfl
 |q::r=>by rw[Qt,V0,EM r];rfl
noncomputable def WK(qs:LP):LP:=qs.mergeSort λx y=>decide (KG x<=KG y)
theorem Er(qs:LP):(WK qs).Perm qs:=List.mergeSort_perm ..
theorem FW(qs):(WK qs).Pairwise λx y=>KG x<=KG y:=by have:=List.pairwise_mergeSort (le:=λx y   =>decide (KG x<=KG y)) (by intro a b c;simp;lia) (by intro a b;simp;lia) qs;exact this.imp (by simp)
theorem NI:∀{a b:LP},(∀x∈a,okP x)->a.Perm b->a.Pairwise (λx y=>KG x<=KG y)->b.Pairwise (λx y=>KG x<=KG y)->a=b
 |[],b,_,p,_,_=>by simp_all
 |x::a,[],_,p,_,_=>by simp_all
 |x::a,y::b,ok,p,ha,hb=>by
  have hx:KG y<=KG x:=by
   rcases QE.1 (p.mem_iff.1 (Qj ..))with e|e
   .simp_all
   .exact(JO.1 hb).1 x e
  have hy:KG x<=KG y:=by
   rcases QE.1 (p.mem_iff.2 (Qj ..))with e|e
   .simp_all
   .exact(JO.1 ha).1 y e
  have oky   :=ok y (p.mem_iff.2 (Qj ..));have e:=qz (ok x (Qj ..)) oky (JR hy hx);subst e;rw[NI (λz hz=>ok z (Qi _ hz)) (List.Perm.cons_inv p) (JO.1 ha).2 (JO.1 hb).2]
theorem qy   (ok:∀q∈qs,okP q)(h:Pq qs π):(π.map λi=>qs.getD i (0,0))=WK qs:=by
 have hp   :=by
  have h1:=h.1.map λi=>qs.getD i (0,0)
  have e:(Ux qs.length).map (λi=>qs.getD i (0,0))=qs:=by
   apply Jp;intro i;rw[Qd];by_cases hi:i<qs.length
   .rw[List.getElem?_range hi];simp[List.getD,List.getElem?_eq_getElem hi]
   .simp_all
  rw[e]at h1;exact h1
 exact NI (λx hx=>ok x (hp.mem_iff.mp hx)) (hp.trans (Er qs).symm) h.2 (FW qs)
noncomputable def okPB(q:Int×Int):Bool:=decide (-1000000<=q.2/\q.2<=1000000)
noncomputable def RS:w9->ya
 |[.list ds]=>(match V0 ds with
  |some qs=>if qs.length<64/\qs.all okPB=w5 then O (.list ((WK qs).map U4))else w4
  |none=>w4)
 |_=>w4
theorem vL   (h:RS xs=O d):∃qs:LP,xs=[.list (qs.map U4)]/\qs.length<64/\(∀q∈qs,okP q)/\d=.list ((WK qs).map U4):=by
 unfold RS at h;split at h
 .rename_i ds
  cases z:V0 ds with
  |none=>simp_all
  |some qs=>
   rw[z]at h;dsimp only at h;split at h
   .rename_i c
    cases h;exact⟨qs,by rw[EU z],c.1,λq hq=>(show -1000000<=q.2/\q.2<=1000000 from Qa (Je.mp c.2 q hq)),rfl⟩
   simp_all
 simp_all
theorem FV{K}{G}:∀{vs}{qs:LP},Reps K G vs (qs.map U4)->∃as:ye,vs=as.map V.ref/\as.length=qs.length/\∀(i:Nat) a q,as[i]?=O a->qs[i]?=O q->SqT K G a [.int q.1,.int q.2]
 |_,[],.nil=>⟨[],rfl,rfl,λi a q h=>by simp_all⟩
 |_,q::qs,.cons r t=>by
  obtain⟨as,rfl,hl,h⟩:=FV t;obtain⟨a,ws,rfl,h1,r1⟩:=r.tup_inv;cases r1 with
  |cons ra rb=>
   obtain⟨v,rfl,rb'⟩:=rb.one_inv;refine⟨a::as,rfl,by simp_all,λi a' q' e1 e2=>?_⟩;cases i with
   |zero=>cases e1;cases e2;rw[ra.int_inv,rb'.int_inv]at h1;simp_all
   |succ i=>exact h i a' q' (by simpa using e1) (by simpa using e2)
theorem qx{K}{G}{a}{q}(h:SqT K G a [.int q.1,.int q.2]):Rep K G (.ref a) (U4 q):=.tup h (.cons (.int _) (.cons (.int _) .nil))
theorem FT{K}{G}{as:ye}{qs:LP}(hl:as.length=qs.length)(h:∀(i:Nat) a q,as[i]?=O a->qs[i]?=O q->SqT K G a [.int q.1,.int q.2]):∀π:yi,(∀i∈π,i<qs.length)->Reps K G (π.map λi=>V.ref (as.getD i 0)) ((π.map λi=>qs.getD i (0,0)).map U4)
 |[],_=>.nil
 |i::π,hb=>by
  refine .cons ?_ (FT hl h π λj hj=>hb j (Qi _ hj));have hi:=hb i Qj;refine qx (h i _ _ ?_ ?_)
  .simp_all
  simp_all
theorem Ap:Y9 X (.builtin "sorted") RS:=by refine⟨_,vM,λvs G H ds d Q s r e k=>?_⟩;obtain⟨qs,rfl,h64,ok,rfl⟩:=vL e;obtain⟨v,rfl,q1⟩:=r.one_inv;obtain⟨l,ws,rfl,h1,r1⟩:=q1.lst_inv;obtain⟨as,rfl,hl,ht⟩:=FV r1;refine⟨l,as,qs,rfl,s.seq h1,hl,λi a q e1 e2=>Xl s (ht i a q e1 e2),ok,h64,λπ p hπ hp=>?_⟩;have hb:∀i∈π,i<qs.length:=λi hi=>QZ.mp (hπ.1.mem_iff.mp hi);have rr:=(FT hl ht π hb).mono (ZQ (s.free hp):Same G (upd G p (.lst (π.map λi=>V.ref (as.getD i 0)))));rw[qy ok hπ]at rr;exact k _ _ _ (Ext.new s hp) (.lst (SqL.of Zp) rr)
theorem Y9.or   (h1:Y9 X f p)(h2:Y9 X f q):Y9 X f (λxs=>(p xs).orElse λ_=>q xs):=by
 obtain⟨r1,c1,k1⟩:=h1;obtain⟨r2,c2,k2⟩:=h2;refine⟨λxs H Q=>r1 xs H Q∨r2 xs H Q,λpins s σ H xs us Q I rx h=>?_,λvs G H ds d Q s r e k=>?_⟩
 .rcases h with h|h
  .exact c1 pins s σ H xs us Q I rx h
  .exact c2 pins s σ H xs us Q I rx h
 .dsimp only at e
  cases z:p ds with
  |some d'=>rw[z]at e;cases e;exact .inl (k1 vs G H ds _ Q s r z k)
  |none=>rw[z]at e;exact .inr (k2 vs G H ds _ Q s r e k)
noncomputable def Td(xs:w9):ya:=(SV xs).orElse λ_=>RS xs
theorem DS:Y9 X (.builtin "sorted") Td:=BJ.or Ap
theorem Ep  (h:ns.length<64):Td [.list (ns.map .int)]=O (.list ((YE ns).map .int)):=by unfold Td;rw[xf h];rfl
theorem kX  (h:qs.length<64)(ok:∀q∈qs,okP q):Td [.list (qs.map U4)]=O (.list ((WK qs).map U4)):=by
 cases qs with
 |nil=>
  have e1:WK []=[]:=by unfold WK;simp
  have e2:YE []=[]:=by unfold YE;simp
  have:=Ep (ns:=[]) (by decide);rw[e2]at this;rw[e1];exact this
 |cons q r=>unfold Td;unfold RS;dsimp only;rw[EM];exact Qp ⟨h,Je.mpr λq hq=>QW (ok q hq)⟩
end
section
variable{X:Cx}{B G0:Hp}{e o a b c tg:Us}{pos p2:Pos}{es rest:yb}{te to ti:TE}
noncomputable def SR{β:Type}(p:D->D->Option β)(f:M D)(j:Nat):M β:=Ke f λx=>λZ=>match Z[j]? with
 |some (O (.pub d))=>Kf (p x d) Z
 |some (O (.own ds))=>Kf (p x (.list ds)) Z
 |_=>.bad
theorem DH{K}{σ}{H}{p}{r:R2}{j}{f}{Q}{QV}(hq:∀t H3,Q t H3->QV (.bl t) H3)
  (hr:∀v u G H x y d Q,Same G H->Rep K G v x->Rep K G u y->p x y=O d->Q (.bl d) H->r v u H Q)
  (q:tBo K B G0 (SR p f j) σ H Q):tD K B G0 f σ H λx H1=>Zg j σ H1 λy H2=>r x y H2 QV:=by
 refine tM.one  q λv H2 G Z x k rx a=>?_
 cases z:Z[j]? with
 |none=>rw[z]at a;exact a.elim
 |some o=>
  cases o with
  |none=>rw[z]at a;exact a.elim
  |some sl=>
   cases sl with
   |deep _ _=>rw[z]at a;exact a.elim
   |pub d=>rw[z]at a;obtain⟨d',e',a'⟩:=aft.opt a;obtain⟨u,h1,h2⟩:=k.pub j d z;exact⟨u,h1,hr v u G H2 x d d' _ k.gh rx h2 e' (hq _ _ (a' d' G H2 k (.refl _) wZ))⟩
   |own ds=>rw[z]at a;obtain⟨d',e',a'⟩:=aft.opt a;obtain⟨ad,vs,h1,h2,h3,h4,h5⟩:=k.own j ds z;exact⟨.ref ad,h1,hr v _ H2 H2 x _ d' _ (.refl _) (rx.mono k.gh) (.lst (SqL.of h4) (h5.mono k.gh)) e' (hq _ _ (a' d' G H2 k (.refl _) wZ))⟩
theorem Ao    {f}(o:OpB X (Uw op) p)(ha:PE X a (tD X.K B G0 f))(hb:PE X b (Zg j))(hm:behindInMarks op b=w6) :
  PT X (.Compare a [op] [b] pos) (tBo X.K B G0 (SR p f j)):=by
 obtain⟨r,h,i⟩:=o;exact Yo (Nn h ha hb hm) λσ H Q q=>DH (λt H3 z=>⟨t,rfl,z⟩) i q
theorem NH   {f}{j}{Z Z1}{x}{ds}{r:β}(h1:f Z=.ok x Z1)(h2:Z1[j]?=O (O (.own ds)))(h3:p x (.list ds)=O r):SR p f j Z=.ok r Z1:=by exact K6 h1 (by rw[h2];exact YG h3)
end
noncomputable def RR(Z:US)(j:Nat):ya:=match Z[j]? with
 |some (O (.pub d))=>O d
 |some (O (.own ds))=>O (.list ds)
 |some (O (.deep _ d))=>O d
 |_=>w4
theorem EOk.tree{K}{B G0 G H}{σ}{Z}{j}{d}(k:EOk K B G0 G H σ Z)(h:RR Z j=O d):∃v,σ[j]?=O (O v)/\Rep K H v d:=by
 unfold RR at h;split at h
 .rename_i d' e
  cases h;obtain⟨v,h1,h2⟩:=k.pub j _ e;exact⟨v,h1,h2.mono k.gh⟩
 .rename_i ds e
  cases h;obtain⟨a,vs,h1,h2,h3,h4,h5⟩:=k.own j ds e;exact⟨.ref a,h1,.lst (SqL.of h4) (h5.mono k.gh)⟩
 .rename_i p d' e
  cases h;obtain⟨ω,k1,k2⟩:=k.dp;obtain⟨v,fp,s,r,_⟩:=k1 j p _ e;exact⟨v,s,r.rep k.gh⟩
 simp_all
end DL
namespace HT
open PySem PyProof.Rows
end HT
namespace DL
open PySem PySem.Spec L2
open PyProof.Rows hiding St
section
variable{X:Cx}
noncomputable def SQ(x y:D):Option w9:=match x,y with
 |.list xs,.int k=>if -1000000<=k/\k<=1000000/\xs.length*k.toNat<=1000000 then O (Uy k.toNat xs).flatten else w4
 |_,_=>w4
theorem kW   (h:SQ x y=O ds):∃xs k,x=.list xs/\y=.int k/\(-1000000<=k/\k<=1000000/\xs.length*k.toNat<=1000000)/\ds=(Uy k.toNat xs).flatten:=by
 unfold SQ at h;split at h
 .simp_all
 simp_all
noncomputable def SO(f g:M D):M w9:=Ke f λx=>Ke g λy=>Kf (SQ x y)
theorem HD{f g}(ha:PE X a (tD X.K B G0 f))(hb:PE X b (tD X.K B G0 g)):PE X (.BinOp a .Mult b pos) (tL X.K B G0 (SO f g)):=
 Kt (M6 HU ha hb) λσ H Q ⟨G,Z,k,q⟩=>by
  refine⟨G,Z,k,?_⟩;unfold SO Ke at q;cases z:f Z with
  |bad=>simp_all
  |ok x Z1=>
   rw[z]at q;dsimp only at q;intro v G1 H1 k1 s1 r1;refine⟨G1,Z1,k1,?_⟩;cases z2:g Z1 with
   |bad=>simp_all
   |ok y Z2=>
    rw[z2]at q;dsimp only[Kf]at q;intro u G2 H2 k2 s2 r2;cases z3:SQ x y with
    |none=>simp_all
    |some ds=>rw[z3]at q;obtain⟨xs,i,rfl,rfl,c,rfl⟩:=kW z3;obtain⟨l,vs,rfl,h1,w⟩:=r1.lst_inv;exact⟨l,i,vs,rfl,r2.int_inv,k2.gh.seq (s2.seq h1),by lia,by lia,by rw[w.length];exact QN c.2.2 lim,λp hp=>q p _ G2 _ (k2.ext (Ext.hid k2.gh hp)) (s1.trans s2) (NewL.of k2 hp ((w.mono s2).rep _))⟩
theorem HC  {Z Z1 Z2}{x}{n}(h1:f Z=.ok (.list [x]) Z1)(h2:g Z1=.ok (.int n) Z2)(h:n<=1000):SO f g Z=.ok (Uy n x) Z2:=by
 unfold SO Ke;rw[h1];dsimp only;rw[h2];dsimp only[Kf];have e:SQ (.list [x]) (.int n)=O (Uy n x):=by unfold SQ;dsimp only;rw[Qp ⟨by lia,by lia,by show 1*_<=_;lia⟩];simp_all
 rw[e]
end
end DL
namespace DL
open PySem
theorem lz0{P:yc->Prop}{us}(hl:us.length=0)(h:P []):P us:=by simp_all
theorem lzS{P:yc->Prop}{us}{n}(hl:us.length=n+1)(h:∀a r,r.length=n->P (a::r)):P us:=by
 cases us with
 |nil=>simp_all
 |cons a r=>exact h a r (Nat.succ.inj hl)
theorem lz1{P:yc->Prop}{us}(hl:us.length=1)(h:∀a,P [a]):P us:=lzS hl λa r e=>lz0 (P:=λr=>P _) e (h a)
theorem lz2{P:yc->Prop}{us}(hl:us.length=2)(h:∀a b,P [a,b]):P us:=lzS hl λa r e=>lz1 (P:=λr=>P _) e (h a)
theorem lz3{P:yc->Prop}{us}(hl:us.length=3)(h:∀a b c,P [a,b,c]):P us:=lzS hl λa r e=>lz2 (P:=λr=>P _) e (h a)
theorem lz4{P:yc->Prop}{us}(hl:us.length=4)(h:∀a b c d,P [a,b,c,d]):P us:=lzS hl λa r e=>lz3 (P:=λr=>P _) e (h a)
theorem lz5{P:yc->Prop}{us}(hl:us.length=5)(h:∀a b c d e,P [a,b,c,d,e]):P us:=lzS hl λa r e=>lz4 (P:=λr=>P _) e (h a)
theorem bz1  {ps:List Str}{us}(hl:us.length=1)(h:∀a,bindArgs fd {pos:=[a]}=pure (ps.zip [a])):bindArgs fd {pos:=us}=pure (ps.zip us):=lz1 (P:=λus=>bindArgs fd {pos:=us}=pure _) hl h
theorem bz2  {ps:List Str}{us}(hl:us.length=2)(h:∀a b,bindArgs fd {pos:=[a,b]}=pure (ps.zip [a,b])):bindArgs fd {pos:=us}=pure (ps.zip us):=lz2 (P:=λus=>bindArgs fd {pos:=us}=pure _) hl h
theorem bz3  {ps:List Str}{us}(hl:us.length=3)(h:∀a b c,bindArgs fd {pos:=[a,b,c]}=pure (ps.zip [a,b,c])):bindArgs fd {pos:=us}=pure (ps.zip us):=lz3 (P:=λus=>bindArgs fd {pos:=us}=pure _) hl h
theorem bz4  {ps:List Str}{us}(hl:us.length=4)(h:∀a b c d,bindArgs fd {pos:=[a,b,c,d]}=pure (ps.zip [a,b,c,d])):bindArgs fd {pos:=us}=pure (ps.zip us):=lz4 (P:=λus=>bindArgs fd {pos:=us}=pure _) hl h
theorem bz5  {ps:List Str}{us}(hl:us.length=5)(h:∀a b c d e,bindArgs fd {pos:=[a,b,c,d,e]}=pure (ps.zip [a,b,c,d,e])):bindArgs fd {pos:=us}=pure (ps.zip us):=lz5 (P:=λus=>bindArgs fd {pos:=us}=pure _) hl h
end DL
namespace DL
open PySem PySem.Spec L2
open PyProof.Rows hiding St
noncomputable def whole(h:Heap):Frag:=(Ux h.objs.size).filterMap λa=>(h.get? a).map λo=>(a,o)
theorem FS{g:Uq->Option Obj}{x}:∀l:ye,(l.filterMap λa=>(g a).map λo=>(a,o)).lookup x=if x∈l then g x else w4
 |[]=>rfl
 |y::l=>by
  have ih:=FS (g:=g) (x:=x) l;by_cases e:x=y
  .subst e
   rw[Qp Qj];cases z:g x with
   |none=>rw[List.filterMap_cons_none (by simp_all),ih,z];split<;>rfl
   |some o=>simp_all
  .have m:(x∈y::l)=(x∈l):=by simp_all
   have b:(x==y)=w6:=by simpa using e
   have ih':(if x∈y::l then g x else w4)=_:=(by simp only[m];exact ih.symm)
   rw[ih'];cases z:g y with
   |none=>simp_all
   |some o=>rw[List.filterMap_cons_some (by rw[z];rfl),Q7,b]
theorem Pj   : (whole h).lookup a=h.get? a:=by
 unfold whole;rw[FS];split
 .rfl
 .rename_i n
  cases z:h.get? a with
  |none=>rfl
  |some o=>exact absurd (QZ.mpr (Ql z)) n
theorem qw(h:Heap):(whole h).In h:=λa o e=>by rw[Pj]at e;exact e
noncomputable def DG(st:Stmt):Option DefRec:=match st with
 |.FunctionDef name a b _ _ _ sc _ _ pos=>O ⟨name,a,b,sc,pos⟩
 |_=>w4
noncomputable def O1(st:Stmt):Option Str:=match st with
 |.FunctionDef name _ _ _ _ _ _ _ _ _=>O name
 |_=>w4
noncomputable def DF(st:Stmt):Pos:=match st with
 |.FunctionDef _ _ _ _ _ _ _ _ _ pos=>pos
 |_=>⟨0,0,0,0⟩
noncomputable abbrev ZM(p:Up)(i:Nat):Stmt:=p.main.body.getD i (.Pass ⟨0,0,0,0⟩)
noncomputable def RQ(p:Up)(ix:yi):List DefRec:=ix.filterMap λi=>DG (ZM p i)
section
variable{p q:Up}{loose:List Str}{mean:ExcName->yf}{mg mb:Str->yf}{h:Heap}{w:World}
theorem Lm  (T:Top q loose mean mg mb h)(e:recsOf q=RQ p ix)(i:Nat)(x:Str)(hi:ix.contains i=w5)(hn:O1 (ZM p i)=O x):∃f fd,mg x=O (.ref f)/\Fun (whole h) x x (ZM p i) f fd:=by
 cases hs:ZM p i with
 |FunctionDef name a b _ _ _ sc _ _ pos=>
  rw[hs]at hn;cases hn;have hd:(⟨x,a,b,sc,pos⟩)∈recsOf q:=by rw[e];exact List.mem_filterMap.mpr ⟨i,by simpa using hi,by rw[hs];rfl⟩
  obtain⟨f,⟨oc,od,dt,osl⟩,pm,cd,doc,h1,h2,h3,h4⟩:=T.fn _ hd;subst h3;refine⟨f,_,h1,⟨⟨oc,od,.none,doc,pm,_,cd,_,osl,rfl,by rw[Pj];exact h2,?_⟩,?_⟩⟩
  .obtain⟨c,⟨_,_,dc,_⟩,vs,t,rfl,g1,g2,g3⟩:=h4
   subst g2;unfold PySem.W.codeIn;dsimp only;rw[Pj,g1];dsimp only;have g4:vs.toList[1]?=O (.str x t):=by rw[Array.getElem?_toList];exact g3
   cases hv:vs.toList with
   |nil=>rw[hv]at g4;cases g4
   |cons v0 r=>
    rw[hv]at g4;cases r with
    |nil=>cases g4
    |cons v1 r=>cases g4;exact beq_self_eq_true _
  .unfold PySem.W.keepIn
   dsimp only;rw[Pj,h2]
 |_=>rw[hs]at hn;cases hn
theorem kU{K}{x qual y}{st}{f}{fd}(F:Fun K x qual st f fd)
  (hb:∀(kV doc pm)(an)(cdv ct v),bindArgs (PySem.W.fnOf x qual (Rk st) (WT st) (Yh st) .none kV doc pm an cdv ct) ⟨[v],[]⟩=pure [(y,v)]) (s) (v):BindsTo s fd ⟨[v],[]⟩ [(y,v)]:=by
 obtain⟨oc,od,kV,doc,pm,an,cdv,ct,osl,rfl,lk,hcd⟩:=F.ex;exact .of_eq (hb kV doc pm an cdv ct v)
noncomputable def Pp(q:Up)(loose:List Str)(x:Str):Bool:=
 !startupNames.contains x && !loose.contains x && !((recsOf q).map (·.name)).contains x && !((litsOf q).map (·.1)).contains x && !((clssOf q loose).map (·.name)).contains x
theorem Xv(T:Top q loose mean mg mb h){xs:List Str}(e:xs.all (Pp q loose)=w5){x}(hx:x∈xs):mg x=w4:=by have:=Je.mp e x hx;unfold Pp at this;simp only[Jd,Bool.not_eq_true',List.contains_eq_mem,decide_eq_false_iff_not]at this;exact T.free x this.1.1.1.1 this.1.1.1.2 this.1.1.2 this.1.2 this.2
theorem Ov(T:Top q loose mean mg mb h){x}{i}(e:valOf q x=O (.int i)):∃t,mg x=O (.int i t):=by obtain⟨v,h1,h2⟩:=T.const x _ e;have:=h2 h;cases this;exact⟨_,h1⟩
theorem MP:∀{vs}{ss},StrsAre vs ss->Vals (ss.map V.str) vs
 |_,_,.nil=>.nil
 |_,_,.cons y t r=>.cons ⟨t,rfl⟩ (MP r)
theorem xu(B:Tables q w mg h){x}{ss}(e:tupStrsOf q x=O ss)(hl:ss.length<=1000) :
  ∃ad o its n,mg x=O (.ref ad)/\(whole h).lookup ad=O o/\o.cls=.type "tuple" /\ o.data=.seq its n/\its.size<=Ut/\Vals (ss.map V.str) its.toList:=by
 obtain⟨a,vs,h1,⟨o,h2,h3,n,h4⟩,h5⟩:=B.tupS x ss e;have r:=MP h5;refine⟨a,o,_,n,h1,by rw[Pj];exact h2,h3,h4,?_,r⟩;have:=r.length;rw[Qb]at this;have l:(1000)<=Ut:=by decide
 rw[Jf]
 lia
end
noncomputable def scOk(sc:Scope)(N gl:List Str):Bool:=(N.all λx=>match sc.names.lookup x with|some .local=>w5|some .cell=>w5|_=>w6)&&gl.all λx=>match sc.names.lookup x with|some .globalImplicit=>w5|_=>w6
noncomputable def fnB(sc:Scope)(N gl:List Str):Bool:=decide (sc.kind=.function) && !sc.isCoroutine && !sc.isGenerator&&decide N.Nodup&&(sc.names.all λy=>match y.2 with | .free=>w6|_=>w5)&&scOk sc N gl
structure FnNm(sc:Scope)(N gl:List Str):Prop where
 kind:sc.kind=.function
 co:sc.isCoroutine=w6
 gen:sc.isGenerator=w6
 nd:N.Nodup
 nofree:∀y∈sc.names,y.2≠.free
 nm:∀x∈N,sc.names.lookup x=O .local∨sc.names.lookup x=O .cell
 gl:∀x∈gl,sc.names.lookup x=O .globalImplicit
theorem KL   (H:fnB sc N gl=w5):FnNm sc N gl:=by
 unfold fnB scOk at H;simp only[Jd,QY,Bool.not_eq_true',Je]at H;obtain⟨⟨⟨⟨⟨h1,h2⟩,h3⟩,h4⟩,h5⟩,h6,h7⟩:=H;refine⟨h1,h2,h3,h4,λy hy e=>?_,λx hx=>?_,λx hx=>?_⟩
 .have:=h5 y hy;rw[e]at this;cases this
 .have:=h6 x hx
  split at this
  .rename_i e;exact .inl e
  .rename_i e;exact .inr e
  .simp_all
 .have:=h7 x hx
  split at this
  .rename_i e;exact e
  .simp_all
section
variable{sc:Scope}{N gl:List Str}{x:Str}
theorem nq(H:FnNm sc N gl):N.Nodup:=H.nd
theorem fq(H:FnNm sc N gl)(n):RX N (N.take n) sc:=⟨H.kind,H.co,H.gen,H.nd,by grind,λx hx=>H.nm x (Uc hx),H.nofree⟩
theorem lq(H:FnNm sc N gl)(i:Nat)(h:N[i]?=O x:=by rfl):L2.Loc sc x:=H.nm x (Qs h)
theorem gq(H:FnNm sc N gl)(i:Nat)(h:gl[i]?=O x:=by rfl):sc.names.lookup x=O .globalImplicit:=H.gl x (Qs h)
theorem pq{X}{pos}(H:FnNm X.env.scope X.N gl)(i)(h:X.N[i]?=O x:=by rfl)(hd:(x==("__debug__" : Str))=w6:=by decide)(hc:(x==("__classdict__" : Str))=w6:=by decide):PE X (.Name x pos) (Zg i):=
 LH h ((H.nm x (Qs h)).elim .inl λz=>.inr (.inl z)) hd hc
end
theorem KO  {loose}{mean}{mg mb}{h}{ix}(P)(w)(base){ps}{k n:Nat}{F}(T:Top q loose mean mg mb h)(e:recsOf q=RQ p ix)(i:Nat)(x)(hi:ix.contains i=w5)(hn:O1 (ZM p i)=O x)
  (ok:∀{f}{fd},Fun (whole h) x x (ZM p i) f fd->FnOk P w (whole h) mg base CX0 k f fd ps (spD (whole h) n F))
  (hb:∀(kV doc pm)(an)(cdv ct)(us),us.length=ps.length->bindArgs (PySem.W.fnOf x x (Rk (ZM p i)) (WT (ZM p i)) (Yh (ZM p i)) .none kV doc pm an cdv ct) ⟨us,[]⟩=pure (ps.zip us)):Def P w (whole h) mg base x k n F:=by
 obtain⟨f,fd,m,FU⟩:=Lm T e i x hi hn;exact Def.mk m FU (FU.binds hb) (ok FU)
section
variable{X:Cx}{B G0:Hp}{e:Us}{pos:Pos}{es:yb}
theorem pdf{k kk n}{F}{g}{x}{p2}(d:Def X.prog X.w X.K X.mg X.base x k n F)(hr:Room kk X.A)(hg:Gl X x)(ha:PA X (e::es) (tDs X.K B G0 g))(hk:k<=kk:=by decide)(hn:(e::es).length=n:=by rfl)
  (hdb:(x==("__debug__" : Str))=w6:=by decide) (he:Uv (e::es) X.env=(w6,eval e X.env)::Uv es X.env:=by rfl) (hpl:(backTo pos (Uv es X.env)).any (·.1)=w6:=by rfl) :
  PE X (.Call (.Name x p2) (e::es) [] pos) (tD X.K B G0 (UY n F g)):=BS d (hr.mono hk) hg ha hn hdb he hpl
end
theorem DE  {loose}{mean}{mg mb}{h:Heap}{ix}{P}{w}{k:Nat}{F}{y:Str}{fa:Uq}(T:Top q loose mean mg mb h)(e:recsOf q=RQ p ix)(i:Nat)(x:Str)(hi:ix.contains i=w5)(hn:O1 (ZM p i)=O x)(hfa:mg x=O (.ref fa))
  (hb:∀(kV doc pm)(an)(cdv ct v),bindArgs (PySem.W.fnOf x x (Rk (ZM p i)) (WT (ZM p i)) (Yh (ZM p i)) .none kV doc pm an cdv ct) ⟨[v],[]⟩=pure [(y,v)])
  (ok:∀(base:Heap){f:Uq}{fd},Fun (whole h) x x (ZM p i) f fd->FnOk P w (whole h) mg base CX0 k f fd [y] (spD (whole h) 1 F)) :
  ∃fd:Ur,(∀(s)(v),BindsTo s fd ⟨[v],[]⟩ [(y,v)])/\∀base:Heap,FnOk P w (whole h) mg base CX0 k fa fd [y] (spD (whole h) 1 F):=by
 obtain⟨f,fd,m,FU⟩:=Lm T e i x hi hn;cases hfa.symm.trans m;exact⟨fd,kU FU hb,λbase=>ok base FU⟩
theorem qv{l:PySem.W.OpenLaw}{n k:Nat}{q}{loose}{XP}{YP}{d}{F}{x:Str}
  (hn:l.most=O n) (hn2:n<=Ut) (hdf:d.params.defaults=[]) (hr:Room k callerA)
  (hF:∀(w:World)(s₀)(mg mb)(fa:Uq)(h:Heap),PySem.W.Ground q loose [] XP w s₀ mg mb h->mg d.name=O (.ref fa) ->
   ∃fd:Ur,(∀(s)(u),BindsTo s fd ⟨[u],[]⟩ [(x,u)])/\∀base:Heap,FnOk l.prog w (whole h) mg base CX0 k fa fd [x] (spD (whole h) 1 F))
  (hl:∀ns:w8,ns.length<=n->F [.list (ns.map int)]=O (.bool w5)) :
  PySem.W.WalkO q loose XP YP l.row.toRowW d [] (λf vs=>PySem.call f vs):=by
 refine Att.attach_call hn hdf λw s₀ s₁ mg mb fa o pm cd doc a vs ns G Y ho hd hcd hmg hobj hints hlen hg=>?_
 obtain⟨fd,hb,hF⟩:=hF w s₀ mg mb fa _ G hmg;exact jz (qw _) G.T.g G.T.b G.T.builtins G.T.nolimit hg hobj hints (QN hlen hn2) hr (λbase _ _=>hF base) hb (λH hO hS=>D6 hS (hl ns hlen)) λH e s' z=>z
end DL
namespace L2
open PySem PySem.Spec PyProof.Rows
noncomputable def DR(trs:Uq->List (TE×TE)):TE:=λσ H Q=>∀p,H p=w4->PM (trs p) σ (upd H p (.dK [])) λps H2=>H2 p=O (.dK [])/\∃kvs:List (Key×V),ps=kvs.map (λkv=>(kV kv.1,kv.2))/\kvs.length<=15/\Q (.ref p) (upd H2 p (.dK (VY [] kvs)))
theorem qu{X:Cx}{pos:Pos}{keys}{values}{trs}(h:∀p,PPs X pos keys values (trs p))(hall:keys.all (·.isSome)=w5)(hl:keys.length=values.length)(h0:keys≠[])
  (h15:keys.length<=15):PE X (.Dict keys values pos) (DR trs):=by
 intro pins s σ H Q I q;have hn:=I.hok.fresh (Qv s.heap.objs.size);have I1:=I.laid    (t':=s.toks) (λ_ _ q=>Qm _ q) (Qv _) (jy s.heap I.big);refine wpAny_Dict_walk (knd:=Y7 X.prog X.w) hall hl h0 h15 (thn (h _ pins _ σ _ _ I1 (q _ hn)) λws s2 ⟨ps,H2,I2,rel,e,kvs,ep,lk,q2⟩=>?_);subst ep;obtain⟨rs,c,rk⟩:=Ex  (w:=X.w) rel;obtain⟨z,hd,vs0,r0,dd⟩:=MZ I2.hok e;cases r0;refine⟨rs,c,dd,λh' yJ hs=>⟨.ref s.heap.objs.size,_,?_,rfl,q2⟩⟩;have hz:(VY [] kvs).length<=Ut:=by have h1:=EW kvs [];rw[Qx]at h1;rw[sizeLine_eq];lia
 have he:∃q,h'.get? s.heap.objs.size=O q:=let ⟨q,_,_,hq,_⟩:=yJ;⟨q,hq⟩
 exact Nx I2 (by rw[e];exact True.intro) hs he (LA hz hd (rk.merge .nil) yJ)
theorem qt  {k:Key}{v}(h:k∉kvs.map (·.1)):Zl kvs k v=kvs++[(k,v)]:=by unfold Zl;simp_all
theorem Eo:∀(more kvs),((kvs++more).map (·.1)).Nodup->VY kvs more=kvs++more
 |[],kvs,_=>by rw[Jl];rfl
 |p::r,kvs,h=>by
  have hn   :=by rw[Qy,List.nodup_append]at h;exact λz=>h.2.2 _ z p.1 (Qn.mpr ⟨p,Qj,rfl⟩) wZ
  show VY (Zl kvs p.1 p.2) r=_;rw[qt hn,Eo r _ (by rw[Q6];exact h),Q6];rfl
end L2
namespace DL
open PySem PySem.Spec L2
open PyProof.Rows hiding St
theorem HP{α β γ:Type}(f):∀(ks:List α)(vs:List (γ×β)),vs.map (·.1)=ks.map f->vs=(ks.zip (vs.map (·.2))).map (λkv=>(f kv.1,kv.2))
 |[],[],_=>rfl
 |k::ks,(a,b)::vs,h=>by injection h with h1 h2;have h1:a=f k:=h1;rw[Qt,Q0,Qt,←HP f ks vs h2,h1]
theorem GJ{α β:Type}:∀(ps:List (α×β)),(ps.map (·.1)).zip (ps.map (·.2))=ps
 |[]=>rfl
 |p::r=>by rw[Qt,Qt,Q0,GJ r]
noncomputable def SU:List (M D×M D)->M (List (D×D))
 |[]=>UT []
 |(f,g)::r=>Ke f λx=>Ke g λy=>Ke (SU r) λps=>UT ((x,y)::ps)
noncomputable def Yd:D->Option Key
 |.int i=>O (.inl i)
 |.str x=>O (.inr x)
 |_=>w4
noncomputable def PB:w9->Option yj
 |[]=>O []
 |d::r=>match Yd d,PB r with
  |some k,O ks=>O (k::ks)
  |_,_=>w4
noncomputable def OM(ps:List (D×D)):ya:=match PB (ps.map (·.1))with
 |some ks=>if ks.Nodup/\ks.length<=15/\ks≠[]then O (.dict ps)else w4
 |none=>w4
noncomputable def OL(prs:List (M D×M D)):M D:=Ke (SU prs) λps=>Kf (OM ps)
def DD(K:Frag)(G:Hp)(vs:List (V×V))(ps:List (D×D)):Prop:=Reps K G (vs.map (·.1)) (ps.map (·.1))/\Reps K G (vs.map (·.2)) (ps.map (·.2))
section
variable{K:Frag}{B G0 G H:Hp}{σ:St}{Z:US}
theorem Rr   (h:Yd d=O k):d=kD k:=by
 cases d with
 |int i=>cases h;rfl
 |str x=>cases h;rfl
 |_=>cases h
theorem FR:∀{ds}{ks},PB ds=O ks->ds=ks.map kD
 |[],_,h=>by cases h;rfl
 |d::r,ks,h=>by
  unfold PB at h;split at h
  .rename_i k ks' h1 h2
   cases h;rw[Qt,←Rr h1,←FR h2]
  simp_all
theorem Rep.key_inv   (r:Rep K G v (kD k)):v=kV k:=by
 cases k with
 |inl i=>exact r.int_inv
 |inr x=>exact r.str_inv
theorem Reps.keys_inv:∀{vs}{ks:yj},Reps K G vs (ks.map kD)->vs=ks.map kV
 |_,[],.nil=>rfl
 |_,k::ks,.cons h t=>by rw[h.key_inv,Reps.keys_inv t];rfl
theorem FQ:∀{prs}{G H}{Z}{Q},EOk K B G0 G H σ Z ->
  (match SU prs Z with
   |.ok ps Z'=>∀vs G' H',EOk K B G0 G' H' σ Z'->Same G G'->DD K G' vs ps->Q vs H'
   |.bad=>False)->PM (prs.map λp=>(tD K B G0 p.1,tD K B G0 p.2)) σ H Q
 |[],G,H,Z,Q,k,a=>a [] G H k (.refl _) ⟨.nil,.nil⟩
 |(f,g)::r,G,H,Z,Q,k,a=>by
  refine⟨G,Z,k,?_⟩;unfold SU Ke at a;show aft K B G0 _ (f Z) G σ _;cases z:f Z with
  |bad=>rw[z]at a;exact a.elim
  |ok x Z1=>
   rw[z]at a;dsimp only at a;intro v G1 H1 k1 s1 r1;refine⟨G1,Z1,k1,?_⟩;show aft K B G0 _ (g Z1) G1 σ _;cases z2:g Z1 with
   |bad=>rw[z2]at a;exact a.elim
   |ok y Z2=>
    rw[z2]at a;dsimp only at a;intro u G2 H2 k2 s2 r2;refine FQ  k2 ?_;cases z3:SU r Z2 with
    |bad=>rw[z3]at a;exact a.elim
    |ok ps Z3=>rw[z3]at a;intro vs G3 H3 k3 s3 r3;exact a _ G3 H3 k3 ((s1.trans s2).trans s3) ⟨.cons ((r1.mono s2).mono s3) r3.1,.cons (r2.mono s3) r3.2⟩
theorem EOk.under  (k:EOk K B G0 G H σ Z)(hp:H p=w4):EOk K (upd B p (.dK [])) G0 G (upd H p (.dK [])) σ Z where
 bh:=λb o q=>by
  by_cases z:b=p
  .subst z;rw[Zp]at q⊢;exact q
  .rw[KH z]at q⊢;exact k.bh b o q
 gh:=k.gh.trans (ZQ hp)
 g0:=k.g0
 np:=λa u q n=>by
  by_cases z:a=p
  .subst z;exact k.gh.free hp
  .rw[KH z]at q;exact k.np a u q n
 len:=k.len
 pub:=k.pub
 own:=λi ds q=>by obtain⟨a,vs,h1,h2,h3,h4,h5⟩:=k.own i ds q;have z   :=Yx h4 hp;exact⟨a,vs,h1,by rw[KH z];exact h2,h3,by rw[KH z];exact h4,h5⟩
 sep:=k.sep
 dp:=k.dp.map (λ_ _ _ q=>⟨q,rfl⟩) (λ_ ds q=>⟨ds,q,rfl⟩) λi pt d v fp q s r w n=>⟨r.mono (.refl _) (ZQ hp),λb m=>let ⟨_,hl⟩:=r.isl b m;⟨by rw[KH (Yx hl hp)];exact(w b m).1,(w b m).2⟩⟩
end
section
variable{X:Cx}{B G0:Hp}{KX:XW}{e o a b c:Us}{pos p2:Pos}{es rest:yb}
structure DPs(X:Cx)(pos:Pos)(G0:Hp)(keys:List (Option Us))(values:yb)(prs:List (M D×M D)):Prop where
 out:∀B',PPs X pos keys values (prs.map λp=>(tD X.K B' G0 p.1,tD X.K B' G0 p.2))
theorem An:DPs X pos G0 [] [] []:=⟨λ_=>AJ⟩
theorem qq    {f g}{prs}(hk:∀B',PE X k (tD X.K B' G0 f))(hv:∀B',PE X v (tD X.K B' G0 g))(hr:DPs X pos G0 ks vs prs):DPs X pos G0 (O k::ks) (v::vs) ((f,g)::prs):=
 ⟨λB'=>jw (hk B') (hv B') (hr.out B')⟩
noncomputable def VR(x y:D):ya:=match x,Yd y with
 |.dict kvs,O k=>(kvs.find? λp=>decide (Yd p.1=O k)).map (·.2)
 |_,_=>w4
theorem PV(k:Key):Yd (kD k)=O k:=by cases k<;>rfl
theorem NG{K}{G:Hp}{k}{d:D}:∀{ks:yj}{vs}{ds},Reps K G vs ds->(((ks.map kD).zip ds).find? λp=>decide (Yd p.1=O k)).map (·.2)=O d->∃v,ZL (ks.zip vs) k=O v/\Rep K G v d
 |[],vs,ds,_,e=>by simp at e
 |q::ks,_,_,.nil,e=>by simp at e
 |q::ks,_,_,@Reps.cons _ _ v d0 vs ds r t,e=>by
  rw[Qt,Q0,List.find?_cons]at e;unfold ZL;rw[Q0,List.find?_cons];rw[PV]at e;by_cases h:q=k
  .subst h
   simp only[decide_true]at e⊢;cases e;exact⟨v,rfl,r⟩
  .have h':¬_:=λz=>h (Q3 z)
   simp only[h,h',decide_false]at e⊢;exact NG t e
theorem FP  : ∀{ks:List yj}{ds:w9},((ks.map tkD).zip ds).find? (λkv=>decide (Yd kv.1=O ky))=w4
 |[],_=>rfl
 |_::_,[]=>rfl
 |k::ks,d::ds=>by exact FP (ks:=ks)
theorem Am(hu:X.A.units+64<cLine){f g}(ha:PE X a (tD X.K B G0 f))(hb:PE X b (tD X.K B G0 g))(hs:Va b:=by intro _ _;rfl):PE X (.Subscript a b pos) (tD X.K B G0 (UR VR f g)):=
 Kt (HX (by lia) ha hb hs) λσ H Q q=>tM.two q λv u H2 G Z x y k rx ry a=>by
  obtain⟨d,e,a1⟩:=a.opt;unfold VR at e;split at e
  .rename_i kvs ky hk
   have hy:=Rr hk;subst hy;have hu:=ry.key_inv;subst hu;cases rx with
   |dic h=>simp_all
   |exc _ _ _ _=>simp[Yd]at e
   |@dct ad ks vs ds _ e0 hne hl h r=>subst e0;obtain⟨w,hw,yr⟩:=NG r e;exact⟨ad,w,rfl,.inl ⟨_,ky,.inl (k.gh _ _ h),rfl,hw.symm⟩,a1.now k yr⟩
   |@dtt ad ob ks vs ds _ e0 hl h r=>subst e0;have z:=FP (ks:=ks) (ds:=ds) (ky:=ky);unfold pdD at e;rw[List.find?_cons_of_neg (by show ¬decide ((w4)=O ky)=w5;simp),z]at e;cases e
  simp_all
end
end DL
namespace DL
open PySem PySem.Spec L2 PySem.SeqAt PySem.AutoSeq1
open PyProof.Rows hiding St
end DL
namespace DL
open PySem PySem.Spec L2
open PyProof.Rows hiding St
end DL
namespace L2
open PySem PySem.Spec PyProof.Rows
end L2
namespace DL
open PySem PySem.Spec L2
open PyProof.Rows hiding St
end DL
namespace L2
open PySem PySem.Spec PyProof.Rows
end L2
namespace DL
open PySem PySem.Spec L2
open PyProof.Rows hiding St
end DL
namespace L2
open PySem PySem.Spec PyProof.Rows
end L2
namespace DL
open PySem PySem.Spec L2
open PyProof.Rows hiding St
theorem EOk.lent{K}{B G0 G H}{σ}{Z}(k:EOk K B G0 G H σ Z):EOk K H H H H σ (ZZ Z) where
 bh:=.refl _
 gh:=.refl _
 g0:=.refl _
 np:=λ_ _ e n=>by lia
 len:=by unfold ZZ;rw[Qb];exact k.len
 pub:=λi d e=>by
  rcases FD e with e2|⟨ds,rfl,e2⟩|⟨p,e2⟩
  .exact k.tree (by unfold RR;rw[e2])
  .exact k.tree (by unfold RR;rw[e2])
  .exact k.tree (by unfold RR;rw[e2])
 own:=λi ds e=>(Rm e).elim
 sep:=λi j a ds es e=>(Rm e).elim
 dp:=.of (λ_ _ _ q=>Ew q) λ_ _ q=>Rm q
end DL
namespace L2
open PySem PySem.Spec PyProof.Rows
end L2
namespace DL
open PySem PySem.Spec L2
open PyProof.Rows hiding St
end DL
namespace L2
open PySem PySem.Spec PyProof.Rows
end L2
namespace DL
open PySem PySem.Spec L2
open PyProof.Rows hiding St
theorem O3{α:Type}(a:α):[a].Nodup:=by simp
section
variable{K:Frag}{B G0 G H:Hp}{σ:St}{Z:US}
structure NewT(K:Frag)(B G H:Hp)(σ:St)(Z:US)(pt:Pat)(v:V)(d:D)(fp:ye):Prop where
 r:RepO K G H pt v d fp
 nd:fp.Nodup
 b:∀a∈fp,B a=w4/\G a=w4
 f:∀a∈fp,∀(j:Nat) es,Z[j]?=O (O (.own es))->σ[j]?≠O (O (.ref a))
 dp:∀a∈fp,∀(j:Nat) p d v fp',Z[j]?=O (O (.deep p d))->σ[j]?=O (O v)->RepO K G H p v d fp'->a∉fp'
theorem EOk.setDeep{i:Nat}{pt:Pat}{v:V}{d:D}{fp}(k:EOk K B G0 G H σ Z)(n:NewT K B G H σ Z pt v d fp)(hi:i<Z.length):EOk K B G0 G H (σ.set i (O v)) (Z.set i (O (.deep pt d))) where
 bh:=k.bh
 gh:=k.gh
 g0:=k.g0
 np:=k.np
 len:=by rw[QS,QS];exact k.len
 pub:=λj d' q=>by
  by_cases z:i=j
  .subst z;have:=Yl q;cases this
  .rw[Qr z]at q⊢
   exact k.pub j d' q
 own:=λj es q=>by
  by_cases z:i=j
  .subst z;have:=Yl q;cases this
  .rw[Qr z]at q⊢
   exact k.own j es q
 sep:=λj l c es fs q1 q2 s1 s2=>by
  have z1:i≠j:=λz=>by subst z;have:=Yl q1;cases this
  have z2:i≠l:=λz=>by subst z;have:=Yl q2;cases this
  rw[Qr z1]at q1 s1;rw[Qr z2]at q2 s2;exact k.sep j l c es fs q1 q2 s1 s2
 dp:=by
  obtain⟨ω,k1,k2⟩:=k.dp;have hs:i<σ.length:=by rw[←k.len];exact hi
  refine⟨λb=>if b∈fp then i else ω b,λj p d' q=>?_,λj es b q s=>?_⟩
  .by_cases z:i=j
   .subst z
    have:=Yl q;cases this;exact⟨v,fp,QG hs,n.r,n.nd,λa m=>⟨(n.b a m).1,(n.b a m).2,Qp m⟩⟩
   .rw[Qr z]at q⊢
    obtain⟨v',fp',s,r,nn,w⟩:=k1 j p d' q;refine⟨v',fp',s,r,nn,λb m=>⟨(w b m).1,(w b m).2.1,?_⟩⟩;dsimp only;rw[Qw (λz=>n.dp b z j p d' v' fp' q s r m)];exact(w b m).2.2
  .by_cases z:i=j
   .subst z;have:=Yl q;cases this
   .rw[Qr z]at q s
    dsimp only;rw[Qw (λz=>n.f b z j es q s)];exact k2 j es b q s
theorem RepOl.leaf:∀{vs}{ds},Reps K G vs ds->RepOl K G H .leaf vs ds []
 |_,_,.nil=>.nil
 |_,_,.cons h t=>.cons   (.leaf h) (RepOl.leaf t)
noncomputable def Tg(Z:US)(i:Nat):Option (Pat×D):=match Z[i]? with
 |some (O (.own ds))=>O (.lst .leaf,.list ds)
 |some (O (.deep p d))=>O (p,d)
 |_=>w4
theorem EOk.slots(k:EOk K B G0 G H σ Z):∃ω:Uq->Nat,∀(i) p d,Tg Z i=O (p,d)->∃v fp,σ[i]?=O (O v)/\RepO K G H p v d fp/\fp.Nodup/\∀a∈fp,B a=w4/\G a=w4/\ω a=i:=by
 obtain⟨ω,k1,k2⟩:=k.dp;refine⟨ω,λi p d h=>?_⟩;unfold Tg at h;split at h
 .rename_i ds q
  cases h;obtain⟨a,vs,h1,h2,h3,h4,h5⟩:=k.own i ds q;refine⟨.ref a,[a],h1,.lst h4 (.leaf h5),O3 a,λb m=>?_⟩;rw[Qu.mp m];exact⟨h2,h3,k2 i ds a q h1⟩
 .rename_i p' d' q
  cases h;exact k1 i p d q
 simp_all
theorem EOk.mutD{j:Nat}{p:Pat}{d d':D}{v:V}{fp fp'}{a:Uq}{o:HO}(k:EOk K B G0 G H σ Z)(hd:Z[j]?=O (O (.deep p d)))(hv:σ[j]?=O (O v))(r:RepO K G H p v d fp)(ha:a∈fp)
  (r':RepO K G (upd H a o) p v d' fp') (nd':fp'.Nodup) (sub:∀b∈fp',b∈fp):EOk K B G0 G (upd H a o) σ (Z.set j (O (.deep p d'))):=by
 obtain⟨ω,k1,k2⟩:=k.dp;obtain⟨v0,fp0,s0,r0,n0,w0⟩:=k1 j p d hd;rw[hv]at s0;cases s0;have e0:=r0.uniq (.refl _) r;subst e0;obtain⟨hb,hg,hw⟩:=w0 a ha;obtain⟨ws,hl⟩:=r.isl a ha;have nt:∀vs,H a≠O (.tup vs):=λvs z=>by rw[hl]at z;cases ws<;>cases z
 have nz:∀{m:Nat}{s:Sl},j≠m->(Z.set j (O (.deep p d')))[m]?=O (O s)->Z[m]?=O (O s):=λ{m s} z q=>by rw[Qr z]at q;exact q
 refine⟨λb u e=>?_,λb u e=>?_,k.g0,k.np,by rw[QS];exact k.len,λm dm e=>?_,λm es e=>?_,λm l c es fs q1 q2 s1 s2=>?_,ω,λm pm dm e=>?_,λm es b e s=>?_⟩
 .rw[KH (Yx e hb)];exact k.bh b u e
 .rw[KH (Yx e hg)];exact k.gh b u e
 .by_cases z:j=m
  .subst z;have:=Yl e;cases this
  .exact k.pub m dm (nz z e)
 .by_cases z:j=m
  .subst z;have:=Yl e;cases this
  .have e:=nz z e
   obtain⟨c,us,g1,g2,g3,g4,g5⟩:=k.own m es e;have zc:c≠a:=λw=>by subst w;exact z (hw.symm.trans (k2 m es c e g1))
   exact⟨c,us,g1,g2,g3,by rw[KH zc];exact g4,g5⟩
 .have z1:j≠m:=λz=>by subst z;have:=Yl q1;cases this
  have z2:j≠l:=λz=>by subst z;have:=Yl q2;cases this
  exact k.sep m l c es fs (nz z1 q1) (nz z2 q2) s1 s2
 .by_cases z:j=m
  .subst z
   have:=Yl e;cases this;exact⟨v,fp',hv,r',nd',λb mb=>w0 b (sub b mb)⟩
  .obtain⟨vm,fm,sm,rm,nm,wm⟩:=k1 m pm dm (nz z e)
   exact⟨vm,fm,sm,rm.upd nt (λmm=>z (hw.symm.trans (wm a mm).2.2)),nm,wm⟩
 .have z:j≠m:=λz=>by subst z;have:=Yl e;cases this
  exact k2 m es b (nz z e) s
end
noncomputable def tT(K:Frag)(B G0:Hp)(pt:Pat)(f:M D):TE:=λσ H Q=>∃G Z,EOk K B G0 G H σ Z/\match f Z with
 |.ok d Z'=>∀v fp G' H',EOk K B G0 G' H' σ Z'->Same G G'->NewT K B G' H' σ Z' pt v d fp->Q v H'
 |.bad=>False
noncomputable def SN(i:Nat)(pt:Pat)(f:M D):SM:=sB f λd Z=>if i<Z.length then .nx (Z.set i (O (.deep pt d)))else .bad
section
variable{X:Cx}{B G0:Hp}{KX:XW}{e o a b c:Us}{pos:Pos}{es:yb}{st:Stmt}{sts:List Stmt}{pt:Pat}
theorem Al     (hN:X.N.Nodup)(hi:X.N[i]?=O x)(hx:Loc X.env.scope x)(he:PE X e (tT X.K B G0 pt f))(hs:swapsWith e (O (.Name x p2)) pos.line X.env=pure w6:=by rfl)
  (hf:X.fn x=w5∨X.env.scope.names.lookup x=O .local:=by first|exact .inl rfl|exact .inr rfl|assumption):PS X (.Assign [.Name x p2] e pos) (tS X.K B G0 KX (SN i pt f)):=
 ZG (O4 hN hi hx he hs hf) λD σ H ⟨G,Z,k,a⟩=>by
  refine⟨G,Z,k,?_⟩;unfold SN sB at a;cases z:f Z with
  |bad=>rw[z]at a;exact a.elim
  |ok ds Z1=>
   rw[z]at a;intro v fp G' H' k' s' n;dsimp only at a;split at a
   .rename_i hl
    exact a _ G' H' (k'.setDeep n hl) s'
   .exact a.elim
end
noncomputable def isT:Option HO->Bool
 |some (.tup _)=>w5
 |some (.frz _ (.tup _))=>w5
 |_=>w6
theorem CA{u:MO}:isT (O u.ho)=w6:=by cases u<;>rfl
noncomputable def ZE(fp:ye)(G H:Hp):Hp:=λb=>if b∈fp∨isT (H b)=w5 then H b else G b
section
variable{K:Frag}{B G0 G H:Hp}{fp:ye}
theorem xr(gh:Same G H):Same G (ZE fp G H):=λb o e=>by
 unfold ZE;split
 .exact gh b o e
 .exact e
theorem Ak(gh:Same G H):Same (ZE fp G H) H:=λb o e=>by
 unfold ZE at e;split at e
 .exact e
 .exact gh b o e
theorem HN{b:Uq}(h:b∈fp∨isT (H b)=w5):ZE fp G H b=H b:=by unfold ZE;rw[Qp h]
theorem HM  (h:b∉fp)(h2:isT (H b)=w6):ZE fp G H b=G b:=by
 unfold ZE;rw[Qw];rintro(z|z)
 .exact h z
 lia
theorem Ext.pubT  (ex:Ext G H G' H')(fr:∀a∈fp,H a=w4):Ext G H (ZE fp G' H') H':=
 ⟨ex.h,ex.g.trans (xr ex.gh),Ak ex.gh,λa u e n=>by rw[HM (λm=>by simp_all) (by rw[ex.h a _ e];exact CA)];exact ex.np a u e n⟩
noncomputable def nl0:D->Bool
 |.tuple ds=>ds.all flat
 |d=>flat d
theorem Rep.nl{G' G2 H'}{v}{d}(r:Rep K G' v d)(h:nl0 d=w5)(gh:Same G' H'):Rep K (ZE fp G2 H') v d:=by
 cases r with
 |tup hs rr=>
  refine .tup ?_ (rr.flat h);rcases hs with (hs|⟨o,hs⟩)|hs
  .have:=gh _ _ hs
   exact .inl (.inl ((HN (.inr (by rw[this];rfl))).trans this))
  .have:=gh _ _ hs
   exact .inl (.inr ⟨o,(HN (.inr (by rw[this];rfl))).trans this⟩)
  .exact .inr hs
 |non=>exact .non
 |bl b=>exact .bl b
 |int i=>exact .int i
 |str x=>exact .str x
 |lst _ _=>cases h
 |dic _=>cases h
 |exc _ _ _ _=>cases h
 |dct _ _ _ _ _=>cases h
 |dtt _ _ _ _=>cases h
theorem Reps.nl{G' G2 H'}(gh:Same G' H'):∀{vs}{ds},Reps K G' vs ds->ds.all nl0=w5->Reps K (ZE fp G2 H') vs ds
 |_,_,.nil,_=>.nil
 |_,_,.cons r t,h=>by rw[List.all_cons,Jd]at h;exact .cons (r.nl h.1 gh) (Reps.nl gh t h.2)
end
noncomputable def WB(f:M w9):M w9:=λZ=>match f (ZZ Z)with
 |.ok ds _=>if ds.all nl0=w5 then .ok ds Z else .bad
 |.bad=>.bad
section
variable{Z Z1 Z2 Z':US}{pt:Pat}
theorem Aj  {f}{d}(h1:f Z=.ok d Z1)(h2:i<Z1.length)(h3:Z1.set i (O (.deep pt d))=Z'):SN i pt f Z=.nx Z':=by unfold SN sB;simp_all
theorem qp   (h:f (ZZ Z)=.ok ds Z')(hf:ds.all nl0=w5):WB f Z=.ok ds Z:=by unfold WB;rw[h];dsimp only;rw[if_pos hf]
end
theorem NewL.back{K}{B G0 G H G' H':Hp}{σ:St}{Z Z1:US}{ad:Uq}{vs:List V}{ds}(k:EOk K B G0 G H σ Z)(k':EOk K H H G' H' σ Z1)(n:NewL K H G' H' σ Z1 ad vs ds)(hf:ds.all nl0=w5) :
  EOk K B G0 (ZE [] G H') H' σ Z/\Same G (ZE [] G H')/\NewL K B (ZE [] G H') H' σ Z ad vs ds:=by
 have ex:Ext G H G H':=⟨k'.bh,.refl _,k.gh.trans k'.bh,λ_ _ _ n=>n⟩;have ex2:Ext G H (ZE [] G H') H':=ex.pubT (λa m=>by cases m);refine⟨k.ext ex2,ex2.g,⟨k.bh.free n.b,?_,n.h,n.r.nl k'.gh hf,λj es q w=>?_,λj pt d v fp q s r=>k.freshD k'.bh n.b q s r⟩⟩
 .rw[HM (by simp) (by rw[n.h];rfl)]
  exact k.gh.free n.b
 .obtain⟨b,us,g1,g2,g3,g4,g5⟩:=k.own j es q
  rw[g1]at w;cases w;rw[n.b]at g4;cases g4
section
variable{X:Cx}{B G0:Hp}{KX:XW}
theorem DC{l:Bool}{y:Str}{j:Nat}{py:Pos}{spos:Pos}{tg elt iter:Us}{ifs:yb}{gs:List Comprehension}{scope:Scope}{pos:Pos}{N2:List Str}{k:Nat}{f:M w9}{s}{t:M Bool}{rd:RdB}(hN:X.N.Nodup)(hj:X.N[j]?=O y)(hy:X.env.scope.names.lookup y=O .local)(hc:X.calm=w5)
  (hi:∀B' G',PI X tg iter (iD X.K B' G' f)) (yn:Z9 X N2 scope (.ListComp elt (⟨tg,iter,ifs,0⟩::gs) scope pos) tg ifs s t rd) (hb:SI X.env.scope scope X.N N2 k) (hs:∀x,UL iter X.env x=pure x:=by intro _;rfl)
  (hsw:swapsWith (.ListComp elt (⟨tg,iter,ifs,0⟩::gs) scope pos) (O (.Name y py)) spos.line X.env=pure w5:=by rfl) :
  PS X (.Assign [.Name y py] (.ListComp elt (⟨tg,iter,ifs,0⟩::gs) scope pos) spos) (tS X.K B G0 KX (Zq j (WB (dCG l f k s t rd)))):=by
 intro pins s0 σ H Dn I ⟨G,Z,k0,a⟩;unfold Zq sB WB at a;cases z:dCG l f k s t rd (ZZ Z)with
 |bad=>rw[z]at a;exact a.elim
 |ok es Z1=>
 rw[z]at a;dsimp only at a;by_cases hnl:es.all nl0=w5
 case neg=>rw[Qw hnl]at a;exact a.elim
 rw[Qp hnl]at a;dsimp only at a;by_cases hl:j<Z.length
 .rw[Qp hl]at a
  obtain⟨ds,ZF,zf,zl,hfl⟩:=Nu z;rw[exec_Assign_Name_used _ _ _ _ hsw];refine Qf (JA (Qf ?_));refine Qf (QL (NQ   hc (hi H H) yn hb hs I k0.lent zf zl hfl λC D vs G' H' s4 m I7 hm hC hL hz hcl hp k' s' n=>?_) (λ_ s' hq=>Qq (Qq hq)) λ_ _ e=>e);refine wpAny_assign_Name (MC I7 hN hj (.inl hy) (v:=.ref D) wZ (λs5 I8 ⟨ad,sb,hx⟩=>?_) (.inr hy))
  have hCa:C≠ad:=by
   rcases hx with e|e
   .rw[e];exact hL
   .exact Ne.symm (hcl y ad e)
  refine⟨m,hm.sameBut sb hCa,λh' sb'=>⟨_,H',I8.turned (t':=s5.toks) (it:=C) (λb o hb e=>(sb'.2 b hb).trans e) hC hL (.inr hz) hcl hp,?_⟩⟩;obtain⟨k2,s2,n2⟩:=NewL.back k0 k' n hnl;exact a _ _ H' (k2.setOwn n2 hl) s2
 .rw[Qw hl]at a;exact a.elim
theorem xq  (h:∀Z es Z',F Z=.ok es Z'->F' Z=.ok es Z')(Z)(es)(Z')(e:WB F Z=.ok es Z'):WB F' Z=.ok es Z':=by
 unfold WB at e⊢;cases z:F _ with
 |bad=>rw[z]at e;cases e
 |ok ds Z1=>rw[z]at e;rw[h _ _ _ z];exact e
theorem DB   {j:Nat}{py:Pos}{spos:Pos}{tg elt iter:Us}{ifs}{gs}{scope}{pos:Pos}{f}{s}{t}{rd:RdB}{F}(SC:Scope)(N1 N2)(k:Nat)(le:∀Z es Z',F Z=.ok es Z'->dCG l f k s t rd Z=.ok es Z')(hN:X.N.Nodup)(hj:X.N[j]?=O y)(hy:X.env.scope.names.lookup y=O .local)(hc:X.calm=w5)
  (hi:∀B' G',PI X tg iter (iD X.K B' G' f)) (yn:Z9 X N2 scope (.ListComp elt (⟨tg,iter,ifs,0⟩::gs) scope pos) tg ifs s t rd) (h1:X.env.scope=SC) (h2:X.N=N1) (hb:WE VO SC scope N1 N2 k=w5) (hs:∀x,UL iter X.env x=pure x:=by intro _;rfl)
  (hsw:swapsWith (.ListComp elt (⟨tg,iter,ifs,0⟩::gs) scope pos) (O (.Name y py)) spos.line X.env=pure w5:=by rfl) :
  PS X (.Assign [.Name y py] (.ListComp elt (⟨tg,iter,ifs,0⟩::gs) scope pos) spos) (tS X.K B G0 KX (Zq j (WB F))):=
 ZG (DC hN hj hy hc hi yn (by rw[h1,h2];exact Nt hb) hs hsw) λ_ _ _ q=>Lu (xq le) q
end
noncomputable def PU(f:M D):M Bool:=Ke f λx=>match x with | .list ds=>UT (!ds.isEmpty)|_=>λ_=>.bad
noncomputable def Wz:Nat:=10 ^ 60
section
variable{X:Cx}{B G0:Hp}{e:Us}
theorem ww{α β:Type}{xs:List α}{ys:List β}(h:xs.length=ys.length):xs.isEmpty=ys.isEmpty:=by cases xs<;>cases ys<;>first|rfl|simp_all
theorem Ai  (h:PE X e (tD X.K B G0 f))(he:∀whole,isTrue e X.env whole=(do let v ←whole;standAt e.pos;holding [v] (truthy v)):=by intro _;rfl):PT X e (tBo X.K B G0 (PU f)):=
 Yo (jC h he) λσ H Q q=>tM.one  q λv H2 G Z x k r a=>by
  cases x with
  |list ds=>obtain⟨l,vs,rfl,h1,r1⟩:=r.lst_inv;refine⟨!vs.isEmpty,.inl ⟨vs,k.gh.seq h1,rfl⟩,?_⟩;exact aft.now  a k (by rw[ww r1.length])
  |_=>exact a.elim
theorem xp   {ds:w9}(h1:f Z=.ok (.list ds) Z1):PU f Z=.ok (!ds.isEmpty) Z1:=by exact K6 h1 wZ
end
noncomputable def XQ(kvs:List (D×D))(k:Key)(d:D):List (D×D):=if kvs.any (λp=>decide (Yd p.1=O k))then kvs.map (λp=>if Yd p.1=O k then(p.1,d)else p)else kvs++[(kD k,d)]
noncomputable def Po(j:Nat)(g f:M D):SM:=sB f λd Z1=>match Z1[j]? with
 |some (O (.deep .dic _))=>sB g (λy Z2=>match Yd y,Z2[j]? with
  |some k,O (O (.deep .dic (.dict kvs)))=>if kvs.length<1000 then .nx (Z2.set j (O (.deep .dic (.dict (XQ kvs k d)))))else .bad
  |_,_=>.bad) Z1
 |_=>.bad
section
variable{K:Frag}{G:Hp}
theorem PR  : ∀{ks:yj}{vs:List V}{ds:w9},Reps K G vs ds->((ks.map kD).zip ds).any (λp=>decide (Yd p.1=O k))=(ks.zip vs).any λkv=>decide (kv.1=k)
 |[],_,_,_=>rfl
 |_::_,_,_,.nil=>rfl
 |k0::ks,_,_,.cons _ t=>by
  rw[Qt,Q0,List.any_cons,PR t,PV];by_cases e:k0=k
  .simp
  .simp[e]
theorem GI  {w:V}{d:D}(r:Rep K G w d):∀{ks:yj}{vs:List V}{ds:w9},Reps K G vs ds->∃vs' ds',(ks.zip vs).map (λkv=>if kv.1=k then(kv.1,w)else kv)=ks.zip vs'/\((ks.map kD).zip ds).map (λp=>if Yd p.1=O k then(p.1,d)else p)=(ks.map kD).zip ds'/\ds'.length=ds.length/\Reps K G vs' ds'
 |[],vs,ds,h=>⟨vs,ds,rfl,rfl,rfl,h⟩
 |_::_,_,_,.nil=>⟨[],[],rfl,rfl,rfl,.nil⟩
 |k0::ks,_,_,.cons (v:=v0) (d:=d0) h t=>by
  obtain⟨vs',ds',e1,e2,e3,e4⟩:=GI r  t;by_cases e:k0=k
  .refine⟨w::vs',d::ds',?_,?_,by rw[Qz,e3,Qz],.cons r e4⟩
   .rw[Q0,Qt,e1,Qp e,Q0]
   .rw[Qt,Q0,Qt,e2,Qp (by rw[PV,e]),Q0]
  .refine⟨v0::vs',d0::ds',?_,?_,by rw[Qz,e3,Qz],.cons h e4⟩
   .rw[Q0,Qt,e1,Qw e,Q0]
   .rw[Qt,Q0,Qt,e2,Qw (by rw[PV];exact λz=>e (Q3 z)),Q0]
theorem Reps.snoc   (r:Rep K G w d):∀{vs}{ds},Reps K G vs ds->Reps K G (vs++[w]) (ds++[d])
 |_,_,.nil=>.cons r .nil
 |_,_,.cons h t=>.cons h (Reps.snoc r t)
theorem Ah  {w:V}{d:D}(r:Rep K G w d){ks:yj}{vs:List V}{ds}(h:Reps K G vs ds)(hl:ks.length=ds.length):∃(ks':yj)(vs':List V)(ds':w9),Zl (ks.zip vs) k w=ks'.zip vs'/\XQ ((ks.map kD).zip ds) k d=(ks'.map kD).zip ds'/\ks'.length=ds'.length/\Reps K G vs' ds':=by
 unfold Zl XQ;rw[PR h];have hv:=h.length;split
 .obtain⟨vs',ds',e1,e2,e3,e4⟩:=GI r   h
  exact⟨ks,vs',ds',e1,e2,by rw[e3];exact hl,e4⟩
 .refine⟨ks++[k],vs++[w],ds++[d],?_,?_,by rw[Qk,Qk,hl];rfl,h.snoc r⟩
  .rw[List.zip_append (by lia)];rfl
  .rw[Qy,List.zip_append (by rw[Qb];lia)];rfl
end
section
variable{X:Cx}{B G0:Hp}{KX:XW}{e o i:Us}{pos p2:Pos}
theorem Cz{j:Nat}{f g:M D}(hu:X.A.units+64<cLine)(he:PE X e (tD X.K B G0 f))(ho:PE X o (Zg j))(hi:PE X i (tD X.K B G0 g))(hs:swapsWith e (O (.Subscript o i p2)) pos.line X.env=pure w6:=by rfl) :
  PS X (.Assign [.Subscript o i p2] e pos) (tS X.K B G0 KX (Po j g f)):=
 ZG (AK (by lia) ho hi he hs) λD σ H q=>tS.bnd  q λv H1 G1 Z1 d k r a=>by
  split at a
  .rename_i d0 q0
   obtain⟨ω,ks1⟩:=k.slots;obtain⟨v0,fp0,zF,r0,_,_⟩:=ks1 j .dic d0 (by unfold Tg;rw[q0]);refine⟨v0,zF,G1,Z1,k,?_⟩;unfold sB at a;cases z:g Z1 with
   |bad=>rw[z]at a;exact a.elim
   |ok y Z2=>
    rw[z]at a;dsimp only at a;intro kv G' H' k' s' r';split at a
    .rename_i ky kvs hk q2
     split at a
     .rename_i hlt
      obtain⟨ω2,zO⟩:=k'.slots;obtain⟨v2,fp2,hv2,r2,nd2,w2⟩:=zO j .dic _ (by unfold Tg;rw[q2]);rw[zF]at hv2;cases hv2;have ey:=Rr hk;subst ey;have ekv:=r'.key_inv;subst ekv;cases r2 with
      |@dic ad ks vs ds _ e hl h rr=>
       obtain⟨ks',vs',ds',e1,e2,e3,e4⟩:=Ah (k:=ky) (r.mono s') rr hl;refine⟨ad,_,rfl,DPut.k h ?_,a σ G' _ (k'.mutD q2 zF (.dic e hl h rr) Qj (.dic (ks:=ks') (vs:=vs') (ds:=ds') (by rw[e];exact e2) e3 (by rw[Zp,e1]) e4) (O3 ad) λb m=>m) (s'.trans (.refl _))⟩;have:(ks.zip vs).length<=kvs.length:=by rw[e,J7,J7,Qb];have:=rr.length;lia
       exact Nat.lt_of_le_of_lt this (QH hlt (by decide))
     .exact a.elim
    .exact a.elim
  .exact a.elim
theorem EOk.fillO{K}{B G0 G H:Hp}{σ:St}{Z:US}{p:Uq}{u:HO}(k:EOk K (upd B p (.dK [])) G0 G H σ Z)(hb:B p=w4)(h0:G0 p=w4):EOk K B G0 G (upd H p u) σ Z/\G p=w4/\H p=O (.dK [])/\(∀(j:Nat) es,Z[j]?=O (O (.own es))->σ[j]?≠O (O (.ref p))) /\
  ∀(j:Nat) pt d v fp',Z[j]?=O (O (.deep pt d))->σ[j]?=O (O v)->RepO K G (upd H p u) pt v d fp'->p∉fp':=by
 have hG:G p=w4:=k.np p (.k []) Zp h0;have hH   :=k.bh p _ Zp;refine⟨⟨λb o q=>?_,λb o q=>?_,k.g0,λa w q n=>?_,k.len,k.pub,λi ds q=>?_,k.sep,k.dp.map (λ_ _ _ q=>⟨q,rfl⟩) (λ_ ds q=>⟨ds,q,rfl⟩) λi pt d v fp q s r w n=>?_⟩,hG,hH,λj es q s=>?_,λj pt d v fp' q s r=>?_⟩
 .have z:b≠p:=Yx q hb
  rw[KH z];exact k.bh b o (by rw[KH z];exact q)
 .rw[KH (Yx q hG)];exact k.gh b o q
 .have z:a≠p:=Yx q hb
  exact k.np a w (by rw[KH z];exact q) n
 .obtain⟨a,vs,h1,h2,h3,h4,h5⟩:=k.own i ds q
  have z:a≠p:=λe=>by subst e;rw[Zp]at h2;cases h2
  exact⟨a,vs,h1,by rw[KH z]at h2;exact h2,h3,by rw[KH z];exact h4,h5⟩
 .have zz:∀b∈fp,b≠p:=λb m e=>by subst e;have:=(w b m).1;rw[Zp]at this;cases this
  refine⟨r.upd (λ_ e=>by rw[hH]at e;cases e) (λm=>zz p m wZ),λb m=>?_⟩;obtain⟨w1,w2⟩:=w b m;rw[KH (zz b m)]at w1;exact⟨w1,w2⟩
 .obtain⟨a,vs,h1,h2,h3,h4,h5⟩:=k.own j es q
  rw[h1]at s;cases s;rw[Zp]at h2;cases h2
 .obtain⟨ω,k1,_⟩:=k.dp
  obtain⟨v',fp,s',r',_,w⟩:=k1 j pt d q;rw[s]at s';cases s';have zz:p∉fp:=λm=>by have:=(w p m).1;rw[Zp]at this;cases this
  have e:=(r'.upd (o:=u) (λ_ e=>by rw[hH]at e;cases e) zz).uniq (.refl _) r;rw[←e];exact zz
theorem qo  {values:yb}{prs:List (M D×M D)}(h:DPs X pos G0 keys values prs)(hall:keys.all (·.isSome)=w5:=by rfl)(hl:keys.length=values.length:=by rfl)(h0:keys≠[]:=by simp)(h15:keys.length<=15:=by decide) :
  PE X (.Dict keys values pos) (tT X.K B G0 .dic (OL prs)):=by
 refine Kt (qu (trs:=λp=>prs.map λf=>(tD X.K (upd B p (.dK [])) G0 f.1,tD X.K (upd B p (.dK [])) G0 f.2)) (λp=>h.out _) hall hl h0 h15) λσ H Q ⟨G,Z,k,a⟩ p hp=>?_;refine FQ (k.under hp) ?_;unfold OL Ke at a
 cases z:SU prs Z with
 |bad=>rw[z]at a;exact a.elim
 |ok ps Z1=>
  rw[z]at a;dsimp only at a;intro vs G1 H1 k1 s1 r1;unfold Kf at a;cases e1:OM ps with
  |none=>rw[e1]at a;exact a.elim
  |some d=>
  rw[e1]at a;dsimp only at a;unfold OM at e1;split at e1
  .rename_i ks hk
   split at e1
   .rename_i hc
    cases e1;have ek:=FR hk;have hv:=r1.1;rw[ek]at hv;have hv:=hv.keys_inv;have hlen:ks.length=ps.length:=by have:=congrArg List.length ek;simpa using this.symm
    have hlv:vs.length=ks.length:=by have:=congrArg List.length hv;simpa using this
    have evs   :=by exact HP kV ks vs hv
    obtain⟨f1,f2,f3,f4,f5⟩:=k1.fillO  (k.bh.free hp) (k.g0.free (k.gh.free hp));refine⟨f3,ks.zip (vs.map (·.2)),evs,?_,?_⟩
    .rw[J7,Qb];lia
    .have em:VY [] (ks.zip (vs.map (·.2)))=ks.zip (vs.map (·.2)):=by
      rw[Eo _ [] ?_,QR];rw[QR,List.map_fst_zip (by rw[Qb];lia)];exact hc.1
     rw[em];refine a (.ref p) [p] _ _ f1 s1 ⟨.dic (ks:=ks) (vs:=vs.map (·.2)) (ds:=ps.map (·.2)) ?_ (by rw[Qb];exact hlen) Zp r1.2,O3 p,λb m=>?_,λb m=>?_,λb m=>?_⟩
     .rw[←ek,GJ]
     .rw[Qu.mp m];exact⟨k.bh.free hp,f2⟩
     .rw[Qu.mp m];exact f4
     .rw[Qu.mp m];exact f5
   .cases e1
  .cases e1
noncomputable def ZN(x y:D):yl:=match y,Yd x with
 |.dict kvs,O k=>if(kvs.all λp=>(Yd p.1).isSome)=w5 then O (kvs.any λp=>decide (Yd p.1=O k))else w4
 |_,_=>w4
theorem Ag{K}{G H}{x y}{v u}{t}(sg:Same G H)(px:Rep K G v x)(py:Rep K G u y)(e:ZN x y=O t):∃a o,u=.ref a/\YT H a v o/\o.isSome=t:=by
 unfold ZN at e;split at e
 .rename_i kvs k hk
  split at e
  .rename_i c
   cases e;have ex:=Rr hk;subst ex;have ev:=px.key_inv;subst ev;cases py with
   |@dic a h=>exact⟨a,w4,rfl,.inl ⟨[],k,.inl (sg _ _ h),rfl,rfl⟩,rfl⟩
   |exc _ _ _ _=>simp[Yd]at c
   |@dct a ks vs ds _ e0 hne hl h r=>refine⟨a,ZL _ k,rfl,.inl ⟨_,k,.inl (sg _ _ h),rfl,rfl⟩,?_⟩;subst e0;rw[PR r,Og]
   |dtt e0 hl h r=>subst e0;simp[pdD,Yd]at c
  .cases e
 simp_all
theorem DA(hu:X.A.units+64<cLine):OpB X (Uw .In) ZN:=by refine⟨λv u H Q=>∃G x y d,Same G H/\Rep X.K G v x/\Rep X.K G u y/\ZN x y=O d/\Q _ H,?_,λv u G H x y d Q s rx ry e k=>⟨G,x,y,d,s,rx,ry,e,k⟩⟩;intro pins s σ H x y v u Q I rx ry ⟨G,dx,dy,d,sg,px,py,e,q⟩;obtain⟨a,o,rfl,g,rfl⟩:=Ag sg px py e;obtain rfl:u=Value.ref a:=ry;exact d_in (by omega) I g rx λs' I'=>⟨.bl _,H,I',rfl,q⟩
theorem Cy  {g f}{Z Z1 Z2 Z':US}{d y e0}{k}{kvs}(h1:f Z=.ok d Z1)(q1:Z1[j]?=O (O (.deep .dic e0)))(h2:g Z1=.ok y Z2)(hk:Yd y=O k)(q2:Z2[j]?=O (O (.deep .dic (.dict kvs))))(hl:kvs.length<1000)
  (h3:Z2.set j (O (.deep .dic (.dict (XQ kvs k d))))=Z'):Po j g f Z=.nx Z':=by
 unfold Po sB;simp_all
noncomputable def Wr(j:Nat)(g:M D):M D:=λZ=>match Z[j]? with
 |some (O (.deep .dic _))=>(match g Z with
  |.ok y Z2=>(match Z2[j]? with
   |some (O (.deep .dic (.dict kvs)))=>(match VR (.dict kvs) y with
    |some d=>.ok d Z2
    |none=>.bad)
   |_=>.bad)
  |.bad=>.bad)
 |_=>.bad
theorem Af   (hu:X.A.units+64<cLine)(ho:PE X o (Zg j))(hi:PE X i (tD X.K B G0 g))(hs:Va i:=by intro _ _;rfl):PE X (.Subscript o i pos) (tD X.K B G0 (Wr j g)):=
 Kt (HX (by lia) ho hi hs) λσ H Q ⟨G,Z,k,a⟩=>by
  unfold Wr at a;split at a
  .rename_i d0 q0
   obtain⟨ω,ks1⟩:=k.slots;obtain⟨v0,fp0,zF,r0,_,_⟩:=ks1 j .dic d0 (by unfold Tg;rw[q0]);refine⟨v0,zF,G,Z,k,?_⟩;cases z:g Z with
   |bad=>rw[z]at a;exact a.elim
   |ok y Z2=>
    rw[z]at a;dsimp only at a;intro kv G' H' k' s' r';split at a
    .rename_i kvs q2
     split at a
     .rename_i d e
      obtain⟨ω2,zO⟩:=k'.slots;obtain⟨v2,fp2,hv2,r2,nd2,w2⟩:=zO j .dic _ (by unfold Tg;rw[q2]);rw[zF]at hv2;cases hv2;unfold VR at e;split at e
      .rename_i kvs' ky hx hk
       cases hx;have ey:=Rr hk;subst ey;have ekv:=r'.key_inv;subst ekv;cases r2 with
       |@dic ad ks vs ds _ e0 hl h rr=>subst e0;obtain⟨w,hw,yr⟩:=NG rr e;exact⟨ad,w,rfl,.inl ⟨_,ky,.inl h,rfl,hw.symm⟩,a w G' H' k' s' yr⟩
      .cases e
     .exact a.elim
    .exact a.elim
  .exact a.elim
noncomputable def Y3(b:Bool)(j:Nat)(g:M D):M Bool:=λZ=>match g Z with
 |.ok y Z2=>(match Z2[j]? with
  |some (O (.deep .dic (.dict kvs)))=>(match ZN y (.dict kvs)with
   |some t=>.ok (t==b) Z2
   |none=>.bad)
  |_=>.bad)
 |.bad=>.bad
theorem HL  {b}{g}{σ:St}{H:Hp}{Q}(q:tBo X.K B G0 (Y3 b j g) σ H Q):tD X.K B G0 g σ H λy H1=>Zg j σ H1 λx H2=>∃a o,x=.ref a/\YT H2 a y o/\Q (o.isSome==b) H2:=by
 obtain⟨G,Z,k,a⟩:=q;refine⟨G,Z,k,?_⟩;unfold Y3 at a;cases z:g Z with
 |bad=>rw[z]at a;exact a.elim
 |ok y Z2=>
  rw[z]at a;dsimp only at a;intro kv G' H' k' s' r';split at a
  .rename_i kvs q2
   split at a
   .rename_i t e
    obtain⟨ω2,zO⟩:=k'.slots;obtain⟨v2,fp2,hv2,r2,nd2,w2⟩:=zO j .dic _ (by unfold Tg;rw[q2]);refine⟨v2,hv2,?_⟩;unfold ZN at e;split at e
    .rename_i kvs' ky hx hk
     cases hx;split at e
     .cases e
      have ey:=Rr hk;subst ey;have ekv:=r'.key_inv;subst ekv;cases r2 with
      |@dic ad ks vs ds _ e0 hl h rr=>subst e0;refine⟨ad,ZL _ ky,rfl,.inl ⟨_,ky,.inl h,rfl,rfl⟩,?_⟩;rw[PR rr,Og]at a;exact a _ G' H' k' s' wZ
     .cases e
    .cases e
   .exact a.elim
  .exact a.elim
theorem tM.mono{K}{B G0}{α γ}{R}{f:M α}{σ}{H}{P Q:γ->Hp->Prop}(h:tM K B G0 R f σ H P)(i:∀v H1,P v H1->Q v H1):tM K B G0 R f σ H Q:=by
 obtain⟨G,Z,k,a⟩:=h;refine⟨G,Z,k,?_⟩;cases z:f Z with
 |bad=>rw[z]at a;exact a
 |ok d Z'=>rw[z]at a;exact λv G' H' k' s' r=>i _ _ (a v G' H' k' s' r)
theorem Ae  {g}(hu:X.A.units+64<cLine)(hi:PE X i (tD X.K B G0 g))(ho:PE X o (Zg j))(hm:behindInMarks .In o=w6:=by first|exact Oi _ (by decide) (by decide)|rfl):PT X (.Compare i [.In] [o] pos) (tBo X.K B G0 (Y3 w5 j g)):=
 Yo (Pz (Bm (by lia) hi ho) hm) λσ H Q q=>tM.mono (HL q) λy H1 ⟨x,hx,a,ov,e1,e2,e3⟩=>⟨x,hx,a,ov,e1,e2,_,rfl,by simp_all⟩
theorem qm  {g}(hu:X.A.units+64<cLine)(hi:PE X i (tD X.K B G0 g))(ho:PE X o (Zg j))(hm:behindInMarks .NotIn o=w6:=by first|exact Oi _ (by decide) (by decide)|rfl):PT X (.Compare i [.NotIn] [o] pos) (tBo X.K B G0 (Y3 w6 j g)):=
 Yo (Pz (xV (by lia) hi ho) hm) λσ H Q q=>tM.mono (HL q) λy H1 ⟨x,hx,a,ov,e1,e2,e3⟩=>⟨x,hx,a,ov,e1,e2,_,rfl,by simp_all⟩
theorem Ad   {Z Z1}{e0 y d}{kvs:List (D×D)}(q0:Z[j]?=O (O (.deep .dic e0)))(h:g Z=.ok y Z1)(q1:Z1[j]?=O (O (.deep .dic (.dict kvs))))(h2:VR (.dict kvs) y=O d):Wr j g Z=.ok d Z1:=by unfold Wr;simp_all
theorem RZ  {b t}{g}{Z Z1}{y}{kvs:List (D×D)}(h:g Z=.ok y Z1)(q1:Z1[j]?=O (O (.deep .dic (.dict kvs))))(h2:ZN y (.dict kvs)=O t):Y3 b j g Z=.ok (t==b) Z1:=by unfold Y3;simp_all
end
end DL
namespace L2
open PySem PySem.Spec PyProof.Rows PySem.Calls PyProof.V
end L2
namespace DL
open PySem PySem.Spec L2
open PyProof.Rows hiding St
noncomputable def tgN:Us->List Str
 |.Name x _=>[x]
 |.Tuple [.Name x _] _ _=>[x]
 |.Tuple [.Name x _,.Name y _] _ _=>[x,y]
 |.Tuple [.Name x _,.Name y _,.Name z _] _ _=>[x,y,z]
 |.Tuple [.Name x _,.Name y _,.Name z _,.Name u _] _ _=>[x,y,z,u]
 |_=>[]
noncomputable def adN(vs:List Str):List Str->List Str
 |[]=>vs
 |x::r=>adN (if vs.elem x then vs else vs++[x]) r
noncomputable def Tw(vs:List Str):List Comprehension->List Str
 |[]=>vs
 |⟨tg,_,_,_⟩::r=>Tw (adN vs (tgN tg)) r
noncomputable def dotN(x:Str):Str:=("." : Str)++x
noncomputable def blN(N:List Str)(gs:List Comprehension):List Str:=N.map (λx=>if(Tw [] gs).elem x then dotN x else x)++Tw [] gs
noncomputable def glN(sc:Scope):List Str:=sc.names.filterMap λy=>match y.2 with | .globalImplicit=>O y.1|_=>w4
abbrev NmF(s:Stmt)(N:List Str):Prop:=FnNm (Yh s) N (glN (Yh s))
theorem mq{α:Type}{l:List α}{x:α}(n:Nat)(h:l[n]?=O x):x∈l:=Qs h
section
variable{sc:Scope}{N gl:List Str}{x:Str}
theorem gA(H:FnNm sc N gl)(h:gl.elem x=w5):sc.names.lookup x=O .globalImplicit:=H.gl x (by simp_all)
end
section
variable{X:Cx}{B G0:Hp}{KX:XW}{e e1 e2 o a b c i:Us}{gl:List Str}{pos p2:Pos}{x:Str}{j:Nat}
theorem Dz(H:FnNm X.env.scope X.N gl)(hi:X.N[j]?=O x:=by rfl)(hf:X.fn x=w5∨X.env.scope.names.lookup x=O .local:=by first|exact .inl rfl|exact .inr rfl|assumption):PG X (.Name x pos) (tG X.K B G0 (gN j)):=WI (WJ H.nd hi (lq H j hi) hf)
theorem Cw{N'}{scope}{cl}{C}{s₀}{H₀}{ex}(hN:N'.Nodup:=by decide +kernel)(hi:N'[j]?=O x:=by rfl)(hl:locK (scope.names.lookup x)=w5:=by rfl):PG (X.blk N' scope cl C s₀ H₀ ex) (.Name x pos) (tG X.K B G0 (gN j)):=WI (WJ hN hi (Rg hl).1 (Rg hl).2)
theorem aSet  (H:FnNm X.env.scope X.N gl)(he:PE X e (tD X.K B G0 f))(hi:X.N[j]?=O x:=by rfl)(hs:swapsWith e (O (.Name x p2)) pos.line X.env=pure w6:=by rfl)
  (hf:X.fn x=w5∨X.env.scope.names.lookup x=O .local:=by first|exact .inl rfl|exact .inr rfl|assumption):PS X (.Assign [.Name x p2] e pos) (tS X.K B G0 KX (Kc j f)):=D7 H.nd hi (lq H j hi) he hs hf
theorem MW  (H:FnNm X.env.scope X.N gl)(he:PE X e (tL X.K B G0 f))(hi:X.N[j]?=O x:=by rfl)(hs:swapsWith e (O (.Name x p2)) pos.line X.env=pure w6:=by rfl)
  (hf:X.fn x=w5∨X.env.scope.names.lookup x=O .local:=by first|exact .inl rfl|exact .inr rfl|assumption):PS X (.Assign [.Name x p2] e pos) (tS X.K B G0 KX (Zq j f)):=Gc H.nd hi (lq H j hi) he hs hf
theorem Dy  {pt}(H:FnNm X.env.scope X.N gl)(he:PE X e (tT X.K B G0 pt f))(hi:X.N[j]?=O x:=by rfl)(hs:swapsWith e (O (.Name x p2)) pos.line X.env=pure w6:=by rfl)
  (hf:X.fn x=w5∨X.env.scope.names.lookup x=O .local:=by first|exact .inl rfl|exact .inr rfl|assumption):PS X (.Assign [.Name x p2] e pos) (tS X.K B G0 KX (SN j pt f)):=Al H.nd hi (lq H j hi) he hs hf
theorem aAug    {pos'}(H:FnNm X.env.scope X.N gl)(ho:IpD X op p)(he:PE X e (tD X.K B G0 f))(hi:X.N[j]?=O x:=by rfl)(hf:X.fn x=w5∨X.env.scope.names.lookup x=O .local:=by first|exact .inl rfl|exact .inr rfl|assumption):PS X (.AugAssign (.Name x pos') op e pos) (tS X.K B G0 KX (XN p j f)):=DT H.nd hi (lq H j hi) ho he hf
theorem Dx  {tg elt iter}{ifs}{gs}{scope}{f}{s}{t}{rd}{F}{k}{SC}{N1}(H:FnNm SC N1 gl)(le:∀Z es Z',F Z=.ok es Z'->dCG l f k s t rd Z=.ok es Z')(hc:X.calm=w5)
  (hi:PI X tg iter (iD X.K B G0 f)) (yn:Z9 X (blN N1 (⟨tg,iter,ifs,0⟩::gs)) scope (.ListComp elt (⟨tg,iter,ifs,0⟩::gs) scope pos) tg ifs s t rd) (hb:WE VO SC scope N1 (blN N1 (⟨tg,iter,ifs,0⟩::gs)) k=w5) (h1:X.env.scope=SC:=by rfl) (h2:X.N=N1:=by rfl) (hs:∀x,UL iter X.env x=pure x:=by intro _;rfl) :
  PE X (.ListComp elt (⟨tg,iter,ifs,0⟩::gs) scope pos) (tL X.K B G0 F):=E3 _ _ _ k le hc hi yn h1 h2 hb hs
theorem Dw   {py spos:Pos}{tg elt iter:Us}{ifs}{gs}{scope:Scope}{f}{s}{t}{rd:RdB}{F}{k:Nat}{SC:Scope}{N1}(H:FnNm SC N1 gl)(le:∀Z es Z',F Z=.ok es Z'->dCG l f k s t rd Z=.ok es Z')(hc:X.calm=w5)
  (hi:PI X tg iter (iD X.K B G0 f)) (yn:Z9 X (blN N1 (⟨tg,iter,ifs,0⟩::gs)) scope (.ListComp elt (⟨tg,iter,ifs,0⟩::gs) scope pos) tg ifs s t rd) (hb:WE VO SC scope N1 (blN N1 (⟨tg,iter,ifs,0⟩::gs)) k=w5) (hj:N1[j]?=O y:=by rfl) (hy:SC.names.lookup y=O .local:=by rfl) (h1:X.env.scope=SC:=by rfl) (h2:X.N=N1:=by rfl) (hs:∀x,UL iter X.env x=pure x:=by intro _;rfl)
  (hsw:swapsWith (.ListComp elt (⟨tg,iter,ifs,0⟩::gs) scope pos) (O (.Name y py)) spos.line X.env=pure w5:=by rfl) :
  PS X (.Assign [.Name y py] (.ListComp elt (⟨tg,iter,ifs,0⟩::gs) scope pos) spos) (tS X.K B G0 KX (Zq j F)):=sD_1 _ _ _ k le (h2 ▸ H.nd) (h2 ▸ hj) (h1 ▸ hy) hc hi yn h1 h2 hb hs hsw
theorem Cv        {N2}{tg elt iter}{ifs}{gs}{scope}{f}{s}{t}{rd}{F}{k}(le:∀Z es Z',F Z=.ok es Z'->dCG l f k s t rd Z=.ok es Z')(hc:X.calm=w5)
  (hi:PI (X.blk N2 scope0 cl C s₀ H₀ ex) tg iter (iD X.K B G0 f)) (yn:Z9 (X.blk N2 scope0 cl C s₀ H₀ ex) (blN N2 (⟨tg,iter,ifs,0⟩::gs)) scope (.ListComp elt (⟨tg,iter,ifs,0⟩::gs) scope pos) tg ifs s t rd) (hb:WE VO scope0 scope N2 (blN N2 (⟨tg,iter,ifs,0⟩::gs)) k=w5) (hs:∀x,UL iter (X.blk N2 scope0 cl C s₀ H₀ ex).env x=pure x:=by intro _;rfl) :
  PE (X.blk N2 scope0 cl C s₀ H₀ ex) (.ListComp elt (⟨tg,iter,ifs,0⟩::gs) scope pos) (tL X.K B G0 F):=D3 _ k le hc hi yn hb hs
end
end DL
namespace DL
open PySem PySem.Spec L2
open PyProof.Rows hiding St
open Builtin Builtin.Str
end DL
namespace DL
open PySem PySem.Spec L2
open PyProof.Rows hiding St
end DL
namespace DL
open PySem PySem.Spec L2
open PyProof.Rows hiding St
open PySem.SeqRoads2 PySem.SeqAt
end DL
namespace DL
open PySem PySem.Spec L2
open PyProof.Rows hiding St
end DL
namespace L2
open PySem PySem.Spec PyProof.Rows
end L2
namespace DL
open PySem PySem.Spec L2
open PyProof.Rows hiding St
end DL
namespace DL
open PySem PySem.Spec L2
open PyProof.Rows hiding St
open PySem.SeqRoads2 PySem.SeqAt
end DL
namespace DL
open PySem PySem.Spec L2
open PyProof.Rows hiding St
section
variable{X:Cx}{B G0:Hp}{KX:XW}{e e':Us}{es es':yb}{st st':Stmt}{sts zh:List Stmt}{pos p2:Pos}{x:Str}{j:Nat}{gl:List Str}
theorem ql  (q:st::sts=zh)(h1:PS X st (tS X.K B G0 KX g))(h2:PSs X sts (tS X.K B G0 KX h)):PSs X zh (tS X.K B G0 KX (UU g h)):=q ▸ Rh h1 h2
theorem Cu  (q:Stmt.Assign [.Name x p2] e pos=st')(H:FnNm X.env.scope X.N gl)(he:PE X e (tL X.K B G0 f))(hi:X.N[j]?=O x:=by rfl)(hs:swapsWith e (O (.Name x p2)) pos.line X.env=pure w6:=by rfl)
  (hf:X.fn x=w5∨X.env.scope.names.lookup x=O .local:=by first|exact .inl rfl|exact .inr rfl|assumption):PS X st' (tS X.K B G0 KX (Zq j f)):=q ▸ MW H he hi hs hf
theorem qk  (q:Expr.List es pos=e')(h:PA X es (tDs X.K B G0 f)):PE X e' (tL X.K B G0 (Ke f λxs=>if xs.length<=1000000 then UT xs else λ_=>.bad)):=q ▸ Ga h
theorem xo   (q:e::es=es')(ha:PE X e (tD X.K B G0 f))(hr:PA X es (tDs X.K B G0 g))(hs:Uv (e::es) X.env=(w6,eval e X.env)::Uv es X.env:=by rfl):PA X es' (tDs X.K B G0 (UP f g)):=q ▸ Xu ha hr hs
end
theorem EOk.publishD{K:Frag}{B G0 G H:Hp}{σ:St}{Z:US}{i:Nat}{d:D}(k:EOk K B G0 G H σ Z)(h:Z[i]?=O (O (.deep .dic d))) :
  ∃a G',σ[i]?=O (O (.ref a))/\Same G G'/\Rep K G' (.ref a) d/\EOk K B G0 G' H σ (Z.set i (O (.pub d))):=by
 obtain⟨ω,k1,k2⟩:=k.dp;obtain⟨v,fp,h1,r,nd,w⟩:=k1 i _ _ h;have hl:i<Z.length:=(Qg.mp h).1;cases r with
 |@dic a ks vs ds kvs e hl' hH hr=>
 obtain⟨h2,h3,hω⟩:=w a Qj;have sg:Same G (upd G a (.dK (ks.zip vs))):=ZQ h3
 have rr:Rep K (upd G a (.dK (ks.zip vs))) (.ref a) (.dict kvs):=by
  cases ks with
  |nil=>subst e;exact .dic Zp
  |cons q ks=>exact .dct e (by simp) hl' Zp (hr.mono sg)
 have nz:∀{m:Nat}{s:Sl},(Z.set i (O (Sl.pub (.dict kvs))))[m]?=O (O s)->(i=m/\s=.pub (.dict kvs))∨(i≠m/\Z[m]?=O (O s)):=λ{m s} q=>by
  by_cases z:i=m
  .subst z
   rw[QG hl]at q;cases q;exact .inl ⟨rfl,rfl⟩
  .rw[Qr z]at q;exact .inr ⟨z,q⟩
 refine⟨a,upd G a _,h1,sg,rr,⟨k.bh,λb u q=>?_,k.g0.trans sg,λb o q n=>?_,by rw[QS];exact k.len,λj d q=>?_,λj es q=>?_,λj l c es fs q1 q2 s1 s2=>?_,?_⟩⟩
 .by_cases z:b=a
  .subst z;rw[Zp]at q;cases q;exact hH
  .rw[KH z]at q;exact k.gh b u q
 .have z:b≠a:=λz=>by subst z;rw[h2]at q;cases q
  rw[KH z];exact k.np b o q n
 .rcases nz q with ⟨rfl,e⟩|⟨_,q⟩
  .cases e
   exact⟨.ref a,h1,rr⟩
  .obtain⟨v,g1,g2⟩:=k.pub j d q
   exact⟨v,g1,g2.mono sg⟩
 .rcases nz q with ⟨_,e⟩|⟨zi,q⟩
  .cases e
  .obtain⟨b,ws,g1,g2,g3,g4,g5⟩:=k.own j es q
   have zb:b≠a:=λe=>zi (by rw[←hω,←e];exact k2 j es b q g1)
   exact⟨b,ws,g1,g2,by rw[KH zb];exact g3,g4,g5.mono sg⟩
 .rcases nz q1 with ⟨_,e⟩|⟨_,q1⟩
  .cases e
  .rcases nz q2 with ⟨_,e⟩|⟨_,q2⟩
   .cases e
   .exact k.sep j l c es fs q1 q2 s1 s2
 .refine⟨ω,λm p d q=>?_,λm es b q s=>?_⟩
  .rcases nz q with ⟨_,e⟩|⟨zi,q⟩
   .cases e
   .obtain⟨v,fp,s,r,n,w2⟩:=k1 m p d q
    exact⟨v,fp,s,r.mono sg (.refl _),n,λb mb=>⟨(w2 b mb).1,by rw[KH (λz=>zi (by rw[←hω,←z];exact(w2 b mb).2.2))];exact(w2 b mb).2.1,(w2 b mb).2.2⟩⟩
  .rcases nz q with ⟨_,e⟩|⟨_,q⟩
   .cases e
   .exact k2 m es b q s
noncomputable def Rw(i:Nat):M D:=λZ=>match Z[i]? with
 |some (O (.deep .dic d))=>.ok d (Z.set i (O (.pub d)))
 |_=>.bad
section
variable{X:Cx}{B G0:Hp}{e:Us}
theorem Ac  (h:PE X e (Zg i)):PE X e (tD X.K B G0 (Rw i)):=Kt h λσ H Q ⟨G,Z,k,a⟩=>by
 unfold Rw at a;split at a
 .rename_i d q
  obtain⟨ad,G',h1,h2,h3,h4⟩:=k.publishD q;exact⟨.ref ad,h1,a _ G' H h4 h2 h3⟩
 .exact a.elim
theorem Ab  {Z Z':US}{d}(h:Z[i]?=O (O (.deep .dic d)))(h2:Z.set i (O (.pub d))=Z'):Rw i Z=.ok d Z':=by unfold Rw;simp_all
end
section
variable{X:Cx}{B G0:Hp}{KX:XW}{a b e e':Us}{es es':yb}{st st':Stmt}{sts zh:List Stmt}{pos p2:Pos}{x:Str}{j:Nat}{gl:List Str}
theorem Dv  (q:Stmt.Assign [.Name x p2] e pos=st')(H:FnNm X.env.scope X.N gl)(he:PE X e (tD X.K B G0 f))(hi:X.N[j]?=O x:=by rfl)(hs:swapsWith e (O (.Name x p2)) pos.line X.env=pure w6:=by rfl)
  (hf:X.fn x=w5∨X.env.scope.names.lookup x=O .local:=by first|exact .inl rfl|exact .inr rfl|assumption):PS X st' (tS X.K B G0 KX (Kc j f)):=q ▸ aSet H he hi hs hf
theorem qi  (q:Expr.List es pos=e')(h:PA X es (tDs X.K B G0 f)):PE X e' (tD X.K B G0 (Ks f)):=q ▸ Nv h
theorem qh   (q:Expr.Tuple es x1 pos=e')(h:PA X es (tDs X.K B G0 f)):PE X e' (tD X.K B G0 (Kz f)):=q ▸ P0 h
theorem Ll    (o:OpD X (binaryOp op) p)(q:Expr.BinOp a op b pos=e')(ha:PE X a (tD X.K B G0 f))(hb:PE X b (tD X.K B G0 g)):PE X e' (tD X.K B G0 (UR p f g)):=q ▸ VP o ha hb
end
end DL
namespace L2
open PySem PySem.Spec PyProof.Rows PySem.Calls PyProof.V
end L2
namespace DL
open PySem PySem.Spec L2
open PyProof.Rows hiding St
end DL
namespace L2
open PySem PySem.Spec PyProof.Rows
end L2
namespace DL
open PySem PySem.Spec L2
open PyProof.Rows hiding St
end DL
namespace L2
open PySem PySem.Spec PyProof.Rows
end L2
namespace DL
open PySem PySem.Spec L2
open PyProof.Rows hiding St
end DL
namespace DL
open PySem PySem.Spec L2
open PyProof.Rows hiding St
open Builtin Builtin.Str
end DL
namespace DL
open PySem PySem.Spec L2
open PyProof.Rows hiding St
end DL
namespace W
open PySem PySem.Spec L2 DL
open PyProof.Rows hiding St
noncomputable def top(i:Nat):Stmt:=PySem.Challenge.pw_wishdeal_k62_whole_narrower_aims.main.body.getD i (.Pass ⟨0,0,0,0⟩)
abbrev GG(s:Stmt)(x:Str):Prop:=(Yh s).names.lookup x=O NameKind.globalImplicit
abbrev VV(s:Stmt)(x:Str):Prop:=L2.Vis (Yh s) x
abbrev LL(s:Stmt)(x:Str):Prop:=L2.Loc (Yh s) x
theorem vk{s:Stmt}{x:Str}(h:(Yh s).names.lookup x=O .local∨(Yh s).names.lookup x=O .cell∨(Yh s).names.lookup x=O .free):VV s x:=h
theorem lk{s:Stmt}{x:Str}(h:(Yh s).names.lookup x=O .local∨(Yh s).names.lookup x=O .cell):LL s x:=h
structure Txt(K:Frag)(mg:Str->yf):Prop where
 b_all:mg "all" = w4
 b_bool:mg "bool" = w4
 b_enumerate:mg "enumerate" = w4
 b_int:mg "int" = w4
 b_isinstance:mg "isinstance" = w4
 b_len:mg "len" = w4
 b_list:mg "list" = w4
 b_max:mg "max" = w4
 b_range:mg "range" = w4
 b_set:mg "set" = w4
 b_sorted:mg "sorted" = w4
 b_str:mg "str" = w4
 b_sum:mg "sum" = w4
 b_tuple:mg "tuple" = w4
 c_MOST_ASKERS:∃t,mg "MOST_ASKERS" = O (Value.int 7 t)
 c_MOST_COPIES:∃t,mg "MOST_COPIES" = O (Value.int 7 t)
 c_MOST_RANKS:∃t,mg "MOST_RANKS" = O (Value.int 5 t)
 c_MOST_THINGS:∃t,mg "MOST_THINGS" = O (Value.int 6 t)
 c_ORDERS:∃ad o its n,mg "ORDERS" = O (.ref ad)/\K.lookup ad=O o/\o.cls=.type "tuple" /\ o.data=.seq its n/\its.size<=Ut/\Vals ((["firsts", "full", "lasts"]:List Str).map V.str) its.toList
noncomputable abbrev Sbz:Stmt:=top 73
noncomputable abbrev N_bz:List Str:=["_law_script", "_law_k"]
theorem Hbz:NmF Sbz N_bz:=KL (by decide +kernel)
noncomputable def g_bz:SM:=
 UU (sIf (Zi (oIB λi j=>decide (i<j)) 1 (Zu 0))
 (U5 (U1 0 (UM 1)))
 (sNx))
 (U5 (UT (.int 0)))
noncomputable def Xj:w9->ya:=Kb N_bz g_bz
noncomputable abbrev Sbk:Stmt:=top 53
noncomputable abbrev N_bk:List Str:=["askers", "worths", "prices", "asks", "asker", "thing", "worth"]
theorem Hbk:NmF Sbk N_bk:=KL (by decide +kernel)
noncomputable def Hk:SM:=
 VN 3 (UM 4) (ZB RB (UP (U1 3 (UM 4)) (UP (UR K9 (UM 6) (U1 2 (UM 5))) (UN))))
noncomputable def TZ:SM:=
 UU (Zq 3 (SO (Ks (UP (UT (.int 0)) (UN))) (UM 0)))
 (UU (KI (KW (UM 1)) (gT 3 (gNC (gN 4) (gNC (gN 5) (gNC (gN 6) (gN0))))) Hk)
 (U5 (UM 3)))
noncomputable def XZ:w9->ya:=Kb N_bk TZ
noncomputable abbrev Saz:Stmt:=top 42
noncomputable abbrev N_az:List Str:=["nothing", "got"]
theorem Haz:NmF Saz N_az:=KL (by decide +kernel)
noncomputable def g_az:SM:=
 U5 (mIf (U7 isNon (UM 1)) (UM 0) (UM 1))
noncomputable def Wv:w9->ya:=Kb N_az g_az
noncomputable abbrev Sba:Stmt:=top 43
noncomputable abbrev SD:List Str:=["nothing", "worths", "dealing", "had", "asker", "thing", "worth", "told"]
theorem Hba:FnNm (Yh Sba) SD ["place_of", "enumerate", "len"]:=KL (by decide +kernel)
noncomputable def Hj:SM:=
 sIf (UR oNe (U1 2 (UM 4)) (UM 5))
 (ZV 7 (Kz (UP (UY 2 Wv (UP (UM 0) (UP (U1 2 (UM 4)) (UN)))) (UP (UM 5) (UP (UR K9 (UM 6) (U1 3 (UM 4))) (UP (UM 4) (UN)))))))
 (sNx)
noncomputable def Hi:SM:=
 sIf (UR oEq (U1 2 (UM 4)) (UM 5))
 (VN 3 (UM 4) (UM 6))
 (sNx)
noncomputable def Sc:SM:=
 UU (Zq 3 (SO (Ks (UP (UT (.int 0)) (UN))) (Zu 2)))
 (UU (KI (KW (UM 1)) (gT 3 (gNC (gN 4) (gNC (gN 5) (gNC (gN 6) (gN0))))) Hi)
 (UU (Zq 7 (WB (Zo (Y5 (UP (UM 2) (UN))) 2 (gT 2 (gNC (gN 8) (gNC (gN 9) (gN0)))) (U7 (λd=>!isNon d) (UM 9)) (Kz (UP (UM 9) (UP (UM 0) (UP (YC (U1 3 (UM 8))) (UP (UM 8) (UN)))))))))
 (UU (KI (KW (UM 1)) (gT 3 (gNC (gN 4) (gNC (gN 5) (gNC (gN 6) (gN0))))) Hj)
 (U5 (UM 7)))))
noncomputable def Vw:w9->ya:=Kb SD Sc
noncomputable abbrev Saa:Stmt:=top 1
noncomputable abbrev N_aa:List Str:=["thing"]
theorem Haa:NmF Saa N_aa:=KL (by decide +kernel)
noncomputable def g_aa:SM:=
 U5 (SJ (U7 (λd=>.bool (Zs d "int")) (UM 0)) (OI (U7 (λd=>.bool (Zs d "bool")) (UM 0))))
noncomputable def VL:w9->ya:=Kb N_aa g_aa
noncomputable abbrev Sac:Stmt:=top 3
noncomputable abbrev N_ac:List Str:=["thing", "many"]
theorem Hac:NmF Sac N_ac:=KL (by decide +kernel)
noncomputable def g_ac:SM:=
 U5 (SJ (UY 1 VL (UP (UM 0) (UN))) (U7 UA (SY (oIB λi j=>decide (i<=j)) (oIB λi j=>decide (i<j)) (UT (.int 0)) (UM 0) (UM 1))))
noncomputable def ZY:w9->ya:=Kb N_ac g_ac
noncomputable abbrev Sae:Stmt:=top 14
noncomputable abbrev N_ae:List Str:=["thing", "things"]
theorem Hae:NmF Sae N_ae:=KL (by decide +kernel)
noncomputable def g_ae:SM:=
 UU (sIf (mOr (K4 (Yu (U7 (λd=>.bool (Zs d "list")) (UM 0)))) (UR oEq (Zu 0) (UT (.int 0))))
 (U5 (UT (.bool w6)))
 (sNx))
 (U5 (ZB YB (UP (U7 Uz (Zo (KW (UM 0)) 1 (gN 2) (UT w5) (UY 2 ZY (UP (UM 2) (UP (UM 1) (UN)))))) (UN))))
noncomputable def Wy:w9->ya:=Kb N_ae g_ae
noncomputable abbrev Saf:Stmt:=top 15
noncomputable abbrev N_af:List Str:=["thing", "things", "wished"]
theorem Haf:NmF Saf N_af:=KL (by decide +kernel)
noncomputable def Su:SM:=
 UU (sIf (mOr (K4 (Yu (U7 (λd=>.bool (Zs d "list")) (UM 0)))) (UR (oIB λi j=>decide (j<i)) (Zu 0) (UT (.int 5))))
 (U5 (UT (.bool w6)))
 (sNx))
 (UU (sIf (K4 (Yu (ZB YB (UP (U7 Uz (Zo (KW (UM 0)) 1 (gN 3) (UT w5) (UY 2 Wy (UP (UM 3) (UP (UM 1) (UN)))))) (UN)))))
 (U5 (UT (.bool w6)))
 (sNx))
 (UU (Zq 2 (RN (KW (UM 0)) 2 (gN 3) (UT w5) (KW (UM 3)) (gN 4) (UT w5) (UM 4)))
 (U5 (U7 UA (UR oEq (ZB WR (UP (UM 2) (UN))) (Zu 2))))))
noncomputable def VI:w9->ya:=Kb N_af Su
noncomputable abbrev Sag:Stmt:=top 16
noncomputable abbrev N_ag:List Str:=["lists", "things", "asker", "ranks"]
theorem Hag:NmF Sag N_ag:=KL (by decide +kernel)
noncomputable def Aa:SM:=
 sIf (K4 (Yu (UY 2 VI (UP (UM 3) (UP (UM 1) (UN))))))
 (WG)
 (sNx)
noncomputable def Ss:SM:=
 UU (sIf (mOr (K4 (Yu (U7 (λd=>.bool (Zs d "list")) (UM 0)))) (K4 (SY (oIB λi j=>decide (i<=j)) (oIB λi j=>decide (i<=j)) (UT (.int 1)) (Zu 0) (UT (.int 7)))))
 (WG)
 (sNx))
 (KI (Y5 (UP (UM 0) (UN))) (gT 2 (gNC (gN 2) (gNC (gN 3) (gN0)))) Aa)
noncomputable def VH:w9->ya:=Kb N_ag Ss
noncomputable abbrev Sad:Stmt:=top 13
noncomputable abbrev N_ad:List Str:=["copies", "number", "many"]
theorem Had:NmF Sad N_ad:=KL (by decide +kernel)
noncomputable def Hh:SM:=
 sIf (K4 (Yu (UY 2 ZY (UP (UM 2) (UP (UR U8 (UT (.int 7)) (UT (.int 1))) (UN))))))
 (WG)
 (sNx)
noncomputable def Sv:SM:=
 UU (sIf (mOr (K4 (Yu (U7 (λd=>.bool (Zs d "list")) (UM 0)))) (K4 (SY (oIB λi j=>decide (i<=j)) (oIB λi j=>decide (i<=j)) (UT (.int 1)) (Zu 0) (UT (.int 6)))))
 (WG)
 (sNx))
 (KI (Y5 (UP (UM 0) (UN))) (gT 2 (gNC (gN 1) (gNC (gN 2) (gN0)))) Hh)
noncomputable def VJ:w9->ya:=Kb N_ad Sv
noncomputable abbrev Sah:Stmt:=top 17
noncomputable abbrev N_ah:List Str:=["thing", "copies", "lists"]
theorem Hah:NmF Sah N_ah:=KL (by decide +kernel)
noncomputable def g_ah:SM:=
 UU (sIf (mOr (K4 (Yu (U7 (λd=>.bool (Zs d "tuple")) (UM 0)))) (UR oNe (Zu 0) (UT (.int 2))))
 (WG)
 (sNx))
 (UU (Zr (UM 0) (gT 2 (gNC (gN 1) (gNC (gN 2) (gN0)))))
 (UU (Xy (UY 1 VJ (UP (UM 1) (UN))))
 (Xy (UY 2 VH (UP (UM 2) (UP (Zu 1) (UN)))))))
noncomputable def Yb:w9->ya:=Kb N_ah g_ah
noncomputable abbrev San:Stmt:=top 24
noncomputable abbrev N_an:List Str:=["wishes", "dealing"]
theorem Han:NmF San N_an:=KL (by decide +kernel)
noncomputable def g_an:SM:=
 UU (Xy (UY 1 Yb (UP (UM 0) (UN))))
 (U5 (U7 Uz (Zo (Y5 (UP (U1 0 (UT (.int 0))) (UN))) 2 (gT 2 (gNC (gN 2) (gNC (gN 3) (gN0)))) (UT w5) (UR K9 (UM 3) (VW (UM 1) (UP (UM 2) (UN)))))))
noncomputable def VE:w9->ya:=Kb N_an g_an
noncomputable abbrev Sbb:Stmt:=top 44
noncomputable abbrev N_bb:List Str:=["wishes", "dealing", "nothing", "left", "to_nothing"]
theorem Hbb:NmF Sbb N_bb:=KL (by decide +kernel)
noncomputable def Sb:SM:=
 UU (Kc 2 (ZB Kk (UP (U1 0 (UT (.int 0))) (UN))))
 (UU (Kc 3 (UY 2 VE (UP (UM 0) (UP (UM 1) (UN)))))
 (UU (Zq 4 (Zo (Y5 (UP (UM 3) (UN))) 2 (gT 2 (gNC (gN 5) (gNC (gN 6) (gN0)))) (Zi (oIB λi j=>decide (j<i)) 6 (UT (.int 0))) (Kz (UP (UM 5) (UP (UM 2) (UP (UT (.int 0)) (UP (UT .none) (UN))))))))
 (U5 (UR U8 (UM 4) (U7 Uz (Zo (Xx (UP (UM 2) (UN))) 1 (gN 5) (UT w5) (Kz (UP (UM 2) (UP (UM 5) (UP (UT (.int 0)) (UP (UT .none) (UN))))))))))))
noncomputable def Vv:w9->ya:=Kb N_bb Sb
noncomputable abbrev Sbc:Stmt:=top 45
noncomputable abbrev N_bc:List Str:=["wishes", "worths", "dealing"]
theorem Hbc:NmF Sbc N_bc:=KL (by decide +kernel)
noncomputable def g_bc:SM:=
 U5 (UR U8 (UY 3 Vw (UP (ZB Kk (UP (U1 0 (UT (.int 0))) (UN))) (UP (UM 1) (UP (UM 2) (UN))))) (UY 2 Vv (UP (UM 0) (UP (UM 2) (UN)))))
noncomputable def YD:w9->ya:=Kb N_bc g_bc
noncomputable abbrev Sbd:Stmt:=top 46
noncomputable abbrev N_bd:List Str:=["walks", "steps", "told", "step", "ahead", "behind", "gain", "asker", "gained", "walked"]
theorem Hbd:NmF Sbd N_bd:=KL (by decide +kernel)
noncomputable def Hg:SM:=
 UU (Zr (UM 3) (gT 4 (gNC (gN 4) (gNC (gN 5) (gNC (gN 6) (gNC (gN 7) (gN0)))))))
 (UU (Zr (U1 0 (UM 4)) (gT 2 (gNC (gN 8) (gNC (gN 9) (gN0)))))
 (sIf (UR (oIB λi j=>decide (j<i)) (UR U8 (UM 8) (UM 6)) (UR oIx (U1 2 (UM 5)) (UT (.int 0))))
 (VN 2 (UM 5) (Kz (UP (UR U8 (UM 8) (UM 6)) (UP (UR U8 (UM 9) (Ks (UP (UM 3) (UN)))) (UN)))))
 (sNx)))
noncomputable def Sa:SM:=
 UU (Zq 2 (VX 0))
 (UU (KI (KW (UM 1)) (gN 3) Hg)
 (U5 (UM 2)))
noncomputable def Vu:w9->ya:=Kb N_bd Sa
noncomputable abbrev Sbe:Stmt:=top 47
noncomputable abbrev N_be:List Str:=["places", "steps", "told", "turn"]
theorem Hbe:NmF Sbe N_be:=KL (by decide +kernel)
noncomputable def B9:SM:=
 Kc 2 (UY 2 Vu (UP (UM 2) (UP (UM 1) (UN))))
noncomputable def T9:SM:=
 UU (Kc 2 (UR KF (Ks (UP (Kz (UP (UT (.int 0)) (UP (Ks (UN)) (UN)))) (UN))) (UM 0)))
 (UU (KI (Xx (UP (UM 0) (UN))) (gN 3) B9)
 (U5 (UM 2)))
noncomputable def X2:w9->ya:=Kb N_be T9
noncomputable abbrev Sbj:Stmt:=top 52
noncomputable abbrev N_bj:List Str:=["wishes", "worths", "dealing", "nothing", "walks"]
theorem Hbj:NmF Sbj N_bj:=KL (by decide +kernel)
noncomputable def T4:SM:=
 UU (Kc 3 (ZB Kk (UP (U1 0 (UT (.int 0))) (UN))))
 (UU (Kc 4 (UY 2 X2 (UP (UR U8 (UM 3) (UT (.int 1))) (UP (UY 3 YD (UP (UM 0) (UP (UM 1) (UP (UM 2) (UN))))) (UN)))))
 (U5 (U7 Uz (Zo (KW (ZX (UM 4) (UT w4) (Ke (UM 3) λx=>Kf (YF x)))) 2 (gT 2 (gNC (gN 5) (gNC (gN 6) (gN0)))) (UT w5) (UM 5)))))
noncomputable def X0:w9->ya:=Kb N_bj T4
noncomputable abbrev Sbl:Stmt:=top 54
noncomputable abbrev N_bl:List Str:=["wishes", "worths", "dealing", "prices"]
theorem Hbl:NmF Sbl N_bl:=KL (by decide +kernel)
noncomputable def TY:SM:=
 UU (Kc 3 (UY 3 X0 (UP (UM 0) (UP (UM 1) (UP (UM 2) (UN))))))
 (U5 (Kz (UP (UT (.int 1)) (UP (UY 3 XZ (UP (ZB Kk (UP (U1 0 (UT (.int 1))) (UN))) (UP (UM 1) (UP (UM 3) (UN))))) (UP (UM 3) (UN))))))
noncomputable def Vs:w9->ya:=Kb N_bl TY
noncomputable abbrev Sbf:Stmt:=top 48
noncomputable abbrev N_bf:List Str:=["walk", "end", "step", "begin"]
theorem Hbf:NmF Sbf N_bf:=KL (by decide +kernel)
noncomputable def Hf:SM:=
 sIf (UR oEq (UR oIx (U1 0 (UM 3)) (UT (.int 0))) (U1 2 (UT (.int 1))))
 (U5 (ZX (UM 0) (Ke (UM 3) λx=>Kf (YF x)) (Ke (UR U8 (UM 1) (UT (.int 1))) λx=>Kf (YF x))))
 (sNx)
noncomputable def He:SM:=
 KI (Xx (UP (UR U8 (UM 1) (UT (.int 1))) (UN))) (gN 3) Hf
noncomputable def T8:SM:=
 UU (KI (Y5 (UP (UM 0) (UN))) (gT 2 (gNC (gN 1) (gNC (gN 2) (gN0)))) He)
 (U5 (Ks (UN)))
noncomputable def Vt:w9->ya:=Kb N_bf T8
noncomputable abbrev Sbg:Stmt:=top 49
noncomputable abbrev N_bg:List Str:=["nothing", "steps", "begin", "number", "step", "way", "ahead", "behind", "gain", "asker"]
theorem Hbg:NmF Sbg N_bg:=KL (by decide +kernel)
noncomputable def Hd:SM:=
 sIf (U7 (λd=>!isNon d) (UM 9))
 (ZV 5 (Kz (UP (UM 9) (UP (mIf (Zi oEq 7 (UM 0)) (UT .none) (UM 7)) (UN)))))
 (sNx)
noncomputable def Hc:SM:=
 sIf (UR oEq (U1 4 (UT (.int 0))) (UM 0))
 (Kc 2 (UM 3))
 (sNx)
noncomputable def T7:SM:=
 UU (Kc 2 (UT (.int 0)))
 (UU (KI (Y5 (UP (UM 1) (UN))) (gT 2 (gNC (gN 3) (gNC (gN 4) (gN0)))) Hc)
 (UU (Zq 5 (Ke (UN) λxs=>if xs.length<=1000000 then UT xs else λ_=>.bad))
 (UU (KI (KW (UR U8 (ZX (UM 1) (Ke (UM 2) λx=>Kf (YF x)) (UT w4)) (ZX (UM 1) (UT w4) (Ke (UM 2) λx=>Kf (YF x))))) (gT 4 (gNC (gN 6) (gNC (gN 7) (gNC (gN 8) (gNC (gN 9) (gN0)))))) Hd)
 (U5 (UM 5)))))
noncomputable def Xk:w9->ya:=Kb N_bg T7
noncomputable abbrev Sbh:Stmt:=top 50
noncomputable abbrev N_bh:List Str:=["wishes", "worths", "dealing", "nothing", "gained", "walk"]
theorem Hbh:NmF Sbh N_bh:=KL (by decide +kernel)
noncomputable def Hb:SM:=
 sIf (UR oEq (Zu 5) (UR U8 (UM 3) (UT (.int 1))))
 (U5 (UY 2 Xk (UP (UM 3) (UP (UY 1 Vt (UP (UM 5) (UN))) (UN)))))
 (sNx)
noncomputable def T6:SM:=
 UU (Kc 3 (ZB Kk (UP (U1 0 (UT (.int 0))) (UN))))
 (UU (KI (KW (UY 2 X2 (UP (UR U8 (UM 3) (UT (.int 1))) (UP (UY 3 YD (UP (UM 0) (UP (UM 1) (UP (UM 2) (UN))))) (UN))))) (gT 2 (gNC (gN 4) (gNC (gN 5) (gN0)))) Hb)
 (U5 (Ks (UN))))
noncomputable def Wu:w9->ya:=Kb N_bh T6
noncomputable abbrev Say:Stmt:=top 40
noncomputable abbrev N_ay:List Str:=["dealing", "way", "told", "asker", "taken"]
theorem Hay:NmF Say N_ay:=KL (by decide +kernel)
noncomputable def Ha:SM:=
 VN 2 (UM 3) (UM 4)
noncomputable def Sd:SM:=
 UU (Zq 2 (VX 0))
 (UU (KI (KW (UM 1)) (gT 2 (gNC (gN 3) (gNC (gN 4) (gN0)))) Ha)
 (U5 (UM 2)))
noncomputable def X3:w9->ya:=Kb N_ay Sd
noncomputable abbrev Sbi:Stmt:=top 51
noncomputable abbrev N_bi:List Str:=["wishes", "worths", "dealing", "way"]
theorem Hbi:NmF Sbi N_bi:=KL (by decide +kernel)
noncomputable def PQ:SM:=
 UU (Kc 2 (UY 2 X3 (UP (UM 2) (UP (UM 3) (UN)))))
 (Kc 3 (UY 3 Wu (UP (UM 0) (UP (UM 1) (UP (UM 2) (UN))))))
noncomputable def T5:SM:=
 UU (Kc 2 (UR KF (Ks (UP (UT .none) (UN))) (ZB Kk (UP (U1 0 (UT (.int 1))) (UN)))))
 (UU (Kc 3 (UY 3 Wu (UP (UM 0) (UP (UM 1) (UP (UM 2) (UN))))))
 (UU (Xz (PU (UM 3)) PQ Wz)
 (U5 (UM 2))))
noncomputable def X1:w9->ya:=Kb N_bi T5
noncomputable abbrev Sak:Stmt:=top 20
noncomputable abbrev N_ak:List Str:=["wishes"]
theorem Hak:NmF Sak N_ak:=KL (by decide +kernel)
noncomputable def Sq:SM:=
 UU (Xy (UY 1 Yb (UP (UM 0) (UN))))
 (U5 (ZB Td (UP (U7 Uz (RM (Y5 (UP (U1 0 (UT (.int 1))) (UN))) 4 (gT 2 (gNC (gN 1) (gNC (gN 2) (gN0)))) (UT w5) (KW (UM 2)) (gN 3) (UT w5) (KW (UM 3)) (gN 4) (UT w5) (Kz (UP (UM 1) (UP (UM 4) (UN)))))) (UN))))
noncomputable def VG:w9->ya:=Kb N_ak Sq
noncomputable abbrev Sat:Stmt:=top 34
noncomputable abbrev N_at:List Str:=["base", "times", "told", "step"]
theorem Hat:NmF Sat N_at:=KL (by decide +kernel)
noncomputable def B8:SM:=
 XN Xf 2 (UM 0)
noncomputable def g_at:SM:=
 UU (Kc 2 (UT (.int 1)))
 (UU (KI (Xx (UP (UM 1) (UN))) (gN 3) B8)
 (U5 (UM 2)))
noncomputable def ZI:w9->ya:=Kb N_at g_at
noncomputable abbrev Sav:Stmt:=top 36
noncomputable abbrev N_av:List Str:=["turns", "base", "asker", "rank", "behind"]
theorem Hav:NmF Sav N_av:=KL (by decide +kernel)
noncomputable def Sg:SM:=
 UU (sIf (Zi Zw 2 (UM 0))
 (U5 (UT (.int 0)))
 (sNx))
 (UU (Kc 4 (UR K9 (UR K9 (Zu 0) (UT (.int 1))) (PH (UM 0) (UP (UM 2) (UN)))))
 (U5 (UR KF (UR K9 (UM 1) (UM 3)) (UY 2 ZI (UP (UM 1) (UP (UM 4) (UN)))))))
noncomputable def Vx:w9->ya:=Kb N_av Sg
noncomputable abbrev Sau:Stmt:=top 35
noncomputable abbrev N_au:List Str:=["order", "base", "most", "rank"]
theorem Hau:NmF Sau N_au:=KL (by decide +kernel)
noncomputable def Sh:SM:=
 UU (sIf (Zi oEq 0 (UT (.str "firsts")))
 (U5 (UY 2 ZI (UP (UM 1) (UP (UR K9 (UM 2) (UM 3)) (UN)))))
 (sNx))
 (UU (sIf (Zi oEq 0 (UT (.str "full")))
 (U5 (UR U8 (UY 2 ZI (UP (UM 1) (UP (UM 2) (UN)))) (UY 2 ZI (UP (UM 1) (UP (UR K9 (UM 2) (UM 3)) (UN))))))
 (sNx))
 (U5 (UR K9 (UY 2 ZI (UP (UM 1) (UP (UM 2) (UN)))) (UY 2 ZI (UP (UM 1) (UP (UR K9 (UM 3) (UT (.int 1))) (UN)))))))
noncomputable def Vy:w9->ya:=Kb N_au Sh
noncomputable abbrev Sai:Stmt:=top 18
noncomputable abbrev N_ai:List Str:=["ranks", "thing", "number", "rank"]
theorem Hai:NmF Sai N_ai:=KL (by decide +kernel)
noncomputable def L9:SM:=
 sIf (Zi oIn 1 (UM 3))
 (U5 (UM 2))
 (sNx)
noncomputable def Sr:SM:=
 UU (KI (OZ (UP (UM 0) (UN))) (gT 2 (gNC (gN 2) (gNC (gN 3) (gN0)))) L9)
 (U5 (UT (.int 0)))
noncomputable def YS:w9->ya:=Kb N_ai Sr
noncomputable abbrev Saw:Stmt:=top 37
noncomputable abbrev N_aw:List Str:=["wishes", "aim", "most", "asker", "thing", "order", "old", "turns", "lists", "rank", "base", "kept", "by_counts"]
theorem Haw:NmF Saw N_aw:=KL (by decide +kernel)
noncomputable def Sf:SM:=
 UU (Zr (UM 1) (gT 3 (gNC (gN 5) (gNC (gN 6) (gNC (gN 7) (gN0))))))
 (UU (Kc 8 (U1 0 (UT (.int 1))))
 (UU (Kc 9 (UY 2 YS (UP (U1 8 (UM 3)) (UP (UM 4) (UN)))))
 (UU (Kc 10 (UR U8 (Zu 8) (UT (.int 1))))
 (UU (Kc 11 (mIf (ZW (U7 (λd=>!isNon d) (UM 6)) (UR oEq (U1 6 (UM 3)) (UM 4))) (UT (.int 1)) (UT (.int 0))))
 (UU (Kc 12 (UR U8 (UR KF (UY 4 Vy (UP (UM 5) (UP (UM 10) (UP (UM 2) (UP (UM 9) (UN)))))) (UM 10)) (UM 11)))
 (U5 (UR U8 (UR KF (UM 12) (UY 2 ZI (UP (UR U8 (UM 2) (UT (.int 1))) (UP (Zu 7) (UN))))) (UY 4 Vx (UP (UM 7) (UP (UR U8 (UM 2) (UT (.int 1))) (UP (UM 3) (UP (UM 9) (UN)))))))))))))
noncomputable def Ww:w9->ya:=Kb N_aw Sf
noncomputable abbrev Saj:Stmt:=top 19
noncomputable abbrev N_aj:List Str:=["wishes"]
theorem Haj:NmF Saj N_aj:=KL (by decide +kernel)
noncomputable def g_aj:SM:=
 UU (Xy (UY 1 Yb (UP (UM 0) (UN))))
 (U5 (ZB SH (UP (U7 Uz (Zo (KW (U1 0 (UT (.int 1)))) 1 (gN 1) (UT w5) (Zu 1))) (UN))))
noncomputable def X5:w9->ya:=Kb N_aj g_aj
noncomputable abbrev Sar:Stmt:=top 31
noncomputable abbrev N_ar:List Str:=["thing", "askers"]
theorem Har:NmF Sar N_ar:=KL (by decide +kernel)
noncomputable def Sk:SM:=
 UU (sIf (mOr (K4 (Yu (U7 (λd=>.bool (Zs d "list")) (UM 0)))) (K4 (Yu (ZB YB (UP (U7 Uz (Zo (KW (UM 0)) 1 (gN 2) (UT w5) (UY 2 ZY (UP (UM 2) (UP (UM 1) (UN)))))) (UN))))))
 (U5 (UT (.bool w6)))
 (sNx))
 (U5 (U7 UA (UR oEq (ZB WR (UP (UM 0) (UN))) (Zu 0))))
noncomputable def Vz:w9->ya:=Kb N_ar Sk
noncomputable abbrev Saq:Stmt:=top 30
noncomputable abbrev N_aq:List Str:=["thing", "askers", "things"]
theorem Haq:NmF Saq N_aq:=KL (by decide +kernel)
noncomputable def Sm:SM:=
 UU (sIf (U7 isNon (UM 0))
 (U5 (UT (.bool w5)))
 (sNx))
 (UU (sIf (mOr (K4 (Yu (U7 (λd=>.bool (Zs d "list")) (UM 0)))) (UR oNe (Zu 0) (UM 1)))
 (U5 (UT (.bool w6)))
 (sNx))
 (U5 (ZB YB (UP (U7 Uz (Zo (KW (UM 0)) 1 (gN 3) (UT w5) (W6 (U7 (λd=>.bool (isNon d)) (UM 3)) (UY 2 ZY (UP (UM 3) (UP (UM 2) (UN))))))) (UN)))))
noncomputable def VA:w9->ya:=Kb N_aq Sm
noncomputable abbrev Sao:Stmt:=top 27
noncomputable abbrev N_ao:List Str:=["thing"]
theorem Hao:NmF Sao N_ao:=KL (by decide +kernel)
noncomputable def g_ao:SM:=
 U5 (SJ (U7 (λd=>.bool (Zs d "str")) (UM 0)) (U7 UA (Zi oIn 0 (UT (.tuple ((["firsts", "full", "lasts"]:List Str).map UB))))))
noncomputable def VD:w9->ya:=Kb N_ao g_ao
noncomputable abbrev Sap:Stmt:=top 28
noncomputable abbrev N_ap:List Str:=["thing"]
theorem Hap:NmF Sap N_ap:=KL (by decide +kernel)
noncomputable def g_ap:SM:=
 sIf (K4 (Yu (UY 1 VD (UP (UM 0) (UN)))))
 (WG)
 (sNx)
noncomputable def VC:w9->ya:=Kb N_ap g_ap
noncomputable abbrev Sas:Stmt:=top 32
noncomputable abbrev N_as:List Str:=["wishes", "thing", "copies", "lists", "order", "old", "turns"]
theorem Has:NmF Sas N_as:=KL (by decide +kernel)
noncomputable def Sj:SM:=
 UU (Xy (UY 1 Yb (UP (UM 0) (UN))))
 (UU (sIf (mOr (K4 (Yu (U7 (λd=>.bool (Zs d "tuple")) (UM 1)))) (UR oNe (Zu 1) (UT (.int 3))))
 (WG)
 (sNx))
 (UU (Zr (UM 0) (gT 2 (gNC (gN 2) (gNC (gN 3) (gN0)))))
 (UU (Zr (UM 1) (gT 3 (gNC (gN 4) (gNC (gN 5) (gNC (gN 6) (gN0))))))
 (UU (Xy (UY 1 VC (UP (UM 4) (UN))))
 (UU (sIf (K4 (Yu (UY 3 VA (UP (UM 5) (UP (Zu 3) (UP (Zu 2) (UN)))))))
 (WG)
 (sNx))
 (sIf (K4 (Yu (UY 2 Vz (UP (UM 6) (UP (Zu 3) (UN))))))
 (WG)
 (sNx)))))))
noncomputable def X4:w9->ya:=Kb N_as Sj
noncomputable abbrev Sax:Stmt:=top 38
noncomputable abbrev N_ax:List Str:=["wishes", "aim", "most"]
theorem Hax:NmF Sax N_ax:=KL (by decide +kernel)
noncomputable def Se:SM:=
 UU (Xy (UY 2 X4 (UP (UM 0) (UP (UM 1) (UN)))))
 (UU (Kc 2 (UY 1 X5 (UP (UM 0) (UN))))
 (U5 (U7 Uz (Zo (KW (UY 1 VG (UP (UM 0) (UN)))) 2 (gT 2 (gNC (gN 3) (gNC (gN 4) (gN0)))) (UT w5) (Kz (UP (UM 3) (UP (UM 4) (UP (UY 5 Ww (UP (UM 0) (UP (UM 1) (UP (UM 2) (UP (UM 3) (UP (UM 4) (UN))))))) (UN)))))))))
noncomputable def Y4:w9->ya:=Kb N_ax Se
noncomputable abbrev Sby:Stmt:=top 71
noncomputable abbrev N_by:List Str:=["wishes", "aim", "worths", "dealing"]
theorem Hby:NmF Sby N_by:=KL (by decide +kernel)
noncomputable def TH:SM:=
 UU (Kc 2 (UY 2 Y4 (UP (UM 0) (UP (UM 1) (UN)))))
 (UU (Kc 3 (UY 2 X1 (UP (UM 0) (UP (UM 2) (UN)))))
 (U5 (Kz (UP (UM 3) (UP (UY 3 Vs (UP (UM 0) (UP (UM 2) (UP (UM 3) (UN))))) (UN))))))
noncomputable def XX:w9->ya:=Kb N_by TH
noncomputable abbrev Sal:Stmt:=top 22
noncomputable abbrev N_al:List Str:=["wishes", "dealing"]
theorem Hal:NmF Sal N_al:=KL (by decide +kernel)
noncomputable def So:SM:=
 UU (Xy (UY 1 Yb (UP (UM 0) (UN))))
 (U5 (U7 Uz (Zo (Y5 (UP (UM 1) (UN))) 2 (gT 2 (gNC (gN 2) (gNC (gN 3) (gN0)))) (UT w5) (UY 2 YS (UP (UR oIx (U1 0 (UT (.int 1))) (UM 2)) (UP (UM 3) (UN)))))))
noncomputable def VF:w9->ya:=Kb N_al So
noncomputable abbrev Sam:Stmt:=top 23
noncomputable abbrev N_am:List Str:=["wishes", "dealing", "got"]
theorem Ham:NmF Sam N_am:=KL (by decide +kernel)
noncomputable def Sn:SM:=
 UU (Kc 2 (UY 2 VF (UP (UM 0) (UP (UM 1) (UN)))))
 (U5 (UR U8 (U7 Uz (Zo (RF (UP (UT (.int 1)) (UP (UR U8 (UY 1 X5 (UP (UM 0) (UN))) (UT (.int 1))) (UN)))) 1 (gN 3) (UT w5) (VW (UM 2) (UP (UM 3) (UN))))) (Ks (UP (VW (UM 2) (UP (UT (.int 0)) (UN))) (UN)))))
noncomputable def Wx:w9->ya:=Kb N_am Sn
noncomputable abbrev Sab:Stmt:=top 2
noncomputable abbrev N_ab:List Str:=["numbers"]
theorem Hab:NmF Sab N_ab:=KL (by decide +kernel)
noncomputable def Sw:SM:=
 U5 (U7 Uz (Zo (Y5 (UP (UM 0) (UN))) 2 (gT 2 (gNC (gN 1) (gNC (gN 2) (gN0)))) (Zi (oIB λi j=>decide (j<i)) 2 (UT (.int 0))) (UM 1)))
noncomputable def X6:w9->ya:=Kb N_ab Sw
noncomputable abbrev Sbx:Stmt:=top 69
noncomputable abbrev N_bx:List Str:=["web", "paper", "dealings", "times", "asks", "prices"]
theorem Hbx:NmF Sbx N_bx:=KL (by decide +kernel)
noncomputable def TJ:SM:=
 UU (Zr (UM 0) (gT 2 (gNC (gN 1) (gNC (gN 2) (gN0)))))
 (UU (Zr (UM 1) (gT 3 (gNC (gN 3) (gNC (gN 4) (gNC (gN 5) (gN0))))))
 (U5 (UY 1 X6 (UP (UM 5) (UN)))))
noncomputable def Vi:w9->ya:=Kb N_bx TJ
noncomputable abbrev Sbw:Stmt:=top 68
noncomputable abbrev N_bw:List Str:=["web", "paper", "dealings", "times", "asks", "prices"]
theorem Hbw:NmF Sbw N_bw:=KL (by decide +kernel)
noncomputable def TK:SM:=
 UU (Zr (UM 0) (gT 2 (gNC (gN 1) (gNC (gN 2) (gN0)))))
 (UU (Zr (UM 1) (gT 3 (gNC (gN 3) (gNC (gN 4) (gNC (gN 5) (gN0))))))
 (U5 (UY 1 X6 (UP (UM 4) (UN)))))
noncomputable def Vj:w9->ya:=Kb N_bw TK
noncomputable abbrev Sbs:Stmt:=top 63
noncomputable abbrev N_bs:List Str:=["wishes", "aim", "paper", "times", "asks", "prices", "worths"]
theorem Hbs:NmF Sbs N_bs:=KL (by decide +kernel)
noncomputable def TQ:SM:=
 UU (Zr (UM 2) (gT 3 (gNC (gN 3) (gNC (gN 4) (gNC (gN 5) (gN0))))))
 (UU (Kc 6 (UY 2 Y4 (UP (UM 0) (UP (UM 1) (UN)))))
 (U5 (U7 Uz (Zo (KW (UM 6)) 3 (gT 3 (gNC (gN 7) (gNC (gN 8) (gNC (gN 9) (gN0))))) (UR oEq (UR U8 (U1 4 (UM 7)) (U1 5 (UM 8))) (UR KF (UM 3) (UM 9))) (Kz (UP (UM 7) (UP (UM 8) (UN))))))))
noncomputable def Vm:w9->ya:=Kb N_bs TQ
noncomputable abbrev Sbu:Stmt:=top 66
noncomputable abbrev N_bu:List Str:=["wishes", "aim", "web"]
theorem Hbu:NmF Sbu N_bu:=KL (by decide +kernel)
noncomputable def TM:SM:=
 UU (Xy (UY 2 X4 (UP (UM 0) (UP (UM 1) (UN)))))
 (U5 (UY 3 Vm (UP (UM 0) (UP (UM 1) (UP (U1 2 (UT (.int 0))) (UN))))))
noncomputable def XY:w9->ya:=Kb N_bu TM
noncomputable abbrev Sbv:Stmt:=top 67
noncomputable abbrev N_bv:List Str:=["wishes", "aim", "web", "told"]
theorem Hbv:NmF Sbv N_bv:=KL (by decide +kernel)
noncomputable def TL:SM:=
 UU (Kc 3 (UY 3 XY (UP (UM 0) (UP (UM 1) (UP (UM 2) (UN))))))
 (U5 (U7 Uz (Zo (KW (UM 3)) 2 (gT 2 (gNC (gN 4) (gNC (gN 5) (gN0)))) (Yu (ZB YB (UP (U7 Uz (Zo (KW (U1 2 (UT (.int 1)))) 1 (gN 6) (UT w5) (U7 UA (UR oEq (U1 6 (UM 4)) (UM 5))))) (UN)))) (Kz (UP (UM 4) (UP (UM 5) (UN)))))))
noncomputable def Vk:w9->ya:=Kb N_bv TL
noncomputable abbrev Sbr:Stmt:=top 61
noncomputable abbrev N_br:List Str:=["dealing", "steps", "roads", "nothing", "told", "step", "ahead", "behind", "gain", "asker", "is_left", "shown"]
theorem Hbr:NmF Sbr N_br:=KL (by decide +kernel)
noncomputable def L8:SM:=
 UU (Zr (UM 5) (gT 4 (gNC (gN 6) (gNC (gN 7) (gNC (gN 8) (gNC (gN 9) (gN0)))))))
 (UU (Kc 10 (SJ (U7 (λd=>.bool (isNon d)) (UM 9)) (U7 UA (Zi oEq 7 (UM 3)))))
 (sIf (ZW (Zi ZN 6 (U1 2 (UM 7))) (K4 (Yu (UM 10))))
 (UU (Kc 11 (UY 2 X3 (UP (UM 0) (UP (UY 2 Xk (UP (UM 3) (UP (UR U8 (Ks (UP (UM 5) (UN))) (UR VR (U1 2 (UM 7)) (UM 6))) (UN)))) (UN)))))
 (sIf (SR Zw (UM 11) 4)
 (ZV 4 (UM 11))
 (sNx)))
 (sNx)))
noncomputable def TR:SM:=
 UU (Kc 3 (UR K9 (Zu 2) (UT (.int 1))))
 (UU (Zq 4 (Ke (UP (U7 Uz (VX 0)) (UN)) λxs=>if xs.length<=1000000 then UT xs else λ_=>.bad))
 (UU (KI (KW (UM 1)) (gN 5) L8)
 (U5 (UM 4))))
noncomputable def Wt:w9->ya:=Kb N_br TR
noncomputable abbrev Sbp:Stmt:=top 59
noncomputable abbrev N_bp:List Str:=["prices", "roads", "times", "led_from"]
theorem Hbp:NmF Sbp N_bp:=KL (by decide +kernel)
noncomputable def TV:SM:=
 UU (Kc 2 (Zu 1))
 (UU (Zq 3 (Zo (Xx (UP (UM 2) (UN))) 1 (gN 4) (UT w5) (ZB Kk (UP (U7 Uz (Zo (KW (UM 1)) 1 (gN 5) (Zi ZN 4 (UM 5)) (UM 5))) (UN)))))
 (U5 (U7 Uz (RO (Y5 (UP (UM 0) (UN))) 2 (gT 2 (gNC (gN 4) (gNC (gN 5) (gN0)))) (UT w5) (UR K9 (UR U8 (UR KF (UM 2) (UM 5)) (U1 3 (UM 4))) (U1 3 (YC (UT (.int 1)))))))))
noncomputable def Vo:w9->ya:=Kb N_bp TV
noncomputable abbrev Sbq:Stmt:=top 60
noncomputable abbrev N_bq:List Str:=["askers", "worths", "prices", "roads", "times", "finer", "asks"]
theorem Hbq:NmF Sbq N_bq:=KL (by decide +kernel)
noncomputable def TU:SM:=
 UU (Kc 4 (Zu 3))
 (UU (Kc 5 (UY 2 Vo (UP (UM 2) (UP (UM 3) (UN)))))
 (UU (Kc 6 (UY 3 XZ (UP (UM 0) (UP (U7 Uz (Zo (KW (UM 1)) 3 (gT 3 (gNC (gN 7) (gNC (gN 8) (gNC (gN 9) (gN0))))) (UT w5) (Kz (UP (UM 7) (UP (UM 8) (UP (UR KF (UM 4) (UM 9)) (UN))))))) (UP (UM 5) (UN))))))
 (U5 (Kz (UP (UM 4) (UP (UM 6) (UP (UM 5) (UN))))))))
noncomputable def Vn:w9->ya:=Kb N_bq TU
noncomputable abbrev Sbn:Stmt:=top 57
noncomputable abbrev N_bn:List Str:=["place", "places", "steps", "told", "turn", "step"]
theorem Hbn:NmF Sbn N_bn:=KL (by decide +kernel)
noncomputable def L7:SM:=
 sIf (ZW (Y3 w5 3 (U1 5 (UT (.int 0)))) (Y3 w6 3 (U1 5 (UT (.int 1)))))
 (Po 3 (U1 5 (UT (.int 1))) (UR U8 (Wr 3 (U1 5 (UT (.int 0)))) (Ks (UP (UM 5) (UN)))))
 (sNx)
noncomputable def L6:SM:=
 KI (KW (UM 2)) (gN 5) L7
noncomputable def TW:SM:=
 UU (SN 3 .dic (OL [(UM 0,Ks (UN))]))
 (UU (KI (Xx (UP (UM 1) (UN))) (gN 4) L6)
 (U5 (Rw 3)))
noncomputable def Vq:w9->ya:=Kb N_bn TW
noncomputable abbrev Sbo:Stmt:=top 58
noncomputable abbrev N_bo:List Str:=["places", "steps"]
theorem Hbo:NmF Sbo N_bo:=KL (by decide +kernel)
noncomputable def g_bo:SM:=
 U5 (U7 Uz (Zo (Xx (UP (UM 0) (UN))) 1 (gN 2) (UT w5) (UY 3 Vq (UP (UM 2) (UP (UM 0) (UP (UM 1) (UN)))))))
noncomputable def Vp:w9->ya:=Kb N_bo g_bo
noncomputable abbrev Sbm:Stmt:=top 56
noncomputable abbrev N_bm:List Str:=["steps", "prices", "paid"]
theorem Hbm:NmF Sbm N_bm:=KL (by decide +kernel)
noncomputable def TX:SM:=
 UU (Kc 2 (UR U8 (UM 1) (Ks (UP (UT (.int 0)) (UN)))))
 (U5 (U7 Uz (Zo (KW (UM 0)) 1 (gN 3) (UR oEq (UR U8 (U1 2 (U1 3 (UT (.int 0)))) (U1 3 (UT (.int 2)))) (U1 2 (U1 3 (UT (.int 1))))) (UM 3))))
noncomputable def Vr:w9->ya:=Kb N_bm TX
noncomputable abbrev Sbt:Stmt:=top 65
noncomputable abbrev N_bt:List Str:=["wishes", "aim", "worths", "dealing", "prices", "steps", "roads"]
theorem Hbt:NmF Sbt N_bt:=KL (by decide +kernel)
noncomputable def TN:SM:=
 UU (Kc 2 (UY 2 Y4 (UP (UM 0) (UP (UM 1) (UN)))))
 (UU (Kc 3 (UY 2 X1 (UP (UM 0) (UP (UM 2) (UN)))))
 (UU (Kc 4 (UY 3 X0 (UP (UM 0) (UP (UM 2) (UP (UM 3) (UN))))))
 (UU (Kc 5 (UY 2 Vr (UP (UY 3 YD (UP (UM 0) (UP (UM 2) (UP (UM 3) (UN))))) (UP (UM 4) (UN)))))
 (UU (Kc 6 (UY 2 Vp (UP (UR U8 (Zu 4) (UT (.int 1))) (UP (UM 5) (UN)))))
 (U5 (Kz (UP (UY 4 Vn (UP (Zu 3) (UP (UM 2) (UP (UM 4) (UP (UM 6) (UN)))))) (UP (UY 3 Wt (UP (UM 3) (UP (UM 5) (UP (UM 6) (UN))))) (UN)))))))))
noncomputable def Vl:w9->ya:=Kb N_bt TN
noncomputable abbrev Scf:Stmt:=top 79
noncomputable abbrev N_cf:List Str:=["_law_wishes_here", "_law_aim_here", "_law_web"]
theorem Hcf:NmF Scf N_cf:=KL (by decide +kernel)
noncomputable def TC:SM:=
 UU (Kc 2 (UY 2 Vl (UP (UM 0) (UP (UM 1) (UN)))))
 (U5 (Ks (UP (UY 3 XY (UP (UM 0) (UP (UM 1) (UP (UM 2) (UN))))) (UP (UY 3 Vk (UP (UM 0) (UP (UM 1) (UP (UM 2) (UN))))) (UP (UY 1 Vj (UP (UM 2) (UN))) (UP (UY 1 Vi (UP (UM 2) (UN))) (UN)))))))
noncomputable def XV:w9->ya:=Kb N_cf TC
noncomputable abbrev Sca:Stmt:=top 74
noncomputable abbrev N_ca:List Str:=["_law_cell", "_law_salt", "_law_sizes", "_law_number", "_law_left", "_law_found", "_law_k", "_law_one"]
theorem Hca:NmF Sca N_ca:=KL (by decide +kernel)
noncomputable def NF:SM:=
 sIf (ZW (Zi (oIB λi j=>decide (j<=i)) 3 (UR W5 (UT (.int 10)) (UT (.int 18)))) (Zi (oIB λi j=>decide (j<i)) 4 (UT (.int 0))))
 (UU (ZV 5 (UR YA (UM 4) (U1 2 (UM 6))))
 (Kc 4 (UR Wq (UM 4) (U1 2 (UM 6)))))
 (UU (Kc 7 (UR YA (UR U8 (UR U8 (UR U8 (UM 3) (UR KF (UT (.int 7919)) (UM 1))) (UR KF (UR KF (UT (.int 101)) (UM 6)) (UM 6))) (UM 6)) (UT (.int 2147483647))))
 (UU (Kc 7 (UR YA (UR KF (UM 7) (UT (.int 48271))) (UT (.int 2147483647))))
 (UU (Kc 7 (UR YA (UR KF (UR YA (UR KF (UM 7) (UM 7)) (UT (.int 2147483629))) (UT (.int 48271))) (UT (.int 2147483647))))
 (ZV 5 (UR YA (UR Wq (UM 7) (UT (.int 16))) (U1 2 (UM 6)))))))
noncomputable def g_ca:SM:=
 UU (Kc 3 (ZB RB (UP (UM 0) (UP (UR K9 (YC (UT (.int 1))) (UM 0)) (UN)))))
 (UU (Kc 4 (UM 3))
 (UU (Zq 5 (Ke (UN) λxs=>if xs.length<=1000000 then UT xs else λ_=>.bad))
 (UU (KI (Xx (UP (Zu 2) (UN))) (gN 6) NF)
 (U5 (UM 5)))))
noncomputable def YR:w9->ya:=Kb N_ca g_ca
noncomputable abbrev Scd:Stmt:=top 77
noncomputable abbrev N_cd:List Str:=["_law_wishes_here", "_law_asker"]
theorem Hcd:NmF Scd N_cd:=KL (by decide +kernel)
noncomputable def g_cd:SM:=
 U5 (ZB Td (UP (ZB SG (UP (UR oIx (U1 0 (UT (.int 1))) (UM 1)) (UP (Ks (UN)) (UN)))) (UN)))
noncomputable def Vf:w9->ya:=Kb N_cd g_cd
noncomputable abbrev Scc:Stmt:=top 76
noncomputable abbrev N_cc:List Str:=["_law_wishes_here", "_law_asker", "_law_thing", "_law_k", "_law_row"]
theorem Hcc:NmF Scc N_cc:=KL (by decide +kernel)
noncomputable def B7:SM:=
 sIf (Zi oIn 2 (UM 4))
 (U5 (UR U8 (UM 3) (UT (.int 1))))
 (sNx)
noncomputable def g_cc:SM:=
 UU (KI (Y5 (UP (UR oIx (U1 0 (UT (.int 1))) (UM 1)) (UN))) (gT 2 (gNC (gN 3) (gNC (gN 4) (gN0)))) B7)
 (U5 (UT (.int 0)))
noncomputable def Vg:w9->ya:=Kb N_cc g_cc
noncomputable abbrev Sch:Stmt:=top 81
noncomputable abbrev N_ch:List Str:=["_law_wishes_here", "_law_some", "_law_digit", "_law_idle", "_law_asker", "_law_what", "_law_rank_here", "_law_lists"]
theorem Hch:NmF Sch N_ch:=KL (by decide +kernel)
noncomputable def L5:SM:=
 UU (Kc 6 (UR oIx (UR oIx (U1 0 (UT (.int 1))) (UM 4)) (UR K9 (UY 3 Vg (UP (UM 0) (UP (UM 4) (UP (UM 5) (UN))))) (UT (.int 1)))))
 (sIf (ZW (UR Zw (Kz (UP (UM 4) (UP (UM 5) (UN)))) (UM 1)) (UR (oIB λi j=>decide (j<i)) (Zu 6) (UT (.int 1))))
 (ZV 3 (Kz (UP (UM 4) (UP (UM 5) (UN)))))
 (sNx))
noncomputable def L4:SM:=
 KI (KW (UY 2 Vf (UP (UM 0) (UP (UM 4) (UN))))) (gN 5) L5
noncomputable def Tz:SM:=
 UU (Zq 3 (Ke (UN) λxs=>if xs.length<=1000000 then UT xs else λ_=>.bad))
 (UU (KI (Xx (UP (ZB Kk (UP (U1 0 (UT (.int 1))) (UN))) (UN))) (gN 4) L4)
 (UU (sIf (Zi oEq 3 (Ks (UN)))
 (U5 (UT .none))
 (sNx))
 (UU (Zr (U1 3 (UR YA (UM 2) (Zu 3))) (gT 2 (gNC (gN 4) (gNC (gN 5) (gN0)))))
 (UU (Zq 7 (Zo (KW (U1 0 (UT (.int 1)))) 1 (gN 8) (UT w5) (U7 Uz (Zo (KW (UM 8)) 1 (gN 9) (UT w5) (U7 Uz (VX 9))))))
 (UU (VN 7 (UM 4) (U7 Uz (Zo (KW (U1 7 (UM 4))) 1 (gN 8) (UT w5) (U7 Uz (Zo (KW (UM 8)) 1 (gN 9) (Zi oNe 9 (UM 5)) (UM 9))))))
 (U5 (Kz (UP (U1 0 (UT (.int 0))) (UP (UM 7) (UN))))))))))
noncomputable def Vc:w9->ya:=Kb N_ch Tz
noncomputable abbrev Scg:Stmt:=top 80
noncomputable abbrev N_cg:List Str:=["_law_wide", "_law_narrow", "_law_k"]
theorem Hcg:NmF Scg N_cg:=KL (by decide +kernel)
noncomputable def L1:SM:=
 sIf (UR oNe (U7 Uz (Zo (KW (U1 0 (UM 2))) 1 (gN 3) (Zi Zw 3 (U1 1 (UM 2))) (UM 3))) (Ks (UN)))
 (U5 (UT (.bool w6)))
 (sNx)
noncomputable def TB:SM:=
 UU (sIf (UR oNe (U7 Uz (Zo (KW (U1 1 (UT (.int 0)))) 1 (gN 3) (Zi Zw 3 (U1 0 (UT (.int 0)))) (UM 3))) (Ks (UN)))
 (U5 (UT (.bool w6)))
 (sNx))
 (UU (KI (RF (UP (UT (.int 1)) (UP (UT (.int 4)) (UN)))) (gN 2) L1)
 (U5 (UT (.bool w5))))
noncomputable def Vd:w9->ya:=Kb N_cg TB
noncomputable abbrev Sce:Stmt:=top 78
noncomputable abbrev N_ce:List Str:=["_law_wishes_here", "_law_cell", "_law_salt", "_law_askers", "_law_digits", "_law_old", "_law_turns", "_law_digit"]
theorem Hce:NmF Sce N_ce:=KL (by decide +kernel)
noncomputable def NE:SM:=
 Kc 7 (UR YA (UR U8 (UM 7) (UT (.int 1))) (UM 3))
noncomputable def L0:SM:=
 UU (Xz (SR oIn (UM 7) 6) NE 1000)
 (ZV 6 (UM 7))
noncomputable def TD:SM:=
 UU (Kc 3 (ZB Kk (UP (U1 0 (UT (.int 1))) (UN))))
 (UU (Kc 4 (UY 3 YR (UP (UM 1) (UP (UM 2) (UP (UR U8 (UR U8 (Ks (UP (UT (.int 3)) (UP (UT (.int 2)) (UP (UR U8 (UM 3) (UT (.int 1))) (UN))))) (UR KF (Ks (UP (UR U8 (ZB Kk (UP (U1 0 (UT (.int 0))) (UN))) (UT (.int 1))) (UN))) (UM 3))) (UR KF (Ks (UP (UM 3) (UN))) (UM 3))) (UN))))))
 (UU (Kc 5 (UT .none))
 (UU (sIf (UR oEq (U1 4 (UT (.int 1))) (UT (.int 1)))
 (Zq 5 (Zo (KW (ZX (UM 4) (Ke (UT (.int 3)) λx=>Kf (YF x)) (Ke (UR U8 (UT (.int 3)) (UM 3)) λx=>Kf (YF x)))) 1 (gN 8) (UT w5) (UR oIx (Ks (UP (UT .none) (UP (UR K9 (UM 8) (UT (.int 1))) (UN)))) (ZB Ry (UP (U7 UA (Zi (oIB λi j=>decide (j<i)) 8 (UT (.int 0)))) (UN))))))
 (sNx))
 (UU (Zq 6 (Ke (UN) λxs=>if xs.length<=1000000 then UT xs else λ_=>.bad))
 (UU (KI (KW (ZX (UM 4) (Ke (UR U8 (UT (.int 3)) (UM 3)) λx=>Kf (YF x)) (Ke (UR U8 (UR U8 (UT (.int 3)) (UM 3)) (U1 4 (UT (.int 2)))) λx=>Kf (YF x)))) (gN 7) L0)
 (U5 (Kz (UP (UR oIx (Ks (UP (UT (.str "firsts")) (UP (UT (.str "full")) (UP (UT (.str "lasts")) (UN))))) (U1 4 (UT (.int 0)))) (UP (UM 5) (UP (UM 6) (UN)))))))))))
noncomputable def Ve:w9->ya:=Kb N_ce TD
noncomputable abbrev Scb:Stmt:=top 75
noncomputable abbrev N_cb:List Str:=["_law_script", "_law_at", "_law_most_things", "_law_most_askers", "_law_most_ranks", "_law_digits", "_law_copies", "_law_lists", "_law_asker", "_law_cell", "_law_places", "_law_ranks", "_law_rank_here", "_law_row"]
theorem Hcb:NmF Scb N_cb:=KL (by decide +kernel)
noncomputable def NC:SM:=
 UU (Zq 13 (Zo (Xx (UP (Zu 6) (UN))) 1 (gN 14) (UR oEq (U1 10 (UM 14)) (UM 12)) (UM 14)))
 (sIf (Zi oNe 13 (Ks (UN)))
 (ZV 11 (UR oIx (Ks (UP (UM 13) (UP (SA (UM 13) (UT w4) (UT w4) (Ke (YC (UT (.int 1))) λx=>Kf (YF x))) (UN)))) (U1 10 (YC (UT (.int 1))))))
 (sNx))
noncomputable def NB:SM:=
 UU (Kc 9 (UY 2 Xj (UP (UM 0) (UP (UR U8 (UR U8 (UM 1) (UT (.int 1))) (UM 8)) (UN)))))
 (UU (Kc 10 (UY 3 YR (UP (UM 9) (UP (UR U8 (UR U8 (UR KF (UT (.int 11)) (UM 1)) (UR KF (UT (.int 3)) (UM 8))) (UT (.int 1))) (UP (UR U8 (UR KF (Ks (UP (UR U8 (UM 4) (UT (.int 1))) (UN))) (UM 2)) (Ks (UP (UT (.int 2)) (UN)))) (UN))))))
 (UU (Zq 11 (Ke (UN) λxs=>if xs.length<=1000000 then UT xs else λ_=>.bad))
 (UU (KI (RF (UP (UT (.int 1)) (UP (UR U8 (UM 4) (UT (.int 1))) (UN)))) (gN 12) NC)
 (ZV 7 (UM 11)))))
noncomputable def TF:SM:=
 UU (Kc 5 (UY 3 YR (UP (UY 2 Xj (UP (UM 0) (UP (UM 1) (UN)))) (UP (UM 1) (UP (UR U8 (Ks (UP (UM 2) (UP (UM 3) (UN)))) (UR KF (Ks (UP (UT (.int 11)) (UN))) (UM 2))) (UN))))))
 (UU (Zq 6 (Zo (KW (ZX (UM 5) (Ke (UT (.int 2)) λx=>Kf (YF x)) (Ke (UR U8 (UT (.int 3)) (U1 5 (UT (.int 0)))) λx=>Kf (YF x)))) 1 (gN 14) (UT w5) (UR oIx (Ks (UP (UT (.int 1)) (UP (UT (.int 1)) (UP (UT (.int 2)) (UP (UT (.int 0)) (UP (UT (.int 3)) (UP (UT (.int 7)) (UP (UT (.int 1)) (UP (UT (.int 4)) (UP (UT (.int 5)) (UP (UT (.int 6)) (UP (UT (.int 1)) (UN))))))))))))) (UM 14))))
 (UU (Zq 7 (Ke (UN) λxs=>if xs.length<=1000000 then UT xs else λ_=>.bad))
 (UU (KI (Xx (UP (UR U8 (UT (.int 1)) (U1 5 (UT (.int 1)))) (UN))) (gN 8) NB)
 (U5 (Kz (UP (UM 6) (UP (UM 7) (UN))))))))
noncomputable def Vh:w9->ya:=Kb N_cb TF
noncomputable abbrev Sci:Stmt:=top 82
noncomputable abbrev N_ci:List Str:=["_law_script", "_law_wishes_here", "_law_k", "_law_cell", "_law_aim_here", "_law_plain", "_law_wide", "_law_other", "_law_one"]
theorem Hci:NmF Sci N_ci:=KL (by decide +kernel)
noncomputable def LZ:SM:=
 UU (Kc 4 (UY 3 Ve (UP (UM 1) (UP (UM 3) (UP (UR U8 (UT (.int 20)) (UM 2)) (UN))))))
 (UU (Kc 5 (Kz (UP (U1 4 (UT (.int 0))) (UP (UT .none) (UP (Ks (UN)) (UN))))))
 (UU (Kc 6 (UY 2 XV (UP (UM 1) (UP (UM 5) (UN)))))
 (UU (sIf (K4 (Yu (UY 2 Vd (UP (UM 6) (UP (UY 2 XV (UP (UM 1) (UP (UM 4) (UN)))) (UN))))))
 (U5 (UT (.bool w6)))
 (sNx))
 (UU (Kc 7 (UY 3 Vc (UP (UM 1) (UP (U1 6 (UT (.int 0))) (UP (UR oIx (UY 3 YR (UP (UM 3) (UP (UR U8 (UT (.int 60)) (UM 2)) (UP (Ks (UP (UT (.int 61)) (UN))) (UN))))) (UT (.int 0))) (UN))))))
 (sIf (U7 (λd=>!isNon d) (UM 7))
 (UU (sIf (UR oNe (ZX (UY 2 XV (UP (UM 7) (UP (UM 5) (UN)))) (UT w4) (Ke (UT (.int 2)) λx=>Kf (YF x))) (ZX (UM 6) (UT w4) (Ke (UT (.int 2)) λx=>Kf (YF x))))
 (U5 (UT (.bool w6)))
 (sNx))
 (UU (Kc 8 (UR oIx (UY 2 XX (UP (UM 1) (UP (UM 5) (UN)))) (UT (.int 0))))
 (sIf (UR oNe (UY 2 Wx (UP (UM 7) (UP (UR oIx (UY 2 XX (UP (UM 7) (UP (UM 5) (UN)))) (UT (.int 0))) (UN)))) (UY 2 Wx (UP (UM 1) (UP (UM 8) (UN)))))
 (U5 (UT (.bool w6)))
 (sNx))))
 (sNx))))))
noncomputable def Tx:SM:=
 UU (Kc 1 (UY 5 Vh (UP (UM 0) (UP (UT (.int 0)) (UP (UT (.int 4)) (UP (UT (.int 5)) (UP (UT (.int 4)) (UN))))))))
 (UU (KI (Y5 (UP (UR U8 (Ks (UP (UY 2 Xj (UP (UM 0) (UP (UT (.int 8)) (UN)))) (UN))) (ZX (UM 0) (Ke (UT (.int 9)) λx=>Kf (YF x)) (Ke (UT (.int 10)) λx=>Kf (YF x)))) (UN))) (gT 2 (gNC (gN 2) (gNC (gN 3) (gN0)))) LZ)
 (U5 (UT (.bool w5))))
noncomputable def Vb:w9->ya:=Kb N_ci Tx
set_option hygiene false in
local macro_rules | `(tactic| walk_at "g")=>`(tactic| first | exact gA nm rfl | exact D4 rfl)
set_option hygiene false in
local macro_rules | `(tactic| walk_at "v")=>`(tactic| first | exact pq nm _ | exact pvb _)
set_option hygiene false in
local macro_rules | `(tactic| walk_at "b")=>`(tactic| first | ((with_reducible show OpB _ (compareOp CmpOp.Eq) _);first | exact B_eq hu) | ((with_reducible show OpB _ (compareOp CmpOp.NotEq) _);first | exact B_ne hu) | ((with_reducible show OpB _ (compareOp CmpOp.Lt) _);first | exact B_lt) | ((with_reducible show OpB _ (compareOp CmpOp.LtE) _);first | exact B_le) | ((with_reducible show OpB _ (compareOp CmpOp.Gt) _);first | exact B_gt) | ((with_reducible show OpB _ (compareOp CmpOp.GtE) _);first | exact B_ge) | ((with_reducible show OpB _ (compareOp CmpOp.In) _);first | exact B_in hu | exact DA hu) | ((with_reducible show OpB _ (compareOp CmpOp.NotIn) _);first | exact DN hu))
set_option hygiene false in
local macro_rules | `(tactic| walk_at "m")=>`(tactic| first | exact O7 _ | exact rfl)
set_option hygiene false in
local macro_rules | `(tactic| walk_at "k")=>`(tactic| first | exact GP | exact kM | exact kL | exact kJ)
set_option hygiene false in
local macro_rules | `(tactic| walk_at "w")=>`(tactic| first | exact PassesOwn.never)
set_option hygiene false in
local macro_rules | `(tactic| walk_at "x")=>`(tactic| first | assumption | exact wants_cx)
set_option hygiene false in
local macro_rules | `(tactic| walk_at "c")=>`(tactic| first | exact T.c_MOST_ASKERS | exact T.c_MOST_COPIES | exact T.c_MOST_RANKS | exact T.c_MOST_THINGS | exact T.c_ORDERS)
set_option hygiene false in
local macro_rules | `(tactic| walk_at "ck")=>`(tactic| fail)
section
variable{P:Up}{w:World}{K:Frag}{mg:Str->yf}{base:Heap}{f:Uq}{fd:Ur}(T:Txt K mg)
include T
theorem Kba(zy:Def P w K mg base "place_of" 1 2 Wv)(F:Fun K "steps_of_askers" "steps_of_askers" Sba f fd):FnOk P w K mg base CX0 2 f fd ["nothing", "worths", "dealing"] (spD K 3 Vw):=
 okD (k:=1) (g:=Sc) F (fq Hba 3) wZ λcdv A outer s H E B G0 hr=>
 have hu:=hr.units;have hgd:=hr.gd
 (Rh (Gc (i:=3) (nq Hba) wZ (lq Hba 3) (HD (Nv (Xu Lz Rj)) (GR (gq Hba 2) T.b_len (pq Hba 2))))
 (Rh (O8 UG wZ (O0 (Yj (pq Hba 1))) (PJ wZ (WS (WI (WJ (i:=4) (nq Hba) wZ (lq Hba 4))) (WS (WI (WJ (i:=5) (nq Hba) wZ (lq Hba 5))) (WS (WI (WJ (i:=6) (nq Hba) wZ (lq Hba 6))) PK))))
 (SX (OH (Nw (B_eq hu) (Ri (pq Hba 2) (Yj (pq Hba 4)) (λ_ _=>rfl)) (Yj (pq Hba 5)) (O7 _))
 (SX (Hz (Yj (pq Hba 6)) (pq Hba 3) (Yj (pq Hba 4))))
 O5)))
 (Rh (DB (j:=7) (Yh Sba) SD ["nothing", "worths", "dealing", "had", ".asker", "thing", "worth", "told", "asker", "got"] 2 GP (nq Hba) wZ wZ wZ (λB' G'=>(HZ (gq Hba 1) T.b_enumerate (Xu (Yj (pq Hba 2)) Rj))) (λcl C s0 H0 ex=>⟨λB' G'=>(PJ wZ (WS (WI (WJ (i:=8) (show(["nothing", "worths", "dealing", "had", ".asker", "thing", "worth", "told", "asker", "got"]:List Str).Nodup by decide +kernel) wZ (Rg wZ).1 (Rg wZ).2)) (WS (WI (WJ (i:=9) (show(["nothing", "worths", "dealing", "had", ".asker", "thing", "worth", "told", "asker", "got"]:List Str).Nodup by decide +kernel) wZ (Rg wZ).1 (Rg wZ).2)) PK))),λB' G'=>(HA (GS (Yj (pvb 9)))),(FC wZ wZ wZ λB' G'=>(P0 (Xu (Yj (pvb 9)) (Xu (Yj (pvb 0)) (Xu (HB (Ri (pvb 3) (Yj (pvb 8)) (λ_ _=>rfl))) (Xu (Yj (pvb 8)) Rj))))))⟩) wZ wZ (by decide +kernel))
 (Rh (O8 UG wZ (O0 (Yj (pq Hba 1))) (PJ wZ (WS (WI (WJ (i:=4) (nq Hba) wZ (lq Hba 4))) (WS (WI (WJ (i:=5) (nq Hba) wZ (lq Hba 5))) (WS (WI (WJ (i:=6) (nq Hba) wZ (lq Hba 6))) PK))))
 (SX (OH (Nw (B_ne hu) (Ri (pq Hba 2) (Yj (pq Hba 4)) (λ_ _=>rfl)) (Yj (pq Hba 5)) (O7 _))
 (SX (Lv (pq Hba 7) (P0 (Xu (pdf zy hr (gq Hba 0) (Xu (Yj (pq Hba 0)) (Xu (Ri (pq Hba 2) (Yj (pq Hba 4)) (λ_ _=>rfl)) Rj))) (Xu (Yj (pq Hba 5)) (Xu (VP M8 (Yj (pq Hba 6)) (Ri (pq Hba 3) (Yj (pq Hba 4)) (λ_ _=>rfl))) (Xu (Yj (pq Hba 4)) Rj)))))))
 O5)))
 (SX (Lw (Yj (pq Hba 7))))))))
end
theorem oks:((∀{P w K mg base f fd}(T:Txt K mg)(_:Fun K "_law_cell_at" "_law_cell_at" Sbz f fd),FnOk P w K mg base CX0 1 f fd ["_law_script", "_law_k"] (spD K 2 Xj)) /\
 (∀{P w K mg base f fd}(T:Txt K mg)(_:Fun K "asks_beyond" "asks_beyond" Sbk f fd),FnOk P w K mg base CX0 1 f fd ["askers", "worths", "prices"] (spD K 3 XZ)) /\
 (∀{P w K mg base f fd}(T:Txt K mg)(_:Fun K "place_of" "place_of" Saz f fd),FnOk P w K mg base CX0 1 f fd ["nothing", "got"] (spD K 2 Wv)) /\
 (∀{P w K mg base f fd}(T:Txt K mg)(_:Fun K "is_whole" "is_whole" Saa f fd),FnOk P w K mg base CX0 1 f fd ["thing"] (spD K 1 VL)) /\
 (∀{P w K mg base f fd}(T:Txt K mg)(_:Def P w K mg base "is_whole" 1 1 VL)(_:Fun K "is_number_below" "is_number_below" Sac f fd),FnOk P w K mg base CX0 2 f fd ["thing", "many"] (spD K 2 ZY)) /\
 (∀{P w K mg base f fd}(T:Txt K mg)(_:Def P w K mg base "is_number_below" 2 2 ZY)(_:Fun K "is_rank" "is_rank" Sae f fd),FnOk P w K mg base CX0 3 f fd ["thing", "things"] (spD K 2 Wy)) /\
 (∀{P w K mg base f fd}(T:Txt K mg)(_:Def P w K mg base "is_rank" 3 2 Wy)(_:Fun K "is_asker_list" "is_asker_list" Saf f fd),FnOk P w K mg base CX0 4 f fd ["thing", "things"] (spD K 2 VI)) /\
 (∀{P w K mg base f fd}(T:Txt K mg)(_:Def P w K mg base "is_asker_list" 4 2 VI)(_:Fun K "look_at_lists" "look_at_lists" Sag f fd),FnOk P w K mg base CX0 5 f fd ["lists", "things"] (spD K 2 VH))) /\
 ((∀{P w K mg base f fd}(T:Txt K mg)(_:Def P w K mg base "is_number_below" 2 2 ZY)(_:Fun K "look_at_copies" "look_at_copies" Sad f fd),FnOk P w K mg base CX0 3 f fd ["copies"] (spD K 1 VJ)) /\
 (∀{P w K mg base f fd}(T:Txt K mg)(_:Def P w K mg base "look_at_lists" 5 2 VH)(_:Def P w K mg base "look_at_copies" 3 1 VJ)(_:Fun K "look_at_wishes" "look_at_wishes" Sah f fd),FnOk P w K mg base CX0 6 f fd ["thing"] (spD K 1 Yb)) /\
 (∀{P w K mg base f fd}(T:Txt K mg)(_:Def P w K mg base "look_at_wishes" 6 1 Yb)(_:Fun K "copies_left" "copies_left" San f fd),FnOk P w K mg base CX0 7 f fd ["wishes", "dealing"] (spD K 2 VE)) /\
 (∀{P w K mg base f fd}(T:Txt K mg)(_:Def P w K mg base "copies_left" 7 2 VE)(_:Fun K "steps_of_copies" "steps_of_copies" Sbb f fd),FnOk P w K mg base CX0 8 f fd ["wishes", "dealing"] (spD K 2 Vv)) /\
 (∀{P w K mg base f fd}(T:Txt K mg)(_:Def P w K mg base "steps_of_askers" 2 3 Vw)(_:Def P w K mg base "steps_of_copies" 8 2 Vv)(_:Fun K "all_steps" "all_steps" Sbc f fd),FnOk P w K mg base CX0 9 f fd ["wishes", "worths", "dealing"] (spD K 3 YD)) /\
 (∀{P w K mg base f fd}(T:Txt K mg)(_:Fun K "longer_walks" "longer_walks" Sbd f fd),FnOk P w K mg base CX0 1 f fd ["walks", "steps"] (spD K 2 Vu)) /\
 (∀{P w K mg base f fd}(T:Txt K mg)(_:Def P w K mg base "longer_walks" 1 2 Vu)(_:Fun K "widest_walks" "widest_walks" Sbe f fd),FnOk P w K mg base CX0 2 f fd ["places", "steps"] (spD K 2 X2)) /\
 (∀{P w K mg base f fd}(T:Txt K mg)(_:Def P w K mg base "all_steps" 9 3 YD)(_:Def P w K mg base "widest_walks" 2 2 X2)(_:Fun K "prices_for" "prices_for" Sbj f fd),FnOk P w K mg base CX0 10 f fd ["wishes", "worths", "dealing"] (spD K 3 X0))) /\
 ((∀{P w K mg base f fd}(T:Txt K mg)(_:Def P w K mg base "asks_beyond" 1 3 XZ)(_:Def P w K mg base "prices_for" 10 3 X0)(_:Fun K "paper_for" "paper_for" Sbl f fd),FnOk P w K mg base CX0 11 f fd ["wishes", "worths", "dealing"] (spD K 3 Vs)) /\
 (∀{P w K mg base f fd}(T:Txt K mg)(_:Fun K "round_within" "round_within" Sbf f fd),FnOk P w K mg base CX0 1 f fd ["walk"] (spD K 1 Vt)) /\
 (∀{P w K mg base f fd}(T:Txt K mg)(_:Fun K "way_round" "way_round" Sbg f fd),FnOk P w K mg base CX0 1 f fd ["nothing", "steps"] (spD K 2 Xk)) /\
 (∀{P w K mg base f fd}(T:Txt K mg)(_:Def P w K mg base "all_steps" 9 3 YD)(_:Def P w K mg base "widest_walks" 2 2 X2)(_:Def P w K mg base "round_within" 1 1 Vt)(_:Def P w K mg base "way_round" 1 2 Xk)(_:Fun K "gaining_way" "gaining_way" Sbh f fd),FnOk P w K mg base CX0 10 f fd ["wishes", "worths", "dealing"] (spD K 3 Wu)) /\
 (∀{P w K mg base f fd}(T:Txt K mg)(_:Fun K "behind_way" "behind_way" Say f fd),FnOk P w K mg base CX0 1 f fd ["dealing", "way"] (spD K 2 X3)) /\
 (∀{P w K mg base f fd}(T:Txt K mg)(_:Def P w K mg base "gaining_way" 10 3 Wu)(_:Def P w K mg base "behind_way" 1 2 X3)(_:Fun K "best_by" "best_by" Sbi f fd),FnOk P w K mg base CX0 11 f fd ["wishes", "worths"] (spD K 2 X1)) /\
 (∀{P w K mg base f fd}(T:Txt K mg)(_:Def P w K mg base "look_at_wishes" 6 1 Yb)(_:Fun K "all_wishes" "all_wishes" Sak f fd),FnOk P w K mg base CX0 7 f fd ["wishes"] (spD K 1 VG)) /\
 (∀{P w K mg base f fd}(T:Txt K mg)(_:Fun K "power" "power" Sat f fd),FnOk P w K mg base CX0 1 f fd ["base", "times"] (spD K 2 ZI))) /\
 ((∀{P w K mg base f fd}(T:Txt K mg)(_:Def P w K mg base "power" 1 2 ZI)(_:Fun K "worth_by_turns" "worth_by_turns" Sav f fd),FnOk P w K mg base CX0 2 f fd ["turns", "base", "asker", "rank"] (spD K 4 Vx)) /\
 (∀{P w K mg base f fd}(T:Txt K mg)(_:Def P w K mg base "power" 1 2 ZI)(_:Fun K "worth_by_order" "worth_by_order" Sau f fd),FnOk P w K mg base CX0 2 f fd ["order", "base", "most", "rank"] (spD K 4 Vy)) /\
 (∀{P w K mg base f fd}(T:Txt K mg)(_:Fun K "rank_in" "rank_in" Sai f fd),FnOk P w K mg base CX0 1 f fd ["ranks", "thing"] (spD K 2 YS)) /\
 (∀{P w K mg base f fd}(T:Txt K mg)(_:Def P w K mg base "power" 1 2 ZI)(_:Def P w K mg base "worth_by_turns" 2 4 Vx)(_:Def P w K mg base "worth_by_order" 2 4 Vy)(_:Def P w K mg base "rank_in" 1 2 YS)(_:Fun K "worth_by_aim" "worth_by_aim" Saw f fd),FnOk P w K mg base CX0 3 f fd ["wishes", "aim", "most", "asker", "thing"] (spD K 5 Ww)) /\
 (∀{P w K mg base f fd}(T:Txt K mg)(_:Def P w K mg base "look_at_wishes" 6 1 Yb)(_:Fun K "longest" "longest" Saj f fd),FnOk P w K mg base CX0 7 f fd ["wishes"] (spD K 1 X5)) /\
 (∀{P w K mg base f fd}(T:Txt K mg)(_:Def P w K mg base "is_number_below" 2 2 ZY)(_:Fun K "is_turns" "is_turns" Sar f fd),FnOk P w K mg base CX0 3 f fd ["thing", "askers"] (spD K 2 Vz)) /\
 (∀{P w K mg base f fd}(T:Txt K mg)(_:Def P w K mg base "is_number_below" 2 2 ZY)(_:Fun K "is_old" "is_old" Saq f fd),FnOk P w K mg base CX0 3 f fd ["thing", "askers", "things"] (spD K 3 VA)) /\
 (∀{P w K mg base f fd}(T:Txt K mg)(_:Fun K "is_order" "is_order" Sao f fd),FnOk P w K mg base CX0 1 f fd ["thing"] (spD K 1 VD))) /\
 ((∀{P w K mg base f fd}(T:Txt K mg)(_:Def P w K mg base "is_order" 1 1 VD)(_:Fun K "look_at_order" "look_at_order" Sap f fd),FnOk P w K mg base CX0 2 f fd ["thing"] (spD K 1 VC)) /\
 (∀{P w K mg base f fd}(T:Txt K mg)(_:Def P w K mg base "is_turns" 3 2 Vz)(_:Def P w K mg base "is_old" 3 3 VA)(_:Def P w K mg base "look_at_order" 2 1 VC)(_:Def P w K mg base "look_at_wishes" 6 1 Yb)(_:Fun K "look_at_aim" "look_at_aim" Sas f fd),FnOk P w K mg base CX0 7 f fd ["wishes", "thing"] (spD K 2 X4)) /\
 (∀{P w K mg base f fd}(T:Txt K mg)(_:Def P w K mg base "all_wishes" 7 1 VG)(_:Def P w K mg base "worth_by_aim" 3 5 Ww)(_:Def P w K mg base "longest" 7 1 X5)(_:Def P w K mg base "look_at_aim" 7 2 X4)(_:Fun K "all_worths" "all_worths" Sax f fd),FnOk P w K mg base CX0 8 f fd ["wishes", "aim"] (spD K 2 Y4)) /\
 (∀{P w K mg base f fd}(T:Txt K mg)(_:Def P w K mg base "paper_for" 11 3 Vs)(_:Def P w K mg base "best_by" 11 2 X1)(_:Def P w K mg base "all_worths" 8 2 Y4)(_:Fun K "best_dealing" "best_dealing" Sby f fd),FnOk P w K mg base CX0 12 f fd ["wishes", "aim"] (spD K 2 XX)) /\
 (∀{P w K mg base f fd}(T:Txt K mg)(_:Def P w K mg base "rank_in" 1 2 YS)(_:Def P w K mg base "look_at_wishes" 6 1 Yb)(_:Fun K "ranks_got" "ranks_got" Sal f fd),FnOk P w K mg base CX0 7 f fd ["wishes", "dealing"] (spD K 2 VF)) /\
 (∀{P w K mg base f fd}(T:Txt K mg)(_:Def P w K mg base "longest" 7 1 X5)(_:Def P w K mg base "ranks_got" 7 2 VF)(_:Fun K "counts_of" "counts_of" Sam f fd),FnOk P w K mg base CX0 8 f fd ["wishes", "dealing"] (spD K 2 Wx)) /\
 (∀{P w K mg base f fd}(T:Txt K mg)(_:Fun K "above_nought" "above_nought" Sab f fd),FnOk P w K mg base CX0 1 f fd ["numbers"] (spD K 1 X6)) /\
 (∀{P w K mg base f fd}(T:Txt K mg)(_:Def P w K mg base "above_nought" 1 1 X6)(_:Fun K "full" "full" Sbx f fd),FnOk P w K mg base CX0 2 f fd ["web"] (spD K 1 Vi))) /\
 ((∀{P w K mg base f fd}(T:Txt K mg)(_:Def P w K mg base "above_nought" 1 1 X6)(_:Fun K "served" "served" Sbw f fd),FnOk P w K mg base CX0 2 f fd ["web"] (spD K 1 Vj)) /\
 (∀{P w K mg base f fd}(T:Txt K mg)(_:Def P w K mg base "all_worths" 8 2 Y4)(_:Fun K "tight_wishes" "tight_wishes" Sbs f fd),FnOk P w K mg base CX0 9 f fd ["wishes", "aim", "paper"] (spD K 3 Vm)) /\
 (∀{P w K mg base f fd}(T:Txt K mg)(_:Def P w K mg base "tight_wishes" 9 3 Vm)(_:Def P w K mg base "look_at_aim" 7 2 X4)(_:Fun K "possible" "possible" Sbu f fd),FnOk P w K mg base CX0 10 f fd ["wishes", "aim", "web"] (spD K 3 XY)) /\
 (∀{P w K mg base f fd}(T:Txt K mg)(_:Def P w K mg base "possible" 10 3 XY)(_:Fun K "sure" "sure" Sbv f fd),FnOk P w K mg base CX0 11 f fd ["wishes", "aim", "web"] (spD K 3 Vk)) /\
 (∀{P w K mg base f fd}(T:Txt K mg)(_:Def P w K mg base "way_round" 1 2 Xk)(_:Def P w K mg base "behind_way" 1 2 X3)(_:Fun K "shown_by_rounds" "shown_by_rounds" Sbr f fd),FnOk P w K mg base CX0 2 f fd ["dealing", "steps", "roads"] (spD K 3 Wt)) /\
 (∀{P w K mg base f fd}(T:Txt K mg)(_:Fun K "strict_prices" "strict_prices" Sbp f fd),FnOk P w K mg base CX0 1 f fd ["prices", "roads"] (spD K 2 Vo)) /\
 (∀{P w K mg base f fd}(T:Txt K mg)(_:Def P w K mg base "asks_beyond" 1 3 XZ)(_:Def P w K mg base "strict_prices" 1 2 Vo)(_:Fun K "strict_paper" "strict_paper" Sbq f fd),FnOk P w K mg base CX0 2 f fd ["askers", "worths", "prices", "roads"] (spD K 4 Vn)) /\
 (∀{P w K mg base f fd}(T:Txt K mg)(_:Fun K "roads_from" "roads_from" Sbn f fd),FnOk P w K mg base CX0 1 f fd ["place", "places", "steps"] (spD K 3 Vq))) /\
 ((∀{P w K mg base f fd}(T:Txt K mg)(_:Def P w K mg base "roads_from" 1 3 Vq)(_:Fun K "all_roads" "all_roads" Sbo f fd),FnOk P w K mg base CX0 2 f fd ["places", "steps"] (spD K 2 Vp)) /\
 (∀{P w K mg base f fd}(T:Txt K mg)(_:Fun K "tight_steps" "tight_steps" Sbm f fd),FnOk P w K mg base CX0 1 f fd ["steps", "prices"] (spD K 2 Vr)) /\
 (∀{P w K mg base f fd}(T:Txt K mg)(_:Def P w K mg base "shown_by_rounds" 2 3 Wt)(_:Def P w K mg base "strict_paper" 2 4 Vn)(_:Def P w K mg base "all_roads" 2 2 Vp)(_:Def P w K mg base "all_steps" 9 3 YD)(_:Def P w K mg base "tight_steps" 1 2 Vr)(_:Def P w K mg base "prices_for" 10 3 X0)(_:Def P w K mg base "best_by" 11 2 X1)(_:Def P w K mg base "all_worths" 8 2 Y4)(_:Fun K "web_of" "web_of" Sbt f fd),FnOk P w K mg base CX0 12 f fd ["wishes", "aim"] (spD K 2 Vl)) /\
 (∀{P w K mg base f fd}(T:Txt K mg)(_:Def P w K mg base "full" 2 1 Vi)(_:Def P w K mg base "served" 2 1 Vj)(_:Def P w K mg base "sure" 11 3 Vk)(_:Def P w K mg base "possible" 10 3 XY)(_:Def P w K mg base "web_of" 12 2 Vl)(_:Fun K "_law_read" "_law_read" Scf f fd),FnOk P w K mg base CX0 13 f fd ["_law_wishes_here", "_law_aim_here"] (spD K 2 XV)) /\
 (∀{P w K mg base f fd}(T:Txt K mg)(_:Fun K "_law_numbers" "_law_numbers" Sca f fd),FnOk P w K mg base CX0 1 f fd ["_law_cell", "_law_salt", "_law_sizes"] (spD K 3 YR)) /\
 (∀{P w K mg base f fd}(T:Txt K mg)(_:Fun K "_law_wished" "_law_wished" Scd f fd),FnOk P w K mg base CX0 1 f fd ["_law_wishes_here", "_law_asker"] (spD K 2 Vf)) /\
 (∀{P w K mg base f fd}(T:Txt K mg)(_:Fun K "_law_rank" "_law_rank" Scc f fd),FnOk P w K mg base CX0 1 f fd ["_law_wishes_here", "_law_asker", "_law_thing"] (spD K 3 Vg)) /\
 (∀{P w K mg base f fd}(T:Txt K mg)(_:Def P w K mg base "_law_wished" 1 2 Vf)(_:Def P w K mg base "_law_rank" 1 3 Vg)(_:Fun K "_law_without" "_law_without" Sch f fd),FnOk P w K mg base CX0 2 f fd ["_law_wishes_here", "_law_some", "_law_digit"] (spD K 3 Vc))) /\
 ((∀{P w K mg base f fd}(T:Txt K mg)(_:Fun K "_law_narrower" "_law_narrower" Scg f fd),FnOk P w K mg base CX0 1 f fd ["_law_wide", "_law_narrow"] (spD K 2 Vd)) /\
 (∀{P w K mg base f fd}(T:Txt K mg)(_:Def P w K mg base "_law_numbers" 1 3 YR)(_:Fun K "_law_aim" "_law_aim" Sce f fd),FnOk P w K mg base CX0 2 f fd ["_law_wishes_here", "_law_cell", "_law_salt"] (spD K 3 Ve)) /\
 (∀{P w K mg base f fd}(T:Txt K mg)(_:Def P w K mg base "_law_numbers" 1 3 YR)(_:Def P w K mg base "_law_cell_at" 1 2 Xj)(_:Fun K "_law_wishes" "_law_wishes" Scb f fd),FnOk P w K mg base CX0 2 f fd ["_law_script", "_law_at", "_law_most_things", "_law_most_askers", "_law_most_ranks"] (spD K 5 Vh)) /\
 (∀{P w K mg base f fd}(T:Txt K mg)(_:Def P w K mg base "_law_cell_at" 1 2 Xj)(_:Def P w K mg base "best_dealing" 12 2 XX)(_:Def P w K mg base "counts_of" 8 2 Wx)(_:Def P w K mg base "_law_read" 13 2 XV)(_:Def P w K mg base "_law_numbers" 1 3 YR)(_:Def P w K mg base "_law_without" 2 3 Vc)(_:Def P w K mg base "_law_narrower" 1 2 Vd)(_:Def P w K mg base "_law_aim" 2 3 Ve)(_:Def P w K mg base "_law_wishes" 2 5 Vh)(_:Fun K "law" "law" Sci f fd),FnOk P w K mg base CX0 14 f fd ["_law_script"] (spD K 1 Vb))):=by
 refine⟨⟨λT F=>okD (k:=0) (g:=g_bz) F (fq Hbz 2) wZ λcdv A outer s H E B G0 hr=>have nm:=Hbz;?_,
 λT F=>okD (k:=0) (g:=TZ) F (fq Hbk 3) wZ λcdv A outer s H E B G0 hr=>have nm:=Hbk;?_,
 λT F=>okD (k:=0) (g:=g_az) F (fq Haz 2) wZ λcdv A outer s H E B G0 hr=>have nm:=Haz;?_,
 λT F=>okD (k:=0) (g:=g_aa) F (fq Haa 1) wZ λcdv A outer s H E B G0 hr=>have nm:=Haa;?_,
 λT _ F=>okD (k:=1) (g:=g_ac) F (fq Hac 2) wZ λcdv A outer s H E B G0 hr=>have nm:=Hac;?_,
 λT _ F=>okD (k:=2) (g:=g_ae) F (fq Hae 2) wZ λcdv A outer s H E B G0 hr=>have nm:=Hae;?_,
 λT _ F=>okD (k:=3) (g:=Su) F (fq Haf 2) wZ λcdv A outer s H E B G0 hr=>have nm:=Haf;?_,
 λT _ F=>okD (k:=4) (g:=Ss) F (fq Hag 2) wZ λcdv A outer s H E B G0 hr=>have nm:=Hag;?_⟩,
 ⟨λT _ F=>okD (k:=2) (g:=Sv) F (fq Had 1) wZ λcdv A outer s H E B G0 hr=>have nm:=Had;?_,
 λT _ _ F=>okD (k:=5) (g:=g_ah) F (fq Hah 1) wZ λcdv A outer s H E B G0 hr=>have nm:=Hah;?_,
 λT _ F=>okD (k:=6) (g:=g_an) F (fq Han 2) wZ λcdv A outer s H E B G0 hr=>have nm:=Han;?_,
 λT _ F=>okD (k:=7) (g:=Sb) F (fq Hbb 2) wZ λcdv A outer s H E B G0 hr=>have nm:=Hbb;?_,
 λT _ _ F=>okD (k:=8) (g:=g_bc) F (fq Hbc 3) wZ λcdv A outer s H E B G0 hr=>have nm:=Hbc;?_,
 λT F=>okD (k:=0) (g:=Sa) F (fq Hbd 2) wZ λcdv A outer s H E B G0 hr=>have nm:=Hbd;?_,
 λT _ F=>okD (k:=1) (g:=T9) F (fq Hbe 2) wZ λcdv A outer s H E B G0 hr=>have nm:=Hbe;?_,
 λT _ _ F=>okD (k:=9) (g:=T4) F (fq Hbj 3) wZ λcdv A outer s H E B G0 hr=>have nm:=Hbj;?_⟩,
 ⟨λT _ _ F=>okD (k:=10) (g:=TY) F (fq Hbl 3) wZ λcdv A outer s H E B G0 hr=>have nm:=Hbl;?_,
 λT F=>okD (k:=0) (g:=T8) F (fq Hbf 1) wZ λcdv A outer s H E B G0 hr=>have nm:=Hbf;?_,
 λT F=>okD (k:=0) (g:=T7) F (fq Hbg 2) wZ λcdv A outer s H E B G0 hr=>have nm:=Hbg;?_,
 λT _ _ _ _ F=>okD (k:=9) (g:=T6) F (fq Hbh 3) wZ λcdv A outer s H E B G0 hr=>have nm:=Hbh;?_,
 λT F=>okD (k:=0) (g:=Sd) F (fq Hay 2) wZ λcdv A outer s H E B G0 hr=>have nm:=Hay;?_,
 λT _ _ F=>okD (k:=10) (g:=T5) F (fq Hbi 2) wZ λcdv A outer s H E B G0 hr=>have nm:=Hbi;?_,
 λT _ F=>okD (k:=6) (g:=Sq) F (fq Hak 1) wZ λcdv A outer s H E B G0 hr=>have nm:=Hak;?_,
 λT F=>okD (k:=0) (g:=g_at) F (fq Hat 2) wZ λcdv A outer s H E B G0 hr=>have nm:=Hat;?_⟩,
 ⟨λT _ F=>okD (k:=1) (g:=Sg) F (fq Hav 4) wZ λcdv A outer s H E B G0 hr=>have nm:=Hav;?_,
 λT _ F=>okD (k:=1) (g:=Sh) F (fq Hau 4) wZ λcdv A outer s H E B G0 hr=>have nm:=Hau;?_,
 λT F=>okD (k:=0) (g:=Sr) F (fq Hai 2) wZ λcdv A outer s H E B G0 hr=>have nm:=Hai;?_,
 λT _ _ _ _ F=>okD (k:=2) (g:=Sf) F (fq Haw 5) wZ λcdv A outer s H E B G0 hr=>have nm:=Haw;?_,
 λT _ F=>okD (k:=6) (g:=g_aj) F (fq Haj 1) wZ λcdv A outer s H E B G0 hr=>have nm:=Haj;?_,
 λT _ F=>okD (k:=2) (g:=Sk) F (fq Har 2) wZ λcdv A outer s H E B G0 hr=>have nm:=Har;?_,
 λT _ F=>okD (k:=2) (g:=Sm) F (fq Haq 3) wZ λcdv A outer s H E B G0 hr=>have nm:=Haq;?_,
 λT F=>okD (k:=0) (g:=g_ao) F (fq Hao 1) wZ λcdv A outer s H E B G0 hr=>have nm:=Hao;?_⟩,
 ⟨λT _ F=>okD (k:=1) (g:=g_ap) F (fq Hap 1) wZ λcdv A outer s H E B G0 hr=>have nm:=Hap;?_,
 λT _ _ _ _ F=>okD (k:=6) (g:=Sj) F (fq Has 2) wZ λcdv A outer s H E B G0 hr=>have nm:=Has;?_,
 λT _ _ _ _ F=>okD (k:=7) (g:=Se) F (fq Hax 2) wZ λcdv A outer s H E B G0 hr=>have nm:=Hax;?_,
 λT _ _ _ F=>okD (k:=11) (g:=TH) F (fq Hby 2) wZ λcdv A outer s H E B G0 hr=>have nm:=Hby;?_,
 λT _ _ F=>okD (k:=6) (g:=So) F (fq Hal 2) wZ λcdv A outer s H E B G0 hr=>have nm:=Hal;?_,
 λT _ _ F=>okD (k:=7) (g:=Sn) F (fq Ham 2) wZ λcdv A outer s H E B G0 hr=>have nm:=Ham;?_,
 λT F=>okD (k:=0) (g:=Sw) F (fq Hab 1) wZ λcdv A outer s H E B G0 hr=>have nm:=Hab;?_,
 λT _ F=>okD (k:=1) (g:=TJ) F (fq Hbx 1) wZ λcdv A outer s H E B G0 hr=>have nm:=Hbx;?_⟩,
 ⟨λT _ F=>okD (k:=1) (g:=TK) F (fq Hbw 1) wZ λcdv A outer s H E B G0 hr=>have nm:=Hbw;?_,
 λT _ F=>okD (k:=8) (g:=TQ) F (fq Hbs 3) wZ λcdv A outer s H E B G0 hr=>have nm:=Hbs;?_,
 λT _ _ F=>okD (k:=9) (g:=TM) F (fq Hbu 3) wZ λcdv A outer s H E B G0 hr=>have nm:=Hbu;?_,
 λT _ F=>okD (k:=10) (g:=TL) F (fq Hbv 3) wZ λcdv A outer s H E B G0 hr=>have nm:=Hbv;?_,
 λT _ _ F=>okD (k:=1) (g:=TR) F (fq Hbr 3) wZ λcdv A outer s H E B G0 hr=>have nm:=Hbr;?_,
 λT F=>okD (k:=0) (g:=TV) F (fq Hbp 2) wZ λcdv A outer s H E B G0 hr=>have nm:=Hbp;?_,
 λT _ _ F=>okD (k:=1) (g:=TU) F (fq Hbq 4) wZ λcdv A outer s H E B G0 hr=>have nm:=Hbq;?_,
 λT F=>okD (k:=0) (g:=TW) F (fq Hbn 3) wZ λcdv A outer s H E B G0 hr=>have nm:=Hbn;?_⟩,
 ⟨λT _ F=>okD (k:=1) (g:=g_bo) F (fq Hbo 2) wZ λcdv A outer s H E B G0 hr=>have nm:=Hbo;?_,
 λT F=>okD (k:=0) (g:=TX) F (fq Hbm 2) wZ λcdv A outer s H E B G0 hr=>have nm:=Hbm;?_,
 λT _ _ _ _ _ _ _ _ F=>okD (k:=11) (g:=TN) F (fq Hbt 2) wZ λcdv A outer s H E B G0 hr=>have nm:=Hbt;?_,
 λT _ _ _ _ _ F=>okD (k:=12) (g:=TC) F (fq Hcf 2) wZ λcdv A outer s H E B G0 hr=>have nm:=Hcf;?_,
 λT F=>okD (k:=0) (g:=g_ca) F (fq Hca 3) wZ λcdv A outer s H E B G0 hr=>have nm:=Hca;?_,
 λT F=>okD (k:=0) (g:=g_cd) F (fq Hcd 2) wZ λcdv A outer s H E B G0 hr=>have nm:=Hcd;?_,
 λT F=>okD (k:=0) (g:=g_cc) F (fq Hcc 3) wZ λcdv A outer s H E B G0 hr=>have nm:=Hcc;?_,
 λT _ _ F=>okD (k:=1) (g:=Tz) F (fq Hch 3) wZ λcdv A outer s H E B G0 hr=>have nm:=Hch;?_⟩,
 ⟨λT F=>okD (k:=0) (g:=TB) F (fq Hcg 2) wZ λcdv A outer s H E B G0 hr=>have nm:=Hcg;?_,
 λT _ F=>okD (k:=1) (g:=TD) F (fq Hce 3) wZ λcdv A outer s H E B G0 hr=>have nm:=Hce;?_,
 λT _ _ F=>okD (k:=1) (g:=TF) F (fq Hcb 5) wZ λcdv A outer s H E B G0 hr=>have nm:=Hcb;?_,
 λT _ _ _ _ _ _ _ _ _ F=>okD (k:=13) (g:=Tx) F (fq Hci 1) wZ λcdv A outer s H E B G0 hr=>have nm:=Hci;?_⟩⟩<;>(have hu:=hr.units;have hgd:=hr.gd;repeat' (first|((with_reducible show PSs _ (WT _) _);show PSs _ (_::_) _)|((with_reducible show PSs _ (Stmt.Assign _ _ _::_::_) _);generalize hS:(_::_:List Stmt)=sts;refine ql hS ?_ ?_)|((with_reducible show PS _ (Stmt.Assign [Expr.Name _ _] (Expr.List _ _) _) (tS _ _ _ _ (Zq _ _)));generalize hS:Stmt.Assign _ _ _=st;refine Cu hS nm ?_)|((with_reducible show PS _ (Stmt.Assign [Expr.Name _ _] (Expr.BinOp _ _ _ _) _) (tS _ _ _ _ (Kc _ _)));generalize hS:Stmt.Assign _ _ _=st;refine Dv hS nm ?_)|((with_reducible show PE _ (Expr.List _ _) _);generalize hS:Expr.List _ _=e;first|refine qk hS ?_|refine qi hS ?_)|((with_reducible show PE _ (Expr.Tuple _ _ _) _);generalize hS:Expr.Tuple _ _ _=e;refine qh hS ?_)|((with_reducible show PE _ (Expr.BinOp _ Operator.Add _ _) (tD _ _ _ _));generalize hS:Expr.BinOp _ _ _ _=e;refine Ll M9 hS ?_ ?_)|((with_reducible show PE _ (Expr.BinOp _ Operator.Mult _ _) (tD _ _ _ _));generalize hS:Expr.BinOp _ _ _ _=e;refine Ll M7 hS ?_ ?_)|((with_reducible show PA _ (_::_) (tDs _ _ _ _));generalize hS:(_::_:yb)=es;refine xo hS ?_ ?_)|((with_reducible show PE _ _ (tD _ _ _ _));first|first|((with_reducible show PE _ (Expr.Name _ _) _);first|exact Ac (pq nm _)|exact Yj (pq nm _)|exact Yj (pvb _)|exact DP (by walk_at "g") (by walk_at "c")|exact DM (by walk_at "g") (by walk_at "c"))|((with_reducible show PE _ (Expr.Constant _ _ _) _);first|exact Lz|exact AG|exact Bk|exact AH)|((with_reducible show PE _ (Expr.Subscript _ _ _) _);first|refine Af hu (by walk_at "v") ?_ (λ_ _=>rfl)|refine Ri (by walk_at "v") ?_ (λ_ _=>rfl)|refine vB ?_ ?_ ?_|refine BM ?_ ?_ ?_ ?_|refine Ca ?_ ?_ (λ_ _=>rfl)|refine Am hu ?_ ?_)|((with_reducible show PE _ (Expr.BinOp _ Operator.Add _ _) _);first|refine VP M9 ?_ ?_)|((with_reducible show PE _ (Expr.BinOp _ Operator.Sub _ _) _);first|refine VP M8 ?_ ?_)|((with_reducible show PE _ (Expr.BinOp _ Operator.Mult _ _) _);first|refine VP M7 ?_ ?_)|((with_reducible show PE _ (Expr.BinOp _ Operator.Mod _ _) _);first|refine VP E9 ?_ ?_)|((with_reducible show PE _ (Expr.BinOp _ Operator.FloorDiv _ _) _);first|refine VP E8 ?_ ?_)|((with_reducible show PE _ (Expr.BinOp _ Operator.Pow _ _) _);first|refine VP E7 ?_ ?_)|((with_reducible show PE _ (Expr.Call (Expr.Name "len" _) _ _ _) _);first|refine GR (by walk_at "g") T.b_len (by walk_at "v")|refine Rn E6 (by walk_at "g") T.b_len boot_len ?_|refine vz wZ (by walk_at "g") T.b_len (by walk_at "g") T.b_set ?_)|((with_reducible show PE _ (Expr.Call (Expr.Name "max" _) _ _ _) _);first|refine Rn (D9 wZ) (by walk_at "g") T.b_max boot_max ?_|refine Rn (DW wZ) (by walk_at "g") T.b_max boot_max ?_)|((with_reducible show PE _ (Expr.Call (Expr.Name "sorted" _) _ _ _) _);first|refine Rn DS (by walk_at "g") T.b_sorted PyProof.Rows.boot_sorted ?_)|((with_reducible show PE _ (Expr.Call (Expr.Name "sum" _) _ _ _) _);first|refine Rn (DV wZ) (by walk_at "g") T.b_sum PyProof.Rows.boot_sum ?_)|((with_reducible show PE _ (Expr.Call (Expr.Name "all" _) _ _ _) _);first|refine Rn (E1 wZ) (by walk_at "g") T.b_all PyProof.Rows.boot_all ?_)|((with_reducible show PE _ (Expr.Call (Expr.Name "int" _) _ _ _) _);first|refine vF DX (by walk_at "g") T.b_int PyProof.Rows.boot_int ?_)|((with_reducible show PE _ (Expr.Call (Expr.Name "isinstance" _) [_,Expr.Name "int" _] _ _) _);first|refine Pe (c:= "int") (by decide) (by walk_at "g") T.b_isinstance (by walk_at "g") T.b_int (by decide +kernel) ?_ (by decide) (by decide))|((with_reducible show PE _ (Expr.Call (Expr.Name "isinstance" _) [_,Expr.Name "list" _] _ _) _);first|refine Pe (c:= "list") (by decide) (by walk_at "g") T.b_isinstance (by walk_at "g") T.b_list (by decide +kernel) ?_ (by decide) (by decide))|((with_reducible show PE _ (Expr.Call (Expr.Name "isinstance" _) [_,Expr.Name "tuple" _] _ _) _);first|refine Pe (c:= "tuple") (by decide) (by walk_at "g") T.b_isinstance (by walk_at "g") T.b_tuple (by decide +kernel) ?_ (by decide) (by decide))|((with_reducible show PE _ (Expr.Call (Expr.Name "isinstance" _) [_,Expr.Name "bool" _] _ _) _);first|refine Pe (c:= "bool") (by decide) (by walk_at "g") T.b_isinstance (by walk_at "g") T.b_bool (by decide +kernel) ?_ (by decide) (by decide))|((with_reducible show PE _ (Expr.Call (Expr.Name "isinstance" _) [_,Expr.Name "str" _] _ _) _);first|refine Pe (c:= "str") (by decide) (by walk_at "g") T.b_isinstance (by walk_at "g") T.b_str (by decide +kernel) ?_ (by decide) (by decide))|((with_reducible show PE _ (Expr.Call (Expr.Name _ _) _ _ _) _);first|refine pdf (by assumption) hr (by walk_at "g") ?_)|((with_reducible show PE _ (Expr.Call _ _ _ _) _);first|refine xk hu ?_ ?_|refine xb ?_ ?_)|refine Nv ?_|refine P0 ?_|((with_reducible show PE _ (Expr.Compare _ _ _ _) _);first|refine BY ?_|refine BN (by walk_at "b") (by walk_at "v") ?_ (by walk_at "m")|refine A8 (by walk_at "b") ?_ ?_ (by walk_at "m")|refine xS (by walk_at "b") (by walk_at "b") ?_ ?_ ?_)|refine BP ?_|refine HB ?_|refine B0 ?_|refine B4 ?_ ?_|refine BB ?_ ?_|refine B3 ?_|refine xR ?_ ?_ ?_)|((with_reducible show PA _ _ (tDs _ _ _ _));first|refine Xu ?_ ?_|exact Rj)|((with_reducible show PSs _ _ (tS _ _ _ _ _));first|refine Rh ?_ ?_|refine SX ?_|exact O5|exact sD_nevers)|((with_reducible show PS _ _ _);first|((with_reducible show PS _ (Stmt.Assign [Expr.Name _ _] _ _) _);first|refine aSet nm ?_|refine Dw nm (by walk_at "k") wZ ?_ ?_ (by decide +kernel)|refine MW nm ?_|refine Dy nm ?_)|((with_reducible show PS _ (Stmt.Assign _ _ _) _);first|refine D8 ?_ ?_|refine Hz ?_ (by walk_at "v") ?_|refine Cz hu ?_ (by walk_at "v") ?_)|refine OH ?_ ?_ ?_|refine Lw ?_|refine O8 (by walk_at "w") wZ ?_ ?_ ?_|((with_reducible show PS _ (Stmt.Expr _ _) _);first|refine Lv (by walk_at "v") ?_|refine BU ?_)|refine aAug nm BG ?_|exact jp|refine qB _ (by walk_at "w") ?_ ?_)|((with_reducible show PT _ _ _);first|((with_reducible show PT _ (Expr.Compare _ _ _ _) _);first|refine Ae hu ?_ (by walk_at "v")|refine qm hu ?_ (by walk_at "v")|refine BZ ?_|refine GS ?_|refine BO (by walk_at "b") (by walk_at "v") ?_ (by walk_at "m")|refine Ao (by walk_at "b") ?_ (by walk_at "v") (by walk_at "m")|refine Nw (by walk_at "b") ?_ ?_ (by walk_at "m")|refine xT (by walk_at "b") (by walk_at "b") ?_ ?_ ?_)|((with_reducible show PT _ (Expr.BoolOp _ _ _) _);refine PW.pt ?_)|refine A4 ?_|refine B5 ?_|refine Ai ?_)|((with_reducible show PW _ _ _);first|refine A5 ?_ ?_|refine BC ?_ ?_|refine jt ?_|refine A6 ?_)|((with_reducible show PE _ _ (tL _ _ _ _));first|refine Dx nm (by walk_at "k") wZ ?_ ?_ (by decide +kernel)|refine Cv (by walk_at "k") wZ ?_ ?_ (by decide +kernel)|refine kF (by walk_at "g") T.b_list (by walk_at "v")|refine Ga ?_|refine HD ?_ ?_)|((with_reducible show PI _ _ _ _);first|refine vh (by walk_at "g") T.b_range ?_|refine vg (by walk_at "g") T.b_range ?_|refine HZ (by walk_at "g") T.b_enumerate ?_|refine jM (by walk_at "g") T.b_enumerate ?_|refine O0 ?_)|((with_reducible show PG _ _ _);first|exact Dz nm|exact Cw|refine PJ wZ ?_)|((with_reducible show PGs _ _ _);first|exact PK|refine WS ?_ ?_)|((with_reducible show PO _ _ _);first|exact js|refine jr ?_)|((with_reducible show Z9 _ _ _ _ _ _ _ _ _);refine λcl C s0 H0 ex=>⟨λB' G'=>?_,λB' G'=>?_,?_⟩)|((with_reducible show Xi _ _ _);first|exact BQ|refine HA ?_)|((with_reducible show Rz _ _ _ _ _ _);first|refine FC wZ wZ wZ λB' G'=>?_|refine kN wZ wZ wZ wZ (λ_=>rfl) (λB' G'=>?_) (λB' G'=>?_) (λB' G'=>?_) ?_)|((with_reducible show PE _ _ (tT _ _ _ _ _));first|refine peT_call (by assumption) hr (by walk_at "g") ?_|exact peT_nil|exact peT_dnil|refine qo ?_)|((with_reducible show DPs _ _ _ _ _ _);first|exact An|refine qq (λB'=>?_) (λB'=>?_) ?_)))
theorem KN:recsOf q0=RQ p0 ixL:=by show recsOf (PySem.W.view PySem.Challenge.pw_wishdeal_k62_whole_narrower_aims X9)=RQ PySem.Challenge.pw_wishdeal_k62_whole_narrower_aims ixL;rw[PySem.W.Fast.te3399658132070893891,PySem.W.Fast.te10171112609700448693];kernel_rfl
theorem Xo:(["all", "bool", "enumerate", "int", "isinstance", "len", "list", "max", "range", "set", "sorted", "str", "sum", "tuple"]:List Str).all (Pp q0 (PySem.W.looseW q0 []))=w5:=by show List.all _ (Pp (PySem.W.view PySem.Challenge.pw_wishdeal_k62_whole_narrower_aims X9) (PySem.W.looseW (PySem.W.view PySem.Challenge.pw_wishdeal_k62_whole_narrower_aims X9) []))=w5;k_qdec
theorem wP:valOf q0 "MOST_ASKERS" = O (.int 7):=by show valOf (PySem.W.view PySem.Challenge.pw_wishdeal_k62_whole_narrower_aims X9) _=_;rw[Jx,PySem.W.Fast.te10171112609700448693];kernel_rfl
theorem wO:valOf q0 "MOST_COPIES" = O (.int 7):=by show valOf (PySem.W.view PySem.Challenge.pw_wishdeal_k62_whole_narrower_aims X9) _=_;rw[Jx,PySem.W.Fast.te10171112609700448693];kernel_rfl
theorem wL:valOf q0 "MOST_RANKS" = O (.int 5):=by show valOf (PySem.W.view PySem.Challenge.pw_wishdeal_k62_whole_narrower_aims X9) _=_;rw[Jx,PySem.W.Fast.te10171112609700448693];kernel_rfl
theorem wN:valOf q0 "MOST_THINGS" = O (.int 6):=by show valOf (PySem.W.view PySem.Challenge.pw_wishdeal_k62_whole_narrower_aims X9) _=_;rw[Jx,PySem.W.Fast.te10171112609700448693];kernel_rfl
theorem jY:tupStrsOf q0 "ORDERS" = O (["firsts", "full", "lasts"]:List Str):=by show tupStrsOf (PySem.W.view PySem.Challenge.pw_wishdeal_k62_whole_narrower_aims X9) _=_;rw[PySem.W.Fast.te14491516231548247274,PySem.W.Fast.te10171112609700448693];kernel_rfl
theorem Ct{l:PySem.W.OpenLaw}{w:World}{s0:Uo}{mg mb:Str->yf}{fa:Uq}{h:Heap}{XP:(Str->yf)->Heap->Prop}(G:PySem.W.Ground q0 [] [] XP w s0 mg mb h)(hfa:mg "law" = O (.ref fa)) :
  ∃fd:Ur,(∀(s:Uo)(v:Um),BindsTo s fd ⟨[v],[]⟩ [("_law_script", v)])/\∀base:Heap,FnOk l.prog w (whole h) mg base CX0 14 fa fd ["_law_script"] (spD (whole h) 1 Vb):=by
 have T:Txt (whole h) mg:=⟨Xv G.T Xo (mq 0 wZ),Xv G.T Xo (mq 1 wZ),Xv G.T Xo (mq 2 wZ),Xv G.T Xo (mq 3 wZ),Xv G.T Xo (mq 4 wZ),Xv G.T Xo (mq 5 wZ),Xv G.T Xo (mq 6 wZ),Xv G.T Xo (mq 7 wZ),Xv G.T Xo (mq 8 wZ),Xv G.T Xo (mq 9 wZ),Xv G.T Xo (mq 10 wZ),Xv G.T Xo (mq 11 wZ),Xv G.T Xo (mq 12 wZ),Xv G.T Xo (mq 13 wZ),Ov G.T wP,Ov G.T wO,Ov G.T wL,Ov G.T wN,xu G.B jY (by decide)⟩
 refine DE G.T KN 82 "law" rfl wZ hfa (λ_ _ _ _ _ _ _=>rfl) λbase=>?_
 have av:=KO l.prog w base G.T KN 73 "_law_cell_at" rfl wZ (λF=>oks.1.1 T  F) λ_ _ _ _ _ _ us hl=>bz2 (us:=us) hl λ_ _=>rfl
 have ax:=KO l.prog w base G.T KN 53 "asks_beyond" rfl wZ (λF=>oks.1.2.1 T  F) λ_ _ _ _ _ _ us hl=>bz3 (us:=us) hl λ_ _ _=>rfl
 have zy:=KO l.prog w base G.T KN 42 "place_of" rfl wZ (λF=>oks.1.2.2.1 T  F) λ_ _ _ _ _ _ us hl=>bz2 (us:=us) hl λ_ _=>rfl
 have d_ba:=KO l.prog w base G.T KN 43 "steps_of_askers" rfl wZ (λF=>Kba T zy F) λ_ _ _ _ _ _ us hl=>bz3 (us:=us) hl λ_ _ _=>rfl
 have d_aa:=KO l.prog w base G.T KN 1 "is_whole" rfl wZ (λF=>oks.1.2.2.2.1 T  F) λ_ _ _ _ _ _ us hl=>bz1 (us:=us) hl λ_=>rfl
 have yS:=KO l.prog w base G.T KN 3 "is_number_below" rfl wZ (λF=>oks.1.2.2.2.2.1 T d_aa F) λ_ _ _ _ _ _ us hl=>bz2 (us:=us) hl λ_ _=>rfl
 have d_ae:=KO l.prog w base G.T KN 14 "is_rank" rfl wZ (λF=>oks.1.2.2.2.2.2.1 T yS F) λ_ _ _ _ _ _ us hl=>bz2 (us:=us) hl λ_ _=>rfl
 have d_af:=KO l.prog w base G.T KN 15 "is_asker_list" rfl wZ (λF=>oks.1.2.2.2.2.2.2.1 T d_ae F) λ_ _ _ _ _ _ us hl=>bz2 (us:=us) hl λ_ _=>rfl
 have d_ag:=KO l.prog w base G.T KN 16 "look_at_lists" rfl wZ (λF=>oks.1.2.2.2.2.2.2.2 T d_af F) λ_ _ _ _ _ _ us hl=>bz2 (us:=us) hl λ_ _=>rfl
 have d_ad:=KO l.prog w base G.T KN 13 "look_at_copies" rfl wZ (λF=>oks.2.1.1 T yS F) λ_ _ _ _ _ _ us hl=>bz1 (us:=us) hl λ_=>rfl
 have yH:=KO l.prog w base G.T KN 17 "look_at_wishes" rfl wZ (λF=>oks.2.1.2.1 T d_ag d_ad F) λ_ _ _ _ _ _ us hl=>bz1 (us:=us) hl λ_=>rfl
 have d_an:=KO l.prog w base G.T KN 24 "copies_left" rfl wZ (λF=>oks.2.1.2.2.1 T yH F) λ_ _ _ _ _ _ us hl=>bz2 (us:=us) hl λ_ _=>rfl
 have d_bb:=KO l.prog w base G.T KN 44 "steps_of_copies" rfl wZ (λF=>oks.2.1.2.2.2.1 T d_an F) λ_ _ _ _ _ _ us hl=>bz2 (us:=us) hl λ_ _=>rfl
 have zx:=KO l.prog w base G.T KN 45 "all_steps" rfl wZ (λF=>oks.2.1.2.2.2.2.1 T d_ba d_bb F) λ_ _ _ _ _ _ us hl=>bz3 (us:=us) hl λ_ _ _=>rfl
 have d_bd:=KO l.prog w base G.T KN 46 "longer_walks" rfl wZ (λF=>oks.2.1.2.2.2.2.2.1 T  F) λ_ _ _ _ _ _ us hl=>bz2 (us:=us) hl λ_ _=>rfl
 have aB:=KO l.prog w base G.T KN 47 "widest_walks" rfl wZ (λF=>oks.2.1.2.2.2.2.2.2.1 T d_bd F) λ_ _ _ _ _ _ us hl=>bz2 (us:=us) hl λ_ _=>rfl
 have ay:=KO l.prog w base G.T KN 52 "prices_for" rfl wZ (λF=>oks.2.1.2.2.2.2.2.2.2 T zx aB F) λ_ _ _ _ _ _ us hl=>bz3 (us:=us) hl λ_ _ _=>rfl
 have d_bl:=KO l.prog w base G.T KN 54 "paper_for" rfl wZ (λF=>oks.2.2.1.1 T ax ay F) λ_ _ _ _ _ _ us hl=>bz3 (us:=us) hl λ_ _ _=>rfl
 have d_bf:=KO l.prog w base G.T KN 48 "round_within" rfl wZ (λF=>oks.2.2.1.2.1 T  F) λ_ _ _ _ _ _ us hl=>bz1 (us:=us) hl λ_=>rfl
 have aA:=KO l.prog w base G.T KN 49 "way_round" rfl wZ (λF=>oks.2.2.1.2.2.1 T  F) λ_ _ _ _ _ _ us hl=>bz2 (us:=us) hl λ_ _=>rfl
 have d_bh:=KO l.prog w base G.T KN 50 "gaining_way" rfl wZ (λF=>oks.2.2.1.2.2.2.1 T zx aB d_bf aA F) λ_ _ _ _ _ _ us hl=>bz3 (us:=us) hl λ_ _ _=>rfl
 have aC:=KO l.prog w base G.T KN 40 "behind_way" rfl wZ (λF=>oks.2.2.1.2.2.2.2.1 T  F) λ_ _ _ _ _ _ us hl=>bz2 (us:=us) hl λ_ _=>rfl
 have az:=KO l.prog w base G.T KN 51 "best_by" rfl wZ (λF=>oks.2.2.1.2.2.2.2.2.1 T d_bh aC F) λ_ _ _ _ _ _ us hl=>bz2 (us:=us) hl λ_ _=>rfl
 have d_ak:=KO l.prog w base G.T KN 20 "all_wishes" rfl wZ (λF=>oks.2.2.1.2.2.2.2.2.2.1 T yH F) λ_ _ _ _ _ _ us hl=>bz1 (us:=us) hl λ_=>rfl
 have zB:=KO l.prog w base G.T KN 34 "power" rfl wZ (λF=>oks.2.2.1.2.2.2.2.2.2.2 T  F) λ_ _ _ _ _ _ us hl=>bz2 (us:=us) hl λ_ _=>rfl
 have d_av:=KO l.prog w base G.T KN 36 "worth_by_turns" rfl wZ (λF=>oks.2.2.2.1.1 T zB F) λ_ _ _ _ _ _ us hl=>bz4 (us:=us) hl λ_ _ _ _=>rfl
 have d_au:=KO l.prog w base G.T KN 35 "worth_by_order" rfl wZ (λF=>oks.2.2.2.1.2.1 T zB F) λ_ _ _ _ _ _ us hl=>bz4 (us:=us) hl λ_ _ _ _=>rfl
 have aF:=KO l.prog w base G.T KN 18 "rank_in" rfl wZ (λF=>oks.2.2.2.1.2.2.1 T  F) λ_ _ _ _ _ _ us hl=>bz2 (us:=us) hl λ_ _=>rfl
 have d_aw:=KO l.prog w base G.T KN 37 "worth_by_aim" rfl wZ (λF=>oks.2.2.2.1.2.2.2.1 T zB d_av d_au aF F) λ_ _ _ _ _ _ us hl=>bz5 (us:=us) hl λ_ _ _ _ _=>rfl
 have aE:=KO l.prog w base G.T KN 19 "longest" rfl wZ (λF=>oks.2.2.2.1.2.2.2.2.1 T yH F) λ_ _ _ _ _ _ us hl=>bz1 (us:=us) hl λ_=>rfl
 have d_ar:=KO l.prog w base G.T KN 31 "is_turns" rfl wZ (λF=>oks.2.2.2.1.2.2.2.2.2.1 T yS F) λ_ _ _ _ _ _ us hl=>bz2 (us:=us) hl λ_ _=>rfl
 have d_aq:=KO l.prog w base G.T KN 30 "is_old" rfl wZ (λF=>oks.2.2.2.1.2.2.2.2.2.2.1 T yS F) λ_ _ _ _ _ _ us hl=>bz3 (us:=us) hl λ_ _ _=>rfl
 have d_ao:=KO l.prog w base G.T KN 27 "is_order" rfl wZ (λF=>oks.2.2.2.1.2.2.2.2.2.2.2 T  F) λ_ _ _ _ _ _ us hl=>bz1 (us:=us) hl λ_=>rfl
 have d_ap:=KO l.prog w base G.T KN 28 "look_at_order" rfl wZ (λF=>oks.2.2.2.2.1.1 T d_ao F) λ_ _ _ _ _ _ us hl=>bz1 (us:=us) hl λ_=>rfl
 have aD:=KO l.prog w base G.T KN 32 "look_at_aim" rfl wZ (λF=>oks.2.2.2.2.1.2.1 T d_ar d_aq d_ap yH F) λ_ _ _ _ _ _ us hl=>bz2 (us:=us) hl λ_ _=>rfl
 have zA:=KO l.prog w base G.T KN 38 "all_worths" rfl wZ (λF=>oks.2.2.2.2.1.2.2.1 T d_ak d_aw aE aD F) λ_ _ _ _ _ _ us hl=>bz2 (us:=us) hl λ_ _=>rfl
 have d_by:=KO l.prog w base G.T KN 71 "best_dealing" rfl wZ (λF=>oks.2.2.2.2.1.2.2.2.1 T d_bl az zA F) λ_ _ _ _ _ _ us hl=>bz2 (us:=us) hl λ_ _=>rfl
 have d_al:=KO l.prog w base G.T KN 22 "ranks_got" rfl wZ (λF=>oks.2.2.2.2.1.2.2.2.2.1 T aF yH F) λ_ _ _ _ _ _ us hl=>bz2 (us:=us) hl λ_ _=>rfl
 have d_am:=KO l.prog w base G.T KN 23 "counts_of" rfl wZ (λF=>oks.2.2.2.2.1.2.2.2.2.2.1 T aE d_al F) λ_ _ _ _ _ _ us hl=>bz2 (us:=us) hl λ_ _=>rfl
 have aG:=KO l.prog w base G.T KN 2 "above_nought" rfl wZ (λF=>oks.2.2.2.2.1.2.2.2.2.2.2.1 T  F) λ_ _ _ _ _ _ us hl=>bz1 (us:=us) hl λ_=>rfl
 have d_bx:=KO l.prog w base G.T KN 69 "full" rfl wZ (λF=>oks.2.2.2.2.1.2.2.2.2.2.2.2 T aG F) λ_ _ _ _ _ _ us hl=>bz1 (us:=us) hl λ_=>rfl
 have d_bw:=KO l.prog w base G.T KN 68 "served" rfl wZ (λF=>oks.2.2.2.2.2.1.1 T aG F) λ_ _ _ _ _ _ us hl=>bz1 (us:=us) hl λ_=>rfl
 have d_bs:=KO l.prog w base G.T KN 63 "tight_wishes" rfl wZ (λF=>oks.2.2.2.2.2.1.2.1 T zA F) λ_ _ _ _ _ _ us hl=>bz3 (us:=us) hl λ_ _ _=>rfl
 have aw:=KO l.prog w base G.T KN 66 "possible" rfl wZ (λF=>oks.2.2.2.2.2.1.2.2.1 T d_bs aD F) λ_ _ _ _ _ _ us hl=>bz3 (us:=us) hl λ_ _ _=>rfl
 have d_bv:=KO l.prog w base G.T KN 67 "sure" rfl wZ (λF=>oks.2.2.2.2.2.1.2.2.2.1 T aw F) λ_ _ _ _ _ _ us hl=>bz3 (us:=us) hl λ_ _ _=>rfl
 have d_br:=KO l.prog w base G.T KN 61 "shown_by_rounds" rfl wZ (λF=>oks.2.2.2.2.2.1.2.2.2.2.1 T aA aC F) λ_ _ _ _ _ _ us hl=>bz3 (us:=us) hl λ_ _ _=>rfl
 have d_bp:=KO l.prog w base G.T KN 59 "strict_prices" rfl wZ (λF=>oks.2.2.2.2.2.1.2.2.2.2.2.1 T  F) λ_ _ _ _ _ _ us hl=>bz2 (us:=us) hl λ_ _=>rfl
 have d_bq:=KO l.prog w base G.T KN 60 "strict_paper" rfl wZ (λF=>oks.2.2.2.2.2.1.2.2.2.2.2.2.1 T ax d_bp F) λ_ _ _ _ _ _ us hl=>bz4 (us:=us) hl λ_ _ _ _=>rfl
 have d_bn:=KO l.prog w base G.T KN 57 "roads_from" rfl wZ (λF=>oks.2.2.2.2.2.1.2.2.2.2.2.2.2 T  F) λ_ _ _ _ _ _ us hl=>bz3 (us:=us) hl λ_ _ _=>rfl
 have d_bo:=KO l.prog w base G.T KN 58 "all_roads" rfl wZ (λF=>oks.2.2.2.2.2.2.1.1 T d_bn F) λ_ _ _ _ _ _ us hl=>bz2 (us:=us) hl λ_ _=>rfl
 have d_bm:=KO l.prog w base G.T KN 56 "tight_steps" rfl wZ (λF=>oks.2.2.2.2.2.2.1.2.1 T  F) λ_ _ _ _ _ _ us hl=>bz2 (us:=us) hl λ_ _=>rfl
 have d_bt:=KO l.prog w base G.T KN 65 "web_of" rfl wZ (λF=>oks.2.2.2.2.2.2.1.2.2.1 T d_br d_bq d_bo zx d_bm ay az zA F) λ_ _ _ _ _ _ us hl=>bz2 (us:=us) hl λ_ _=>rfl
 have d_cf:=KO l.prog w base G.T KN 79 "_law_read" rfl wZ (λF=>oks.2.2.2.2.2.2.1.2.2.2.1 T d_bx d_bw d_bv aw d_bt F) λ_ _ _ _ _ _ us hl=>bz2 (us:=us) hl λ_ _=>rfl
 have zw:=KO l.prog w base G.T KN 74 "_law_numbers" rfl wZ (λF=>oks.2.2.2.2.2.2.1.2.2.2.2.1 T  F) λ_ _ _ _ _ _ us hl=>bz3 (us:=us) hl λ_ _ _=>rfl
 have d_cd:=KO l.prog w base G.T KN 77 "_law_wished" rfl wZ (λF=>oks.2.2.2.2.2.2.1.2.2.2.2.2.1 T  F) λ_ _ _ _ _ _ us hl=>bz2 (us:=us) hl λ_ _=>rfl
 have d_cc:=KO l.prog w base G.T KN 76 "_law_rank" rfl wZ (λF=>oks.2.2.2.2.2.2.1.2.2.2.2.2.2.1 T  F) λ_ _ _ _ _ _ us hl=>bz3 (us:=us) hl λ_ _ _=>rfl
 have d_ch:=KO l.prog w base G.T KN 81 "_law_without" rfl wZ (λF=>oks.2.2.2.2.2.2.1.2.2.2.2.2.2.2 T d_cd d_cc F) λ_ _ _ _ _ _ us hl=>bz3 (us:=us) hl λ_ _ _=>rfl
 have d_cg:=KO l.prog w base G.T KN 80 "_law_narrower" rfl wZ (λF=>oks.2.2.2.2.2.2.2.1 T  F) λ_ _ _ _ _ _ us hl=>bz2 (us:=us) hl λ_ _=>rfl
 have d_ce:=KO l.prog w base G.T KN 78 "_law_aim" rfl wZ (λF=>oks.2.2.2.2.2.2.2.2.1 T zw F) λ_ _ _ _ _ _ us hl=>bz3 (us:=us) hl λ_ _ _=>rfl
 have d_cb:=KO l.prog w base G.T KN 75 "_law_wishes" rfl wZ (λF=>oks.2.2.2.2.2.2.2.2.2.1 T zw av F) λ_ _ _ _ _ _ us hl=>bz5 (us:=us) hl λ_ _ _ _ _=>rfl
 exact λ{_ _} F=>oks.2.2.2.2.2.2.2.2.2.2 T av d_by d_am d_cf zw d_ch d_cg d_ce d_cb F
noncomputable abbrev d_ci:DefRec:=⟨"law", Rk Sci,WT Sci,Yh Sci,DF Sci⟩
theorem walk{YP:World->Heap->Prop}{XP:(Str->yf)->Heap->Prop}(hlaw:∀ns:w8,ns.length<=63->Vb [.list (ns.map int)]=O (.bool w5)):PySem.W.WalkO q0 [] XP YP (PySem.Challenge.rw_wishdeal_k62_whole_narrower_aims).row.toRowW d_ci [] (λf vs=>PySem.call f vs):=
 qv (n:=63) (k:=14) (x:= "_law_script") wZ (by decide) wZ ⟨rfl,by decide,by decide,rfl⟩ (λ_ _ _ _ _ _ G hm=>Ct G hm) hlaw
theorem En{sizes found:w8}{z d}(h:∀(j:Nat) d z,found[j]?=O d->sizes[j]?=O z->0<=d/\d<z)(hz:sizes[found.length]?=O z)(h0:0<=d/\d<z) :
  ∀(j:Nat) d' z',(found++[d])[j]?=O d'->sizes[j]?=O z'->0<=d'/\d'<z':=by
 intro j d' z' e1 e2;by_cases hj:j<found.length
 .rw[QA hj]at e1
  exact h j d' z' e1 e2
 .by_cases hj2:j=found.length
  .simp_all
  .rw[QT (by rw[Qk,QU];lia)]at e1
   cases e1
noncomputable abbrev pb(d:D):Option Sl:=O (.pub d)
def inv(c s:Int)(sizes:w8)(n:Int)(i:Nat)(Z:US):Prop:=∃left found x6 x7,Z=[O (Sl.pub (.int c)),pb (.int s),pb (.list (sizes.map .int)),pb (.int n),pb (.int left),O (.own ((found:w8).map .int)),x6,x7] /\
 found.length=i/\∀(j:Nat) d z,found[j]?=O d->sizes[j]?=O z->0<=d/\d<z
theorem jX{c s n:Int}{sizes:w8}(hs:∀x∈sizes,0<x/\x<18446744073709551616)(hl:sizes.length<=1000){i:Nat}{d:D}{Z:US}{Q:Out->Prop}(hi:(Yt 0 sizes.length)[i]?=O d)(h:inv c s sizes n i Z) :
  ∃Z2,gN 6 d Z=O Z2/\Ho NF Z2 (SS (inv c s sizes n (i+1)) Q):=by
 obtain⟨left,found,x6,x7,rfl,hf,hfd⟩:=h;obtain⟨rfl,hlt⟩:=Wo hi;obtain⟨z,hz⟩:∃z,sizes[i]?=O z:=⟨sizes[i]'(by lia),Qe _⟩
 obtain⟨z1,z2⟩:=hs z (Qs hz);have hix:oIx (.list (sizes.map int)) (.int (0+(i:Int)))=O (.int z):=by rw[JG];exact K0 (by rw[Qd,hz];rfl)
 generalize hk:(0:Int)+(i:Int)=k at hix⊢;have z8:k<18446744073709551616:=by lia
 have hk2 : -18446744073709551616<k:=by lia
 have hlen:(found.map int).length<1000000:=by rw[Qb];lia
 have pw:W5 (.int 10) (.int 18)=O (.int 1000000000000000000):=by rw[BH (by decide)];rfl
 refine⟨_,UV (Qa wZ) wZ,?_⟩;unfold NF;apply KU
 case h1=>exact Lq (Ye wZ (U9 U0 U0 pw) wZ) λ_=>Ye wZ U0 wZ
 case h2=>intro _;refine Kh (WN wZ (U9 (UO wZ) (Ky wZ (UO wZ) hix) (V5 (by lia))) wZ hlen wZ) ?_;refine YI (KM (U9 (UO wZ) (Ky wZ (UO wZ) hix) (HH (by lia) (by lia))) (Qa wZ) wZ) (Zf ?_);exact⟨_,found++[left % z],_,_,by rw[Qy];rfl,by rw[Qk,hf];rfl,En hfd (by rw[hf];exact hz) ⟨Int.emod_nonneg _ (by lia),Int.emod_lt_of_pos _ z1⟩⟩
 case h3=>intro _;refine Kh (KM (U9 (U9 (U9 (U9 (UO wZ) (U9 U0 (UO wZ) (V4 (by decide) (by decide))) Zj) (U9 (U9 U0 (UO wZ) (V4 (by decide) (by decide))) (UO wZ) (Rt hk2 z8)) Zj) (UO wZ) Zj) U0 (V5 (by decide))) (Qa wZ) wZ) ?_;refine Kh (KM (U9 (U9 (UO wZ) U0 (Rt (by decide) (by decide))) U0 (V5 (by decide))) (Qa wZ) wZ) ?_;refine Kh (KM (U9 (U9 (U9 (U9 (UO wZ) (UO wZ) (Rt (by lia) (by lia))) U0 (V5 (by decide))) U0 (Rt (by decide) (by decide))) U0 (V5 (by decide))) (Qa wZ) wZ) ?_;refine YI (WN wZ (U9 (U9 (UO wZ) U0 (HH (by decide) (by decide))) (Ky wZ (UO wZ) hix) (V5 (by lia))) wZ hlen wZ) (Zf ?_);exact⟨_,found++[_ % z],_,_,by rw[Qy];rfl,by rw[Qk,hf];rfl,En hfd (by rw[hf];exact hz) ⟨Int.emod_nonneg _ (by lia),Int.emod_lt_of_pos _ z1⟩⟩
theorem OB(c s:Int){sizes:w8}(hs:∀x∈sizes,0<x/\x<18446744073709551616)(hl:sizes.length<=1000) :
  ∃r,YR [.int c,.int s,.list (sizes.map int)]=O r/\∃ds:w8,r=.list (ds.map .int)/\ds.length=sizes.length/\∀(j:Nat) d z,ds[j]?=O d->sizes[j]?=O z->0<=d/\d<z:=by
 refine WD  rfl ?_;refine Kh (KM (Yg (UQ (UO wZ) (UQ (U9 (RI U0) (UO wZ) Xc) UX)) HG) (Qa wZ) wZ) ?_;refine Kh (KM (UO wZ) (Qa wZ) wZ) ?_;refine Kh (YJ (Tk UX (Qa wZ)) (Qa wZ) wZ) ?_;apply Za;apply ZR  (inv c s sizes _)
 case h1=>exact Wn (UQ (ZP wZ (by rw[Zy,Qb])) UX) (Wm (by lia) (by lia))
 case h0=>exact⟨_,[],w4,w4,rfl,rfl,λj d z e=>by cases e⟩
 case hst=>exact λi d Z e h=>jX hs hl e h
 case hend=>rintro Z ⟨left,found,x6,x7,rfl,hf,hfd⟩;rw[Y0]at hf;exact Zc (KB (YY rfl rfl) ⟨_,rfl,found,rfl,by lia,hfd⟩)
mutual
theorem Me:∀(d:PyData),d.canLay0=w5->UF d d=w5
 |.none,_=>rfl
 |.bool b,_=>by cases b<;>rfl
 |.int i,_=>by simp[UF]
 |.str s,_=>by simp[UF]
 |.list xs,h=>eqvAll_refl xs h
 |.tuple xs,h=>eqvAll_refl xs h
 |.dict _,h=>by cases h
theorem eqvAll_refl:∀(xs:List PyData),UD xs=w5->PyData.eqvAll xs xs=w5
 |[],_=>rfl
 |x::r,h=>by
  have h:(PyData.canLay0 x&&UD r)=w5:=h;rw[Jd]at h
  show(UF x x&&PyData.eqvAll r r)=w5
  rw[Me x h.1,eqvAll_refl r h.2];rfl
end
theorem Ta:∀{xs:w9},(∀x∈xs,PyData.canLay0 x=w5)->UD xs=w5
 |[],_=>rfl
 |x::r,h=>by
  show(PyData.canLay0 x&&UD r)=w5
  rw[h x Qj,Ta λy hy=>h y (Qi _ hy)];rfl
theorem Pi  : ∀{xs:w9},(∀x∈xs,UE x<=n)->PyData.depthAll xs<=n
 |[],_=>by simp[PyData.depthAll]
 |x::r,h=>by
  have h1:=h x Qj;have h2:=Pi  λy hy=>h y (Qi _ hy);simp only[PyData.depthAll]
  lia
noncomputable def Zn(r:w8):D:=.list (r.map int)
noncomputable def KR(rs:List w8):D:=.list (rs.map Zn)
noncomputable def Kp(cs:w8)(ls:List (List w8)):D:=.tuple [.list (cs.map int),.list (ls.map KR)]
structure V9(n:Nat)(rs:List w8):Prop where
 few:rs.length<=5
 some:∀r∈rs,r≠[]
 there:∀r∈rs,∀t∈r,0<=t/\t<n
 once:rs.flatten.Nodup
structure Good(cs:w8)(ls:List (List w8)):Prop where
 c1:1<=cs.length
 c6:cs.length<=6
 c7:∀c∈cs,0<=c/\c<8
 l1:1<=ls.length
 l7:ls.length<=7
 rk:∀rs∈ls,V9 cs.length rs
theorem Md(r):(Zn r).canLay0=w5:=Ta λx hx=>by obtain⟨y,_,rfl⟩:=Qn.mp hx;rfl
theorem LY(i:Int):(int i).depth<=1:=by simp[UE]
theorem RY  {xs:w9}(h:PyData.depthAll xs<=n):(Uz xs).depth<=n+1:=by simp only[UE];lia
theorem GH(r):(Zn r).depth<=2:=RY (Pi λx hx=>by obtain⟨y,_,rfl⟩:=Qn.mp hx;exact LY y)
theorem jW(i):VL [.int i]=O (.bool w5):=by refine KY  rfl ?_;exact KB (PY (KS (UO wZ)) (λ_=>BI (KS (UO wZ)))) wZ
theorem Ou  (h0:0<=i)(h1:i<m):ZY [.int i,.int m]=O (.bool w5):=by
 refine KY  rfl ?_;have hb:(decide (0<=i)&&decide (i<m))=w5:=by simp_all
 refine KB (PY   (Kj (UQ (UO wZ) UX) wZ (jW i)) (λ_=>?_)) wZ;rw[←hb];exact KS (NO U0 (UO wZ) wZ (λ_=>UO wZ) (λ_=>rfl))
theorem Ot{α:Type}(l:List α):YB [.list (l.map λ_=>.bool w5)]=O (.bool w5):=by
 have:(l.map λ_=>UA w5)=(l.map λ_=>w5).map UA:=by rw[Jb];rfl
 rw[this,HE];simp_all
theorem xQ{r:w8}{n:Int}(hne:r≠[])(hl:r.length<=1000)(h:∀t∈r,0<=t/\t<n):Wy [Zn r,.int n]=O (.bool w5):=by
 refine KY  rfl ?_;apply Za;have hlen:Kk [Zn r]=O (.int r.length):=by unfold Zn;rw[Zy,Qb]
 have hp:0<r.length:=List.length_pos_iff.mpr hne;apply KU
 case h1=>exact VU  (V2 (UO wZ) wZ) (U9 (ZP wZ hlen) U0 XI)
 case h2=>intro hh;lia
 case h3=>
  intro _;refine Ze (Zc ?_)
  have hc:Zb (gN 2) (UT w5) (UY 2 ZY (UP (UM 2) (UP (UM 1) (UN)))) (r.map int) (KD [pb (Zn r),pb (.int n)]++Uy 1 w4) []=O (r.map λ_=>.bool w5):=by
   rw[Pk (λ_=>w5) (λ_=>.bool w5) (λZ=>∃x,Z=[pb (Zn r),pb (.int n),x])]
   .rw[Jo.mpr (λ_ _=>rfl),QR,Jb];rfl
   .rintro d hm Z ⟨x,rfl⟩
    obtain⟨t,ht,rfl⟩:=Qn.mp hm;exact⟨_,UV (Qa wZ) wZ,rfl,λ_=>Kj (UQ (UO wZ) (UQ (UO wZ) UX)) wZ (Ou (h t ht).1 (h t ht).2),_,rfl⟩
   .exact⟨w4,rfl⟩
   .rw[Qb,Qx];lia
  exact KB (Yg (UQ (KS (ZC (Zv (UO wZ) wZ) hc)) UX) (Ot r)) wZ
theorem FO  (ha:X8 a=a)(hb:X8 b=b)(hc:X8 c=c)(hx:X8 x3=x3):∀(ds es:w9)(x4),es.length+ds.length<=1000000 ->
  ∃y,YZ (gN 4) (UT w5) (UM 4) ds [a,b,c,x3,x4] es=O (es++ds,[a,b,c,x3,y])
 |[],es,x4,_=>⟨x4,by rw[YZ,Jl]⟩
 |d::r,es,x4,h=>by
  rw[Qz]at h;obtain⟨y,e⟩:=FO ha hb hc hx r (es++[d]) _ (by rw[Qk,QU];lia);refine⟨y,?_⟩;rw[YZ];have h1:gN 4 d [a,b,c,x3,x4]=O [a,b,c,x3,pb d]:=UV (Qa wZ) wZ;rw[h1];dsimp only[UT];rw[Qp wZ];have h2:UM 4 [a,b,c,x3,pb d]=.ok d [a,b,c,x3,pb d]:=UO wZ;rw[h2];dsimp only;rw[Qp (by lia)];have h3:KD [a,b,c,x3,pb d]=[a,b,c,x3,pb d]:=by unfold KD;simp only[Qt,ha,hb,hc,hx];rfl
  rw[h3,e,Q6];rfl
theorem ET{a b:D}:∀(rs:List w8)(es:w9)(x3 x4:Option Sl),es.length+rs.flatten.length<=1000000 ->
  WF (gN 3) (UT w5) (KW (UM 3)) (gN 4) (UT w5) (UM 4) (rs.map Zn) [pb a,pb b,w4,x3,x4] es=O (es++rs.flatten.map int)
 |[],es,_,_,_=>by rw[List.map_nil,WF];simp
 |r::rs,es,x3,x4,h=>by rw[Jz,Qk]at h;rw[Qt,WF];have h1:gN 3 (Zn r) [pb a,pb b,w4,x3,x4]=O [pb a,pb b,w4,pb (Zn r),x4]:=UV (Qa wZ) wZ;rw[h1];dsimp only[UT];rw[Qp wZ];have h2:KW (UM 3) [pb a,pb b,w4,O _,x4]=.ok (r.map int) [pb a,pb b,w4,pb (Zn r),x4]:=Zv (UO wZ) wZ;rw[h2];dsimp only;have h3:KD [pb a,pb b,w4,pb (Zn r),x4]=[pb a,pb b,w4,O _,X8 x4]:=rfl;rw[h3];obtain⟨y,e⟩:=FO (a:=O (.pub a)) (b:=O (.pub b)) (c:=w4) (x3:=O (.pub (Zn r))) wZ wZ wZ wZ (r.map int) es (X8 x4) (by rw[Qb];lia);rw[e];dsimp only;have ih:=ET (a:=a) (b:=b) rs (es++r.map int) (O (.pub (Zn r))) y (by rw[Qk,Qb];lia);refine Eq.trans ih ?_;rw[Jz,Qy,Q6]
theorem Em  (h:ns.Nodup):RK ns=ns.length:=by
 have:∀i,i<=ns.length->(PyProof.Rows.firstMet (λi=>ns.getD i 0) i).length=i:=by
  intro i;induction i with
  |zero=>intro _;rfl
  |succ i ih=>
   intro hi;rw[PyProof.Rows.firstMet_succ]
   have hany:(PyProof.Rows.firstMet (λi=>ns.getD i 0) i).any (· == ns.getD i 0)=w6:=by
    rw[PyProof.Rows.firstMet_any,List.any_eq_false];intro x hx;obtain⟨j,hj,rfl⟩:=Qn.mp hx;have hj:=QZ.mp hj;intro e;have e   :=by simpa using e
    have l1:j<ns.length:=by lia
    have l2:i<ns.length:=by lia
    simp only[Qe l1,Qe l2]at e;exact absurd ((List.getElem_inj h).mp e) (by lia)
   unfold PyProof.Rows.step_dedup;rw[hany];rw[Qw (by decide),Qk,ih (by lia)];rfl
 exact this ns.length (Qv _)
theorem wv{rs:List w8}{n:Nat}(g:V9 n rs)(hn:n<=6)(hf:rs.flatten.length<=1000):VI [KR rs,.int n]=O (.bool w5):=by
 refine KY (Z:=[pb (KR rs),pb (.int n),w4]) wZ ?_;unfold Su;have hlen:Kk [KR rs]=O (.int rs.length):=by unfold KR;rw[Zy,Qb]
 have h5:=g.few;have yz:∀r∈rs,r.length<=1000:=λr hr=>QN (List.Sublist.length_le (List.sublist_flatten_of_mem hr)) hf;apply Za;apply KU
 case h1=>exact VU  (V2 (UO wZ) wZ) (U9 (ZP wZ hlen) U0 wZ)
 case h2=>intro hh;lia
 case h3=>
  intro _;refine Ze (Zc ?_)
  have hc:Zb (gN 3) (UT w5) (UY 2 Wy (UP (UM 3) (UP (UM 1) (UN)))) (rs.map Zn) (KD [pb (KR rs),pb (.int n),w4]++Uy 1 w4) []=O (rs.map λ_=>.bool w5):=by
   rw[Pk (λ_=>w5) (λ_=>.bool w5) (λZ=>∃x,Z=[pb (KR rs),pb (.int n),w4,x])]
   .rw[Jo.mpr (λ_ _=>rfl),QR,Jb];rfl
   .rintro d hm Z ⟨x,rfl⟩
    obtain⟨r,hr,rfl⟩:=Qn.mp hm;exact⟨_,UV (Qa wZ) wZ,rfl,λ_=>Kj (UQ (UO wZ) (UQ (UO wZ) UX)) wZ (xQ (g.some r hr) (yz r hr) (g.there r hr)),_,rfl⟩
   .exact⟨w4,rfl⟩
   .rw[Qb,Qx];lia
  apply Za;apply KU
  case h1=>exact XB (Wf (Yg (UQ (KS (ZC (Zv (UO wZ) wZ) hc)) UX) (Ot rs)))
  case h2=>intro hh;cases hh
  case h3=>
   intro _;refine Ze (Zc ?_);have h2:RN (KW (UM 0)) 2 (gN 3) (UT w5) (KW (UM 3)) (gN 4) (UT w5) (UM 4) [pb (KR rs),pb (.int n),w4]=.ok (rs.flatten.map int) [pb (KR rs),pb (.int n),w4]:=by unfold RN;have e1:KW (UM 0) [pb (KR rs),pb (.int n),w4]=.ok (rs.map Zn) [pb (KR rs),pb (.int n),w4]:=Zv (UO wZ) wZ;rw[e1];dsimp only;have e2:=ET (a:=KR rs) (b:=.int n) rs [] w4 w4 (by rw[Qx];lia);have e3:WF (gN 3) (UT w5) (KW (UM 3)) (gN 4) (UT w5) (UM 4) (rs.map Zn) (KD [pb (KR rs),pb (.int n),w4]++Uy 2 w4) []=O ([]++rs.flatten.map int):=e2;rw[e3];rfl
   refine Kh (YJ h2 (Qa wZ) wZ) ?_;have hls:WR [.list (rs.flatten.map int)]=O (.int rs.flatten.length):=by unfold WR;dsimp only;rw[Pd];dsimp only;rw[Qp (by lia),Em g.once]
   refine KB (KS (U9 (Yg (UQ (YY wZ wZ) UX) hls) (ZP wZ Zy) XI)) ?_;rw[Qb];simp
theorem Xa  : ∀{xs}{k i:Nat},(Yc k xs)[i]?=O d->∃x,xs[i]?=O x/\d=.tuple [.int ((k+i:Nat):Int),x]
 |[],k,i,h=>by cases h
 |x::r,k,0,h=>by cases h;exact⟨x,rfl,rfl⟩
 |x::r,k,i+1,h=>by obtain⟨y,e,q⟩:=Xa   (i:=i) h;exact⟨y,e,by rw[q];congr 4;lia⟩
theorem Rq:∀(n:Nat)(l:w8),l.Nodup->(∀x∈l,0<=x/\x<n)->l.length<=n
 |0,[],_,_=>Qv _
 |0,x::r,_,h=>by have:=h x Qj;lia
 |n+1,l,hn,h=>by
  by_cases hm:(n:Int)∈l
  .have:=Rq n (l.erase (n)) (hn.erase _) λx hx=>by
    have h1:=(List.Nodup.mem_erase_iff hn).mp hx;have h2:=h x h1.2
    lia
   simp_all
  .have:=Rq n l hn λx hx=>by
    have h2:=h x hx;have h3:x≠(n):=λe=>hm (e ▸ hx)
    lia
   lia
theorem Oc   (g:V9 n rs):rs.flatten.length<=n:=Rq n _ g.once λx hx=>by obtain⟨r,hr,hxr⟩:=List.mem_flatten.mp hx;exact g.there r hr x hxr
theorem jV{cs:w8}(h1:1<=cs.length)(h6:cs.length<=6)(h:∀c∈cs,0<=c/\c<8):VJ [.list (cs.map int)]=O .none:=by
 refine RU  rfl ?_;unfold Sv;have hlen:Kk [.list (cs.map int)]=O (.int cs.length):=by rw[Zy,Qb]
 apply Za;apply KU
 case h1=>exact VU  (V2 (UO wZ) wZ) (XB (NO U0 (ZP wZ hlen) wZ (λ_=>U0) (λ_=>rfl)))
 case h2=>
  intro hh;have a1:(1:Int)<=(cs.length:Int):=by lia
  have a2:(cs.length:Int)<=6:=by lia
  simp[a1,a2]at hh
 case h3=>
  intro _;refine Ze (Zc ?_);apply ZR (λ_ Z=>∃x1 x2,Z=[O _,x1,x2])
  case h1=>exact XJ (UQ (UO wZ) UX) XG
  case h0=>exact⟨_,_,rfl⟩
  case hst=>
   rintro i d Z hi ⟨x1,x2,rfl⟩;obtain⟨x,hx,rfl⟩:=Xa hi;obtain⟨c,hc,rfl⟩:=Qn.mp (Qs hx);refine⟨_,Kq wZ (UZ (UV (Qa wZ) wZ) (UZ (UV (Qa wZ) wZ) Kr)),?_⟩;unfold Hh;apply KU
   case h1=>exact XB (Wf (Kj (UQ (UO wZ) (UQ (U9 U0 U0 Zj) UX)) wZ (Ou (h c hc).1 (by have:=(h c hc).2;lia))))
   case h2=>intro hh;cases hh
   case h3=>exact λ_=>Ze (Zf ⟨_,_,rfl⟩)
  case hend=>exact λZ ⟨x1,x2,e⟩=>⟨_,rfl⟩
theorem qg{ls:List (List w8)}{n:Nat}(hn:n<=6)(h1:1<=ls.length)(h7:ls.length<=7)(h:∀rs∈ls,V9 n rs):VH [.list (ls.map KR),.int n]=O .none:=by
 refine RU  rfl ?_;unfold Ss;have hlen:Kk [.list (ls.map KR)]=O (.int ls.length):=by rw[Zy,Qb]
 apply Za;apply KU
 case h1=>exact VU  (V2 (UO wZ) wZ) (XB (NO U0 (ZP wZ hlen) wZ (λ_=>U0) (λ_=>rfl)))
 case h2=>
  intro hh;have a1:(1:Int)<=(ls.length:Int):=by lia
  have a2:(ls.length:Int)<=7:=by lia
  simp[a1,a2]at hh
 case h3=>
  intro _;refine Ze (Zc ?_);apply ZR (λ_ Z=>∃x2 x3,Z=[O _,pb (.int n),x2,x3])
  case h1=>exact XJ (UQ (UO wZ) UX) XG
  case h0=>exact⟨_,_,rfl⟩
  case hst=>
   rintro i d Z hi ⟨x1,x2,rfl⟩;obtain⟨x,hx,rfl⟩:=Xa hi;obtain⟨rs,hrs,rfl⟩:=Qn.mp (Qs hx);refine⟨_,Kq wZ (UZ (UV (Qa wZ) wZ) (UZ (UV (Qa wZ) wZ) Kr)),?_⟩;have hfl:=Oc (h rs hrs);apply KU
   case h1=>exact XB (Wf (Kj (UQ (UO wZ) (UQ (UO wZ) UX)) wZ (wv (h rs hrs) hn (by lia))))
   case h2=>intro hh;cases hh
   case h3=>exact λ_=>Ze (Zf ⟨_,_,rfl⟩)
  case hend=>exact λZ ⟨x1,x2,e⟩=>⟨_,rfl⟩
theorem Ph  {ls}(g:Good cs ls):Yb [Kp cs ls]=O .none:=by
 refine RU  rfl ?_;apply Za;apply KU
 case h1=>exact VU  (V2 (UO wZ) wZ) (U9 (ZP wZ wZ) U0 PX)
 case h2=>intro hh;cases hh
 case h3=>
  intro _;refine Ze (Zc ?_);have hlen:Kk [.list (cs.map int)]=O (.int (cs.length:Nat)):=by rw[Zy,Qb]
  refine Kh (XA (UO wZ) (Kq wZ (UZ (UV (Qa wZ) wZ) (UZ (UV (Qa wZ) wZ) Kr)))) ?_;refine Kh (WH (Kj (UQ (UO wZ) UX) wZ (jV g.c1 g.c6 g.c7))) ?_;exact YI (WH (Kj (UQ (UO wZ) (UQ (ZP wZ hlen) UX)) wZ (qg g.c6 g.l1 g.l7 g.rk))) ⟨_,rfl⟩
theorem GF:∀(xs ys:w8),PyData.eqvAll (xs.map int) (ys.map int)=decide (xs=ys)
 |[],[]=>rfl
 |[],y::ys=>by simp[PyData.eqvAll]
 |x::xs,[]=>by simp[PyData.eqvAll]
 |x::xs,y::ys=>by
  have ih:=GF xs ys
  show(UF _ _&&PyData.eqvAll _ _)=_
  have:UF (.int x) (.int y)=decide _:=rfl;simp_all
theorem km  : oNe (.list (xs.map int)) (.list [])=O (!decide (xs=[])):=by
 unfold oNe;have h1   :=Md xs;have h3:(Uz (xs.map int)).depth<=60:=by have:=GH xs;unfold Zn at this;lia
 rw[Qp ⟨h1,rfl,h3⟩]
 congr 2
 exact GF xs []
theorem Hv{xs:w9}{x}(h:xs.getLast?=O x):oIx (.list xs) (.int (-1))=O x:=by
 have hl:xs≠[]:=by rintro rfl;cases h
 have hp   :=List.length_pos_iff.mpr hl;rw[List.getLast?_eq_getElem?]at h
 show(ixN xs.length _).bind _=_
 unfold ixN;rw[Qw (by decide),Qp (by lia)];have e2:(-1+(xs.length:Int)).toNat=xs.length-1:=by lia
 rw[e2];exact h
theorem NA{xs:w8}{k}(h:k<xs.length):oIx (.list (xs.map int)) (.int k)=O (.int (xs.getD k 0)):=by refine K0 ?_;simp[List.getD,List.getElem?_eq_getElem h]
theorem MK(ns:w8)(k:Nat)(hl:ns.length<=1000):∃v,Xj [.list (ns.map int),.int k]=O (.int v):=by
 have hlen:Kk [.list (ns.map int)]=O (.int ns.length):=by rw[Zy,Qb]
 by_cases h:k<ns.length
 .refine⟨ns.getD k 0,KY  rfl ?_⟩
  apply Za;apply KU
  case h1=>exact Ye wZ (ZP wZ hlen) wZ
  case h2=>exact λ_=>KB (Ky wZ (UO wZ) (NA h)) (V3 wZ)
  case h3=>lia
 .refine⟨0,KY  rfl ?_⟩
  apply Za;apply KU
  case h1=>exact Ye wZ (ZP wZ hlen) wZ
  case h2=>lia
  case h3=>exact λ_=>Ze (Zc (KB U0 wZ))
noncomputable def tab:w8:=[1,1,2,0,3,7,1,4,5,6,1]
theorem Lk  (h0:0<=z)(h1:z<11):oIx (.list (tab.map int)) (.int z)=O (.int (tab.getD z.toNat 0))/\0<=tab.getD z.toNat 0/\tab.getD z.toNat 0<8:=by
 have e:z=0∨z=1∨z=2∨z=3∨z=4∨z=5∨z=6∨z=7∨z=8∨z=9∨z=10:=by lia
 rcases e with rfl|rfl|rfl|rfl|rfl|rfl|rfl|rfl|rfl|rfl|rfl<;>exact⟨rfl,by decide,by decide⟩
structure Ti(n:Nat)(pl:w8)(j:Nat)(rs:List w8):Prop where
 few:rs.length<=j
 some:∀r∈rs,r≠[]
 there:∀r∈rs,∀t∈r,(0<=t/\t<n)/\pl.getD t.toNat 0<1+(j:Int)
 once:rs.flatten.Nodup
noncomputable def SF(n:Nat)(pl:w8)(r:Int):w8:=((Ux n).filter λk=>decide (pl.getD k 0=r)).map λk:Nat=>(k:Int)
theorem wu(n)(pl)(r):(SF n pl r).Nodup:=by refine List.Pairwise.map _ (λa b h e=>h (by lia)) ((List.nodup_range).filter _)
theorem FN    (h:t∈SF n pl r):(0<=t/\t<n)/\pl.getD t.toNat 0=r:=by obtain⟨k,hk,rfl⟩:=Qn.mp h;simp_all
theorem Ti.add{n:Nat}{pl:w8}{j:Nat}{rs}{row}(g:Ti n pl j rs)(hne:row≠[])(hm:∀t∈row,t∈SF n pl (1+(j:Int)))(hn:row.Nodup):Ti n pl (j+1) (rs++[row]) where
 few:=by rw[Qk,QU];have:=g.few;lia
 some:=λr hr=>by
  rcases QI.mp hr with z|z
  .exact g.some r z
  .rw[Qu.mp z];exact hne
 there:=λr hr t ht=>by
  rcases QI.mp hr with z|z
  .have:=g.there r z t ht;exact⟨this.1,by lia⟩
  .rw[Qu.mp z]at ht
   have:=FN (hm t ht);exact⟨this.1,by lia⟩
 once:=by
  rw[List.flatten_append,List.flatten_singleton];refine List.nodup_append.mpr ⟨g.once,hn,λa ha b hb e=>?_⟩;subst e;obtain⟨r,hr,har⟩:=List.mem_flatten.mp ha;have h1:=(g.there r hr a har).2;have h2:=(FN (hm a hb)).2
  lia
theorem Ti.next    {rs}(g:Ti n pl j rs):Ti n pl (j+1) rs:=
 ⟨by have:=g.few;lia,g.some,λr hr t ht=>⟨(g.there r hr t ht).1,by have:=(g.there r hr t ht).2;lia⟩,g.once⟩
theorem P4{x:D}{m:Nat}(h:m<=1000):KF (.list [x]) (.int m)=O (.list (Uy m x)):=by rw[Eu ⟨by lia,by lia,by show 1*m<=_;lia⟩];simp_all
noncomputable def szG(T A:Nat):w8:=(T:Int)::(A:Int)::Uy T 11
noncomputable def YM(T R:Nat):w8:=Uy T ((R:Int)+1)++[2]
theorem Hu{T A:Nat}:(szG T A).length=T+2:=by unfold szG;simp
theorem GE{T R:Nat}:(YM T R).length=T+1:=by unfold YM;simp
theorem Cs  (h1:1<=T)(h2:T<=6)(h3:1<=A)(h4:A<=7):∀x∈szG T A,0<x/\x<18446744073709551616:=λx hx=>by
 unfold szG at hx
 grind
theorem B6{T R}(h:R<=5):∀x∈YM T R,0<x/\x<18446744073709551616:=λx hx=>by unfold YM at hx;simp only[List.mem_append,List.mem_singleton,List.mem_replicate]at hx;rcases hx with ⟨_,rfl⟩|rfl<;>lia
theorem kj{T R:Nat}:(YM T R)[T]?=O 2:=by unfold YM;simp
theorem Cr{T A k}(h:k<T):(szG T A)[2+k]?=O 11:=by unfold szG;rw[show 2+k=k+1+1 by lia,JZ,JZ,QB,Qp h]
def OK(T A R:Nat)(S dz:D)(at_ n:Nat)(cs pl:w8)(ls:List (List w8))(x9 yL:Option Sl)(j:Nat)(Z:US):Prop:=∃(rs:List w8)(zC yK:Option Sl),
 Z=[pb S,pb (.int at_),pb (.int (T:Nat)),pb (.int (A:Nat)),pb (.int (R:Nat)),pb dz,O (.own (cs.map int)),O (.own (ls.map KR)),x9,yL,pb (.list (pl.map int)),O (.own (rs.map Zn)),zC,yK]/\Ti n pl j rs
theorem xP{T A R:Nat}{S dz:D}{at_ n:Nat}{cs pl:w8}{ls:List (List w8)}{v9 v10:D}{j:Nat}{d:D}{Z:US}{Q:Out->Prop}(hcs:cs.length=n)(hT:T<=6)(hR:R<=5)(hn:n<=T)(hpl:pl.length=T+1)(yq:pl.getD T 0=0∨pl.getD T 0=1)
  (hj:(Yt 1 ((R:Int)+1))[j]?=O d) (h:OK T A R S dz at_ n cs pl ls (O (.pub v9)) (O (.pub v10)) j Z) :
  ∃Z2,gN 12 d Z=O Z2/\Ho NC Z2 (SS (OK T A R S dz at_ n cs pl ls (O (.pub v9)) (O (.pub v10)) (j+1)) Q):=by
 obtain⟨rs,zC,yK,rfl,g⟩:=h;obtain⟨rfl,hlt⟩:=Wo hj;have hj5:j<R:=by lia
 refine⟨_,UV (Qa wZ) wZ,?_⟩;unfold NC
 have hrd:Yt 0 ((n:Nat):Int)=(Ux n).map λk=>.int (k:Int):=by
  unfold Yt;have:((n:Int)-0).toNat=n:=by lia
  rw[this];apply JC;intro k _;rw[JG]
 have hc:Zb (gN 14) (UR oEq (U1 10 (UM 14)) (UM 12)) (UM 14) (Yt 0 ((n:Nat):Int)) (KD [pb S,pb (.int at_),pb (.int (T:Nat)),pb (.int (A:Nat)),pb (.int (R:Nat)),pb dz,O (.own (cs.map int)),O (.own (ls.map KR)),pb v9,pb v10,pb (.list (pl.map int)),O (.own (rs.map Zn)),pb (.int (1+(j:Int))),yK]++Uy 1 w4) []=O ((SF n pl (1+(j:Int))).map int):=by
  rw[hrd,Pk (λd=>match d with | .int k=>decide (pl.getD k.toNat 0=1+(j:Int))|_=>w6) (λd=>d) (λZ=>∃x,Z=[pb S,pb (.int at_),pb (.int (T:Nat)),pb (.int (A:Nat)),pb (.int (R:Nat)),pb dz,w4,w4,pb v9,pb v10,pb (.list (pl.map int)),w4,pb (.int (1+(j:Int))),X8 yK,x])]
  .rw[QR,List.map_id',List.filter_map]
   unfold SF;rw[Jb];rfl
  .rintro d hm Z ⟨x,rfl⟩
   obtain⟨k,hk,rfl⟩:=Qn.mp hm;have hk:=QZ.mp hk;refine⟨_,UV (Qa wZ) wZ,U9 (Ky wZ (UO wZ) (NA (by lia))) (UO wZ) XI,λ_=>UO wZ,pb (.int k),?_⟩;unfold KD;cases yK with
   |none=>rfl
   |some sl=>cases sl<;>rfl
  .exact⟨w4,rfl⟩
  .rw[Qb,Qo,Qx];lia
 have hlen:(cs.map int).length=n:=by rw[Qb,hcs]
 refine Kh (YJ (ZC (Wn (UQ (HI wZ) UX) (by rw[hlen];exact Wm (by lia) (by lia))) hc) (Qa wZ) wZ) ?_;generalize zT:SF n pl (1+(j:Int))=row;apply KU
 case h1=>exact NM wZ (Zz UX (by decide)) wZ km
 case h2=>
  intro hh;have hne:row≠[]:=by simpa using hh
  have hlx:oIx (.list (pl.map int)) (.int (-1))=O (.int (pl.getD T 0)):=Hv (by rw[List.getLast?_eq_getElem?,Qb,hpl,Qd,Nat.add_sub_cancel];simp[List.getD,List.getElem?_eq_getElem (show T<pl.length by lia)])
  obtain⟨yD,hix,yE⟩:∃yD:w8,oIx (.list [.list (row.map int),.list (row.map int).reverse]) (.int (pl.getD T 0))=O (Zn yD)/\(yD=row∨yD=row.reverse):=by
   rcases yq with e|e
   .rw[e];exact⟨row,rfl,.inl wZ⟩
   .rw[e];exact⟨row.reverse,by show O (Uz (row.map int).reverse)=_;unfold Zn;rw[List.map_reverse],.inr wZ⟩
  have yz:(rs.map Zn).length<1000000:=by rw[Qb];have:=g.few;lia
  refine YI (WN wZ (U9 (Zz (UQ (YY wZ wZ) (UQ (DU (UO wZ) U0 U0 (Y8 (RI U0))) UX)) (Qa wZ)) (Ky wZ (RI U0) hlx) hix) wZ yz wZ) ?_;refine Zf ⟨rs++[yD],pb (.int (1+(j:Int))),pb (.list (row.map int)),by rw[Qy];rfl,g.add ?_ ?_ ?_⟩
  .rcases yE with e|e<;>rw[e]
   .exact hne
   .exact λz=>hne (List.reverse_eq_nil_iff.mp z)
  .intro t ht
   rw[zT];rcases yE with e|e<;>rw[e]at ht
   .exact ht
   .exact List.mem_reverse.mp ht
  .have hnd:=wu n pl (1+(j:Int))
   rw[zT]at hnd;rcases yE with e|e<;>rw[e]
   .exact hnd
   .exact(List.reverse_perm row).nodup_iff.mpr hnd
 case h3=>exact λ_=>Ze (Zf ⟨rs,_,_,rfl,g.next⟩)
def OJ(T A R:Nat)(S dz:D)(at_ n:Nat)(cs:w8)(i:Nat)(Z:US):Prop:=∃(ls:List (List w8))(x9 yL yI x12 zC yK:Option Sl),
 Z=[pb S,pb (.int at_),pb (.int (T:Nat)),pb (.int (A:Nat)),pb (.int (R:Nat)),pb dz,O (.own (cs.map int)),O (.own (ls.map KR)),x9,yL,yI,x12,zC,yK]/\ls.length=i/\∀rs∈ls,V9 n rs/\rs.length<=R
theorem wt{T A R:Nat}{ns:w8}{dz:D}{at_ n:Nat}{cs:w8}{i:Nat}{m:Int}{d:D}{Z:US}{Q:Out->Prop}(hns:ns.length<=1000)(hT:T<=6)(hR:R<=5)(hcs:cs.length=n)(hn:n<=T)(hm:m<=100)
  (hi:(Yt 0 m)[i]?=O d) (h:OJ T A R (.list (ns.map int)) dz at_ n cs i Z) :
  ∃Z2,gN 8 d Z=O Z2/\Ho NB Z2 (SS (OJ T A R (.list (ns.map int)) dz at_ n cs (i+1)) Q):=by
 obtain⟨ls,x9,yL,yI,x12,zC,yK,rfl,hl,hg⟩:=h;obtain⟨rfl,hlt⟩:=Wo hi;refine⟨_,UV (Qa wZ) wZ,?_⟩;unfold NB;obtain⟨v,hv⟩:=MK ns (at_+1+i) hns;have ev:((at_:Int)+1+(0+(i:Int)))=((at_+1+i:Nat):Int):=by lia
 rw[←ev]at hv;refine Kh (KM (Kj (UQ (UO wZ) (UQ (U9 (U9 (UO wZ) U0 Zj) (UO wZ) Zj) UX)) wZ hv) (Qa wZ) wZ) ?_;obtain⟨r,hF,pl,rfl,hpl,hpb⟩:=OB v (11*(at_:Int)+3*(0+(i:Int))+1) (sizes:=YM T R) (B6 hR) (by rw[GE];lia);have hpl7:pl.length=T+1:=by rw[hpl,GE]
 have hmul:KF (.list [.int ((R:Int)+1)]) (.int (T:Nat))=O _:=P4 (by lia);have hadd:U8 (.list (Uy T (.int ((R:Int)+1)))) (.list [.int 2])=O (.list ((YM T R).map int)):=by rw[XH (by rw[QF];show T+1<=_;lia)];unfold YM;rw[Qy,JP];rfl
 refine Kh (KM (Kj (UQ (UO wZ) (UQ (U9 (U9 (U9 U0 (UO wZ) (V4 (by decide) (by decide))) (U9 U0 (UO wZ) (V4 (by decide) (by decide))) Zj) U0 Zj) (UQ (U9 (U9 (Zz (UQ (U9 (UO wZ) U0 Zj) UX) (Qa wZ)) (UO wZ) hmul) (Zz (UQ U0 UX) (Qa wZ)) hadd) UX))) wZ hF) (Qa wZ) wZ) ?_;refine Kh (YJ (Tk UX (Qa wZ)) (Qa wZ) wZ) ?_
 have yq:pl.getD T 0=0∨pl.getD T 0=1:=by
  have e:pl[T]?=O pl[T]:=Qe (by lia);have:=hpb T pl[T] 2 e kj;have e2:pl.getD T 0=pl[T]:=by simp[List.getD,e]
  rw[e2];lia
 apply Za;apply ZR (OK T A R (.list (ns.map int)) dz at_ n cs pl ls (O (.pub (.int (0+(i:Int))))) (O (.pub (.int v))))
 case h1=>exact Np (UQ U0 (UQ (U9 (UO wZ) U0 Zj) UX)) (NN (by lia) (by lia) (by decide) (by decide))
 case h0=>exact⟨[],zC,yK,rfl,⟨Qv _,λ_ h=>(by cases h),λ_ h=>(by cases h),List.nodup_nil⟩⟩
 case hst=>exact λj d Z e h=>xP hcs hT hR hn hpl7 yq e h
 case hend=>
  rintro Z ⟨rs,y13,y14,rfl,g⟩;refine Zc ?_;have hl5:(Yt 1 ((R:Int)+1)).length=R:=by rw[Y0];lia
  rw[hl5]at g;have yp:(ls.map KR).length<1000000:=by rw[Qb];lia
  refine YI (WN wZ (YY wZ wZ) wZ yp wZ) ?_;refine Zf ⟨ls++[rs],pb (.int (0+(i:Int))),pb (.int v),pb (.list (pl.map int)),pb (.list (rs.map Zn)),y13,y14,by rw[Qy];rfl,by rw[Qk,hl];rfl,λx hx=>?_⟩;rcases QI.mp hx with z|z
  .exact hg x z
  .rw[Qu.mp z];exact⟨⟨by have:=g.few;lia,g.some,λr hr t ht=>(g.there r hr t ht).1,g.once⟩,g.few⟩
theorem wD(T A R:Nat){ns:w8}(hns:ns.length<=1000)(at_:Nat)(hT1:1<=T:=by decide)(hT:T<=6:=by decide)(hA1:1<=A:=by decide)(hA:A<=7:=by decide)(hR:R<=5:=by decide):∃r,Vh [.list (ns.map int),.int at_,.int (T:Nat),.int (A:Nat),.int (R:Nat)]=O r/\∃cs ls,r=Kp cs ls/\Good cs ls/\cs.length<=T/\ls.length<=A/\∀rs∈ls,rs.length<=R:=by
 obtain⟨v,hv⟩:=MK ns at_ hns;obtain⟨r,hF,ds,rfl,hl,hd⟩:=OB v at_ (sizes:=szG T A) (Cs hT1 hT hA1 hA) (by rw[Hu];lia);have hl8:ds.length=T+2:=by rw[hl,Hu]
 have at':∀(j:Nat)(k z:Int),k=j->(szG T A)[j]?=O z->∃d,oIx (.list (ds.map int)) (.int k)=O (.int d)/\ds[j]?=O d/\0<=d/\d<z:=λj k z hk hz=>by
  subst hk;have hj:j<ds.length:=by rw[hl];exact(Qg.mp hz).1
  have e:ds[j]?=O ds[j]:=Qe hj;obtain⟨p0,p1⟩:=hd j ds[j] z e hz;exact⟨ds[j],K0 (by rw[Qd,e];rfl),e,p0,p1⟩
 obtain⟨d0,x0,e0,p0,q0⟩:=at' 0 0 T wZ wZ;obtain⟨d1,x1,e1,p1,q1⟩:=at' 1 1 A wZ wZ;have hmul:KF (.list [.int 11]) (.int (T:Nat))=O (.list (Uy T (.int 11))):=P4 (by lia);have hadd:U8 (.list [.int (T:Nat),.int (A:Nat)]) (.list (Uy T (.int 11)))=O (.list ((szG T A).map int)):=by rw[XH (by rw[QF];show 2+T<=_;lia)];unfold szG;rw[Qt,Qt,JP];rfl
 obtain⟨n,hn⟩:∃n:Nat,1+d0=n:=⟨(1+d0).toNat,by lia⟩
 refine WD  rfl ?_;unfold TF;refine Kh (KM (Kj (UQ (Kj (UQ (UO wZ) (UQ (UO wZ) UX)) wZ hv) (UQ (UO wZ) (UQ (U9 (Zz (UQ (UO wZ) (UQ (UO wZ) UX)) (Qa wZ)) (U9 (Zz (UQ U0 UX) (Qa wZ)) (UO wZ) hmul) hadd) UX))) wZ hF) (Qa wZ) wZ) ?_
 have yv:DL.cutD (ds.map int) (O 2) (O (3+d0))=((ds.drop 2).take n).map int:=by
  rw[NL (by decide) (by lia) (by lia)];have:(3+d0).toNat-(2:Int).toNat=n:=by lia
  rw[this];rfl
 have yV:((ds.drop 2).take n).length=n:=by rw[Q2,Jm,hl8];lia
 have each:∀z∈(ds.drop 2).take n,0<=z/\z<11:=λz hz=>by
  have hz:=Uc hz;obtain⟨k,hk,e⟩:=List.getElem_of_mem hz;rw[Jm,hl8]at hk;rw[List.getElem_drop]at e;have e2:ds[2+k]?=O z:=by rw[←e];exact Qe _
  refine hd (2+k) z 11 e2 (Cr ?_)
  lia
 let cs:w8:=((ds.drop 2).take n).map λz=>tab.getD z.toNat 0
 have hcl:cs.length=n:=by show(List.map _ _).length=n;rw[Qb,yV]
 have hc:∀xs:List (Option Sl),KD xs=xs->xs.length=14->Zb (gN 14) (UT w5) (UR oIx (Ks (UP (UT (.int 1)) (UP (UT (.int 1)) (UP (UT (.int 2)) (UP (UT (.int 0)) (UP (UT (.int 3)) (UP (UT (.int 7)) (UP (UT (.int 1)) (UP (UT (.int 4)) (UP (UT (.int 5)) (UP (UT (.int 6)) (UP (UT (.int 1)) (UN))))))))))))) (UM 14)) (((ds.drop 2).take n).map int) (KD xs++Uy 1 w4) []=O (cs.map int):=by
  intro xs hx hxl;rw[hx,Pk (λ_=>w5) (λd=>match d with | .int z=>.int (tab.getD z.toNat 0)|_=>.none) (λZ=>∃x,Z=xs++[x])]
  .rw[Jo.mpr (λ_ _=>rfl),QR,Jb]
   show _=O ((((ds.drop 2).take n).map λz=>tab.getD z.toNat 0).map int);rw[Jb];rfl
  .rintro d hm Z ⟨x,rfl⟩
   obtain⟨z,hz,rfl⟩:=Qn.mp hm;have ht:=Lk (each z hz).1 (each z hz).2;have hset:(xs++[x]).set 14 (O (Sl.pub (.int z)))=xs++[pb (.int z)]:=by rw[List.set_append_right _ _ (by lia),hxl];rfl
   have hget:(xs++[O (Sl.pub (.int z))])[14]?=O (O (Sl.pub (.int z))):=by rw[QC (by lia),hxl];rfl
   refine⟨_,UV (by rw[Qk,hxl];exact Qa wZ) hset,rfl,λ_=>?_,pb (.int z),?_⟩
   .exact U9 (Zz (UQ U0 (UQ U0 (UQ U0 (UQ U0 (UQ U0 (UQ U0 (UQ U0 (UQ U0 (UQ U0 (UQ U0 (UQ U0 UX))))))))))) (Qa wZ)) (UO hget) ht.1
   .unfold KD at hx⊢
    rw[Qy,hx];rfl
  .exact⟨w4,rfl⟩
  .rw[Qb,yV,Qx];lia
 refine Kh (YJ (ZC (Zv (WC (UO wZ) (Y8 U0) (Y8 (U9 U0 (Ky wZ U0 x0) Zj)) (by rw[V1,yv])) ZK) (hc _ wZ wZ)) (Qa wZ) wZ) ?_;refine Kh (YJ (Tk UX (Qa wZ)) (Qa wZ) wZ) ?_;apply Za;apply ZR (OJ T A R (.list (ns.map int)) (.list (ds.map int)) at_ n cs)
 case h1=>exact Wn (UQ (U9 U0 (Ky wZ U0 x1) Zj) UX) (Wm (by lia) (by lia))
 case h0=>exact⟨[],_,_,_,_,_,_,rfl,rfl,λ_ h=>by cases h⟩
 case hst=>exact λi d Z e h=>wt hns hT hR hcl (by lia) (by lia) e h
 case hend=>rintro Z ⟨ls,y9,y10,y11,y12,y13,y14,rfl,yp,hg⟩;rw[Y0]at yp;refine Zc (KB (Yi (UQ (YY rfl rfl) (UQ (YY rfl rfl) UX)) (Qa rfl)) ⟨_,rfl,cs,ls,rfl,⟨?_,by lia,by lia,λrs hrs=>(hg rs hrs).2⟩⟩);exact⟨by lia,by lia,λc hc=>by obtain⟨z,hz,rfl⟩:=Qn.mp hc;exact(Lk (each z hz).1 (each z hz).2).2,by lia,by lia,λrs hrs=>by rw[hcl];exact(hg rs hrs).1⟩
noncomputable def KP(t:Int)(rs:List w8):Nat:=if rs.findIdx (λr=>r.contains t)<rs.length then rs.findIdx (λr=>r.contains t)+1 else 0
theorem Nm(t)(r):oIn (.int t) (Zn r)=O (r.contains t):=by
 have h1:UD (r.map int)=w5:=by
  induction r with
  |nil=>rfl
  |cons x r ih=>rw[Qt];unfold UD;rw[ih];rfl
 unfold oIn Zn;dsimp only;rw[Qp ⟨rfl,h1,JM _⟩]
 congr 1
 rw[List.any_map];clear h1;induction r with
 |nil=>rfl
 |cons x r ih=>
  rw[List.any_cons]
  congr 1
  exact Jr.2 ⟨λh=>beq_iff_eq.2 (beq_iff_eq.1 h).symm,λh=>beq_iff_eq.2 (beq_iff_eq.1 h).symm⟩
theorem FM  {rs}{i}{r}(hr:rs[i]?=O r)(h:r.contains t=w5)(hb:∀j r,j<i->rs[j]?=O r->r.contains t=w6):KP t rs=1+i:=by obtain⟨hi,e⟩:=List.getElem?_eq_some_iff.1 hr;have hf   :=(List.findIdx_eq hi).2 ⟨by rw[e];exact h,λj hj=>hb j _ hj (Qe _)⟩;unfold KP;rw[hf,Qp hi,Nat.add_comm]
theorem FL  {rs}(hb:∀j r,j<rs.length->rs[j]?=O r->r.contains t=w6):KP t rs=0:=by
 have hf   :=List.findIdx_eq_length.2 λr hr=>by obtain⟨j,hj,e⟩:=List.mem_iff_getElem.1 hr;exact hb j r hj (by simp_all)
 unfold KP;rw[hf,Qw (Jv _)]
theorem El(t:Int)(rs):YS [KR rs,.int t]=O (.int (KP t rs:Nat)):=by
 refine KY  rfl ?_;apply Za;apply ZR (λi Z=>(∃x2 x3,Z=[O _,pb (.int t),x2,x3])/\∀j r,j<i->rs[j]?=O r->r.contains t=w6)
 case h1=>exact GO (UQ (UO wZ) UX) FZ
 case h0=>exact⟨⟨_,_,rfl⟩,λj r h=>absurd h (JS _)⟩
 case hst=>
  rintro i d Z hi ⟨⟨x2,x3,rfl⟩,hb⟩;obtain⟨x,hx,rfl⟩:=Xa hi;rw[Qd]at hx;cases hr:rs[i]? with
  |none=>rw[hr]at hx;cases hx
  |some r=>
   rw[hr]at hx;cases hx;refine⟨_,Kq wZ (UZ (UV (Qa wZ) wZ) (UZ (UV (Qa wZ) wZ) Kr)),?_⟩;apply KU
   case h1=>exact Ye wZ (UO wZ) (Nm t r)
   case h2=>intro hh;refine KB (UO wZ) (Pc ?_);rw[FM hr hh hb];exact⟨rfl⟩
   case h3=>
    intro hh;refine Ze (Zf ⟨⟨_,_,rfl⟩,λj r' hj hr'=>?_⟩);rcases Nat.lt_succ_iff_lt_or_eq.1 hj with h|rfl
    .exact hb j r' h hr'
    .rw[hr]at hr';cases hr';exact hh
 case hend=>rintro Z ⟨⟨x2,x3,rfl⟩,hb⟩;rw[YH,Qb]at hb;refine Zc ?_;rw[FL hb];exact KB U0 rfl
noncomputable def Kn:yd->D
 |none=>.none
 |some t=>.int t
noncomputable def Kl(ws:LO):D:=.list (ws.map Kn)
structure Deal(cs:w8)(ls:List (List w8))(ws:LO):Prop where
 len:ws.length=ls.length
 wish:∀(i:Nat) t rs,ws[i]?=O (O t)->ls[i]?=O rs->t∈rs.flatten
 cop:∀(k:Nat) c,cs[k]?=O c->((ws.count (O (k:Int)):Nat):Int)<=c
theorem OD   (h:t∈rs.flatten):KP t rs≠0:=by unfold KP;simp_all
theorem Mc(ws:LO):UD (ws.map Kn)=w5:=Ta λx hx=>by obtain⟨y,_,rfl⟩:=Qn.mp hx;cases y<;>rfl
theorem Nl(a b):UF (Kn a) (Kn b)=decide (a=b):=by rw[Jr];cases a<;>cases b<;>simp[Kn,UF]
theorem Ek   : WQ (Kl ws) (.int k)=O (.int (ws.count (O k):Nat)):=by
 unfold Kl WQ;dsimp only;rw[if_pos ⟨rfl,Mc ws,by simp[UE]⟩]
 congr 3
 induction ws with
 |nil=>rfl
 |cons w r ih=>rw[Qt,List.countP_cons,JT,ih];have:=Nl w (O k);have e:Kn (O k)=.int k:=rfl;simp_all
theorem qf   {s}{t}{g}{Z Z1}{ds es}(h1:f Z=.ok ds Z1)(h2:Zb s t g ds (ZZ Z1++Uy k w4) []=O es)(h3:es.all flat=w5):RO f k s t g Z=.ok es Z1:=by unfold RO;rw[h1];dsimp only;rw[h2];dsimp only;rw[if_pos h3]
theorem ki  {ls}{rs}{i:Nat}(hi:ls[i]?=O rs)(hl:rs.flatten.length<64):Vf [Kp cs ls,.int i]=O (.list ((YE rs.flatten).map int)):=by
 refine KY  rfl ?_;have i1:oIx (Kp cs ls) (.int 1)=O _:=K0 (j:=1) wZ;have i2:oIx (.list (ls.map KR)) (.int i)=O (KR rs):=K0 (by rw[Qd,hi];rfl)
 have hs:SG [KR rs,.list []]=O (.list (rs.flatten.map int)):=by
  have e:KR rs=.list ((rs.map λr=>r.map int).map Uz):=by unfold KR;rw[Jb];rfl
  have e2:(rs.map λr=>r.map int).flatten=rs.flatten.map int:=by rw[List.map_flatten]
  rw[e];unfold SG;dsimp only;rw[vj];dsimp only;rw[e2,Qp (by rw[Qb];lia)]
 exact KB (Yg (UQ (Yg (UQ (U9 (Ky wZ U0 i1) (UO wZ) i2) (UQ (Zz UX (Qa wZ)) UX)) hs) UX) (Ep hl)) wZ
theorem Cq{os:LO}{k:Nat}(h):oIx (.list (os.map Kn)) (.int k)=O (Kn os[k]):=K0 (by simp_all)
theorem qe(ws):(Kl ws).depth<=2:=RY (Pi λx hx=>by obtain⟨y,_,rfl⟩:=Qn.mp hx;cases y<;>simp[Kn,UE])
theorem Xd    (I:US->Prop):∀(ds qs:w9)(Z:US)(es:w9),qs.length=ds.length ->
  (∀(i:Nat) d e,ds[i]?=O d->qs[i]?=O e->∀Z,I Z->∃Z1,s d Z=O Z1/\t Z1=.ok w5 Z1/\g Z1=.ok e Z1/\I (KD Z1))->I Z->es.length+ds.length<=1000000->Zb s t g ds Z es=O (es++qs)
 |[],[],Z,es,_,_,_,_=>by rw[Zb,Jl]
 |d::r,e::q,Z,es,hl,st,h0,hz=>by obtain⟨Z1,e1,e2,e3,h1⟩:=st 0 d e wZ wZ Z h0;rw[Qz]at hz;rw[Zb,e1];dsimp only;rw[e2];dsimp only;rw[Qp wZ,e3];dsimp only;rw[if_pos (by lia),Xd I r q _ _ (by simpa using hl) (λi d' e' x y=>st (i+1) d' e' (by simpa using x) (by simpa using y)) h1 (by rw[List.length_append,List.length_singleton];lia),List.append_assoc];rfl
noncomputable def rg(rs:List w8):yd->Int
 |none=>0
 |some t=>(KP t rs:Nat)
noncomputable def U6(ls:List (List w8))(ws:LO):w8:=List.zipWith rg ls ws
noncomputable def lng(ls:List (List w8)):Nat:=(most (ls.map λrs=>(rs.length:Int))).toNat
noncomputable def Kw(L:Nat)(got:w8):w8:=(Ux L).map (λr:Nat=>((got.count (1+(r:Int)):Nat):Int))++[((got.count 0:Nat):Int)]
noncomputable def Xn(cs:w8)(ws:LO):w8:=(Ux cs.length).map λk:Nat=>cs.getD k 0-((ws.count (O (k:Int)):Nat):Int)
theorem Ht  (h:1<=ls.length):most (ls.map λrs=>(rs.length:Int))=(lng ls:Nat):=by
 have hm:most _∈ls.map λrs=>(rs.length):=Oe (by rw[Qb];lia)
 obtain⟨rs,_,e⟩:=Qn.mp hm;unfold lng
 lia
theorem Lj   (h:rs∈ls):rs.length<=lng ls:=by
 have h1:(_)<=most (ls.map λrs=>(rs.length)):=Nq (Qn.mpr ⟨rs,h,rfl⟩);have h2:=Ht  (List.length_pos_of_mem h)
 lia
theorem OX   (h1:1<=ls.length)(h:∀rs∈ls,rs.length<=n):lng ls<=n:=by
 have hm:most _∈ls.map λrs=>(rs.length):=Oe (by rw[Qb];lia)
 obtain⟨rs,hr,e⟩:=Qn.mp hm;have:=h rs hr;unfold lng
 lia
theorem Mr(t:Int)(rs:List w8):KP t rs<=rs.length:=by
 unfold KP
 split<;>lia
theorem vZ(rs:List w8):YS [KR rs,.none]=O (.int 0):=by
 refine KY (Z:=[pb (KR rs),O (.pub .none),w4,w4]) wZ ?_;unfold Sr;apply Za;apply ZR (λi Z=>∃x2 x3,Z=[pb (KR rs),O (.pub .none),x2,x3])
 case h1=>exact GO (UQ (UO wZ) UX) FZ
 case h0=>exact⟨_,_,rfl⟩
 case hst=>
  rintro i d Z hi ⟨x2,x3,rfl⟩;obtain⟨x,hx,rfl⟩:=Xa hi;rw[Qd]at hx;cases hr:rs[i]? with
  |none=>rw[hr]at hx;cases hx
  |some r=>
   rw[hr]at hx;cases hx;refine⟨_,Kq wZ (UZ (UV (Qa wZ) wZ) (UZ (UV (Qa wZ) wZ) Kr)),?_⟩;unfold L9
   have hin:oIn .none (Zn r)=O w6:=by
    have h1:UD (r.map int)=w5:=Md r;unfold oIn Zn;dsimp only;rw[if_pos ⟨rfl,h1,by simp[UE]⟩]
    congr 1
    rw[List.any_map,List.any_eq_false];intro x _;simp[UF]
   apply KU
   case h1=>exact Ye wZ (UO wZ) hin
   case h2=>intro hh;cases hh
   case h3=>exact λ_=>Ze (Zf ⟨_,_,rfl⟩)
 case hend=>rintro Z ⟨x2,x3,rfl⟩;exact Zc (KB U0 rfl)
theorem vY(o:yd)(rs:List w8):YS [KR rs,Kn o]=O (.int (rg rs o)):=by
 cases o with
 |none=>exact vZ rs
 |some t=>exact El t rs
section
variable{cs:w8}{ls:List (List w8)}{ws:LO}
theorem Tc:oIx (Kp cs ls) (.int 0)=O (.list (cs.map int)):=K0 (j:=0) wZ
theorem Wi:oIx (Kp cs ls) (.int 1)=O (.list (ls.map KR)):=K0 (j:=1) wZ
theorem OO{i:Nat}{rs}(h:ls[i]?=O rs):oIx (.list (ls.map KR)) (.int i)=O (KR rs):=K0 (by simp_all)
theorem kh(rs):Kk [KR rs]=O (.int rs.length):=by unfold KR;rw[Zy,Qb]
theorem Ej(g:Good cs ls):X5 [Kp cs ls]=O (.int (lng ls:Nat)):=by
 refine KY  rfl ?_;have hw:=Ph g
 have hc:Zb (gN 1) (UT w5) (Zu 1) (ls.map KR) (KD [pb (Kp cs ls)]++Uy 1 w4) []=O ((ls.map λrs=>(rs.length)).map int):=by
  refine Xd (λZ=>∃x,Z=[O _,x]) _ _ _ _ (by rw[Qb,Qb,Qb]) ?_ ⟨w4,rfl⟩ (by rw[Qb,Qx];have:=g.l7;lia);rintro i d e hd he Z ⟨x,rfl⟩;rw[Qd]at hd;rw[Qd,Qd]at he;cases hl:ls[i]? with
  |none=>rw[hl]at hd;cases hd
  |some rs=>
  rw[hl]at hd he;cases hd;cases he;exact⟨_,UV (Qa wZ) wZ,rfl,ZP wZ (kh rs),_,rfl⟩
 refine Kh (WH (Kj (UQ (UO wZ) UX) wZ hw)) ?_;refine KB (Yg (UQ (KS (ZC (Zv (Ky wZ U0 Wi) ZK) hc)) UX) (jL (by rw[Qb];have:=g.l1;lia))) ?_;rw[Ht g.l1]
theorem Fe{i:Nat}{rs:List w8}{o:yd}(h1:ls[i]?=O rs)(h2:ws[i]?=O o):(U6 ls ws)[i]?=O (rg rs o):=by unfold U6;rw[List.getElem?_zipWith,h1,h2]
theorem wC(g:Good cs ls)(hl:ws.length=ls.length):VF [Kp cs ls,Kl ws]=O (.list ((U6 ls ws).map int)):=by
 refine KY (Z:=[pb (Kp cs ls),pb (Kl ws)]) wZ ?_;unfold So;have hw:=Ph g;have yz:(U6 ls ws).length=ls.length:=by unfold U6;rw[Uh];omega
 have hc:Zb (gT 2 (gNC (gN 2) (gNC (gN 3) (gN0)))) (UT w5) (UY 2 YS (UP (UR oIx (U1 0 (UT (.int 1))) (UM 2)) (UP (UM 3) (UN)))) (Yc 0 (ws.map Kn)) (KD [pb (Kp cs ls),pb (Kl ws)]++Uy 2 w4) []=O ((U6 ls ws).map int):=by
  refine Xd (λZ=>∃x y,Z=[pb (Kp cs ls),pb (Kl ws),x,y]) _ _ _ _ (by rw[Qb,YH,Qb];omega) ?_ ⟨w4,w4,rfl⟩ (by rw[YH,Qb,Qx];have:=g.l7;omega);rintro i d e hd he Z ⟨x,y,rfl⟩;obtain⟨z,hz,rfl⟩:=Xa hd;rw[Qd]at hz;cases hwi:ws[i]? with
  |none=>rw[hwi]at hz;cases hz
  |some o=>
  rw[hwi]at hz;cases hz;have yo:i<ls.length:=by have:=(Qg.mp hwi).1;omega
  have hls:ls[i]?=O ls[i]:=Qe yo;rw[Qd,Fe hls hwi]at he;cases he;rw[QO];exact⟨_,Kq wZ (UZ (UV (Qa wZ) wZ) (UZ (UV (Qa wZ) wZ) Kr)),rfl,Kj (UQ (U9 (Ky wZ U0 Wi) (UO wZ) (OO hls)) (UQ (UO wZ) UX)) wZ (vY o ls[i]),_,_,rfl⟩
 refine Kh (WH (Kj (UQ (UO wZ) UX) wZ hw)) ?_;exact KB (KS (ZC (XJ (UQ (UO wZ) UX) XG) hc)) wZ
theorem Ei{xs:w8}{k:Int}:WQ (.list (xs.map int)) (.int k)=O (.int (xs.count k:Nat)):=by
 have:=Ek (ws:=xs.map O) (k:=k);unfold Kl at this;rw[Jb]at this
 have e:(xs.map O).count (O k)=xs.count k:=by
  rw[List.count,List.countP_map,List.count]
  congr 1
 rw[e]at this;exact this
theorem EL(g:Good cs ls)(hl:ws.length=ls.length):Wx [Kp cs ls,Kl ws]=O (.list ((Kw (lng ls) (U6 ls ws)).map int)):=by
 refine KY (Z:=[pb (Kp cs ls),pb (Kl ws),w4]) wZ ?_;unfold Sn;refine Kh (KM (Kj (UQ (UO wZ) (UQ (UO wZ) UX)) wZ (wC g hl)) (Qa wZ) wZ) ?_;have h5:lng ls<=5:=OX g.l1 λrs hr=>(g.rk rs hr).few
 have hc:Zb (gN 3) (UT w5) (VW (UM 2) (UP (UM 3) (UN))) (Yt 1 ((lng ls:Nat)+1)) (KD [pb (Kp cs ls),pb (Kl ws),pb (.list ((U6 ls ws).map int))]++Uy 1 w4) []=O (((Ux (lng ls)).map (λr:Nat=>(((U6 ls ws).count (1+(r:Int)):Nat):Int))).map int):=by
  have yz:(Yt 1 (((lng ls:Nat):Int)+1)).length=lng ls:=by rw[Y0];omega
  refine Xd (λZ=>∃x,Z=[pb (Kp cs ls),pb (Kl ws),pb (.list ((U6 ls ws).map int)),x]) _ _ _ _ (by rw[yz,Qb,Qb,Qo]) ?_ ⟨w4,rfl⟩ (by rw[yz,Qx];omega);rintro i d e hd he Z ⟨x,rfl⟩;obtain⟨rfl,hlt⟩:=Wo hd;have hi:i<lng ls:=by omega
  rw[Qd,Qd,Qe (by rw[Qo];exact hi),List.getElem_range]at he;cases he;exact⟨_,UV (Qa wZ) wZ,rfl,NP (UO wZ) (UQ (UO wZ) UX) Ei,_,rfl⟩
 refine KB (U9 (KS (ZC (Np (UQ U0 (UQ (U9 (Kj (UQ (UO wZ) UX) wZ (Ej g)) U0 Zj) UX)) (NN (by omega) (by omega) (by decide) (by decide))) hc)) (Zz (UQ (NP (UO wZ) (UQ U0 UX) Ei) UX) (Qa wZ)) (XH (by rw[Qb,Qb,Qo];show lng ls+1<=_;omega))) ?_;unfold Kw;rw[Qy];rfl
theorem wU(g:Good cs ls):VE [Kp cs ls,Kl ws]=O (.list ((Xn cs ws).map int)):=by
 refine KY  rfl ?_;have hw:=Ph g
 have hc:Zb (gT 2 (gNC (gN 2) (gNC (gN 3) (gN0)))) (UT w5) (UR K9 (UM 3) (VW (UM 1) (UP (UM 2) (UN)))) (Yc 0 (cs.map int)) (KD [pb (Kp cs ls),pb (Kl ws)]++Uy 2 w4) []=O ((Xn cs ws).map int):=by
  refine Xd (λZ=>∃x y,Z=[O _,pb (Kl ws),x,y]) _ _ _ _ (by unfold Xn;rw[Qb,Qb,Qo,YH,Qb]) ?_ ⟨w4,w4,rfl⟩ (by rw[YH,Qb,Qx];have:=g.c6;lia);rintro i d e hd he Z ⟨x,y,rfl⟩;obtain⟨z,hz,rfl⟩:=Xa hd;rw[Qd]at hz;cases hci:cs[i]? with
  |none=>rw[hci]at hz;cases hz
  |some c=>
  rw[hci]at hz;cases hz;have yo:i<cs.length:=(Qg.mp hci).1;unfold Xn at he;rw[Qd,Qd,Qe (by rw[Qo];exact yo),List.getElem_range]at he;cases he;rw[QO];have e:cs.getD i 0=c:=by simp[List.getD,hci]
  dsimp only;rw[e];exact⟨_,Kq wZ (UZ (UV (Qa wZ) wZ) (UZ (UV (Qa wZ) wZ) Kr)),rfl,U9 (UO wZ) (NP (UO wZ) (UQ (UO wZ) UX) Ek) Xc,_,_,rfl⟩
 refine Kh (WH (Kj (UQ (UO wZ) UX) wZ hw)) ?_;exact KB (KS (ZC (XJ (UQ (Ky wZ U0 Tc) UX) XG) hc)) wZ
end
def okR(L:Nat)(got:w8):Prop:=∀r∈got,0<=r/\r<=L
theorem VZ(L:Nat)(got:w8):(Kw L got).length=L+1:=by unfold Kw;rw[Qk,Qb,Qo];rfl
noncomputable def WM(xs:w8)(p:Nat)(d:Int):w8:=xs.set p (xs.getD p 0+d)
theorem FJ{xs:w8}{p:Nat}{d:Int}:(WM xs p d).length=xs.length:=by unfold WM;rw[QS]
theorem kg{xs:w8}{p q:Nat}{d v:Int}(h:xs[q]?=O v):(WM xs p d)[q]?=O (if q=p then v+d else v):=by
 unfold WM;have hq:q<xs.length:=(Qg.mp h).1;by_cases e:q=p
 .subst e
  rw[QG hq,Qp wZ];simp[List.getD,h]
 .rw[Qr (λz=>e z.symm),Qw e,h]
theorem Eh:∀(qs:yi)(n:Nat),(∀q∈qs,q<n)->((Ux n).map λp=>((qs.count p:Nat):Int)).sum=qs.length
 |[],n,_=>by
  have:((Ux n).map λp=>((([]:yi).count p:Nat):Int))=(Ux n).map λ_=>(0:Int):=by apply List.map_congr_left;intro p _;simp
  rw[this];clear this;induction n with
  |zero=>rfl
  |succ n ih=>rw[JU,Qy,J8,ih (λq hq=>by cases hq)];rfl
 |q::r,n,h=>by
  have ih:=Eh r n λx hx=>h x (Qi _ hx);have hq:=h q Qj
  have e:((Ux n).map λp=>(((q::r).count p:Nat):Int)).sum=((Ux n).map λp=>((r.count p:Nat):Int)).sum+((Ux n).map λp=>if q=p then(1:Int)else 0).sum:=by
   clear ih hq h;induction n with
   |zero=>rfl
   |succ n ih=>
    rw[JU,Qy,Qy,Qy,J8,J8,J8,ih];simp only[Qt,List.map_nil,Jj,List.sum_nil,JT,beq_iff_eq]
    split<;>omega
  rw[e,ih]
  have one:∀m:Nat,((Ux m).map λp=>if q=p then(1:Int)else 0).sum=if q<m then 1 else 0:=by
   intro m;induction m with
   |zero=>simp
   |succ m ih=>
    rw[JU,Qy,J8,ih];simp only[Qt,List.map_nil,Jj,List.sum_nil]
    split<;>split<;>split<;>omega
  rw[one n,Qp hq,Qz];omega
theorem P3{ls:List (List w8)}{ws:LO}:okR (lng ls) (U6 ls ws):=λr hr=>by
 unfold U6 at hr;obtain⟨i,hi,e⟩:=Ud.mp hr;rw[List.getElem_zipWith]at e;rw[Uh]at hi;have hm:ls[i]'(by omega)∈ls:=JE _;have h1:=Lj hm;rw[←e];cases ws[i]'(by omega)with
 |none=>exact⟨Ja _,by show(0:Int)<=_;omega⟩
 |some t=>have h2:=Mr t (ls[i]'(by omega));exact⟨by show(0:Int)<=((KP t _:Nat):Int);omega,by show((KP t _:Nat):Int)<=_;omega⟩
theorem Az  (h1:d.canLay0=w5)(h2:d.depth<=60):oNe d d=O w6:=by unfold oNe;rw[Qp ⟨h1,h1,h2⟩,Me _ h1];rfl
theorem OW  : oEq (Kn a) (Kn b)=O (decide (a=b)):=by unfold oEq;rw[if_pos ⟨by cases a<;>rfl,by cases b<;>rfl,by cases a<;>simp[Kn,UE]⟩,Nl]
theorem Cp  : oNe (Kn a) (Kn b)=O (!decide (a=b)):=by unfold oNe;rw[if_pos ⟨by cases a<;>rfl,by cases b<;>rfl,by cases a<;>simp[Kn,UE]⟩,Nl]
theorem Co  {a:Nat}(h:a<=xs.length):DL.cutD xs w4 (O (a:Int))=xs.take a:=by
 unfold DL.cutD HT.sIx;dsimp only;rw[Qw (by lia),QP];have:min a xs.length=a:=by lia
 rw[this];simp
theorem qd  {a:Nat}(h:a<=xs.length):DL.cutD xs (O (a:Int)) w4=xs.drop a:=by
 unfold DL.cutD HT.sIx;dsimp only;rw[Qw (by lia),QP];have:min a xs.length=a:=by lia
 rw[this,List.take_of_length_le (by simp_all)]
theorem Eg    (I:US->Prop):∀(ds qs:w9)(Z:US)(es:w9),qs.length=ds.length ->
  (∀(i:Nat) d e,ds[i]?=O d->qs[i]?=O e->∀Z,I Z->∃Z1,s d Z=O Z1/\t Z1=.ok w5 Z1/\g Z1=.ok e Z1/\I (KD Z1))->I Z->es.length+ds.length<=1000000->∃Z',YZ s t g ds Z es=O (es++qs,Z')/\I Z'
 |[],[],Z,es,_,_,h0,_=>⟨Z,by rw[YZ,Jl],h0⟩
 |d::r,e::q,Z,es,hl,st,h0,hz=>by obtain⟨Z1,e1,e2,e3,h1⟩:=st 0 d e wZ wZ Z h0;rw[Qz]at hz;obtain⟨Z',e',h'⟩:=Eg I r q _ (es++[e]) (by simpa using hl) (λi d' e' x y=>st (i+1) d' e' (by simpa using x) (by simpa using y)) h1 (by rw[List.length_append,List.length_singleton];lia);refine⟨Z',?_,h'⟩;rw[YZ,e1];dsimp only;rw[e2];dsimp only;rw[Qp wZ,e3];dsimp only;rw[Qp (by lia),e',Q6];rfl
theorem My    {Rd}(I:US->Prop):∀(ds:w9)(qs:List w9)(Z:US)(es:w9),qs.length=ds.length ->
  (∀(i:Nat) d q,ds[i]?=O d->qs[i]?=O q->∀Z es,I Z->es.length+q.length<=1000000->∃Z1 xs Z2 Z3,s d Z=O Z1/\t Z1=.ok w5 Z1/\f Z1=.ok xs Z2/\Rd xs (KD Z2) es=O (es++q,Z3)/\I Z3)->I Z->es.length+qs.flatten.length<=1000000->∃Z',Xr s t f Rd ds Z es=O (es++qs.flatten,Z')/\I Z'
 |[],[],Z,es,_,_,h0,_=>⟨Z,by rw[Xr,List.flatten_nil,Jl],h0⟩
 |d::r,q::qr,Z,es,hl,st,h0,hz=>by rw[Jz,Qk]at hz;obtain⟨Z1,xs,Z2,Z3,e1,e2,e3,e4,h1⟩:=st 0 d q wZ wZ Z es h0 (by lia);obtain⟨Z',e',h'⟩:=My I r qr Z3 (es++q) (by simpa using hl) (λi d' e' x y=>st (i+1) d' e' (by simpa using x) (by simpa using y)) h1 (by rw[List.length_append];lia);refine⟨Z',?_,h'⟩;rw[Xr,e1];dsimp only;rw[e2];dsimp only;rw[Qp wZ,e3];dsimp only;rw[e4];dsimp only;rw[e',Jz,Q6]
noncomputable def WA(i:Nat)(rs:List w8):LP:=rs.flatten.map λt=>((i:Int),t)
noncomputable def Z7(k:Nat):List (List w8)->LP
 |[]=>[]
 |rs::ls=>WA k rs++Z7 (k+1) ls
noncomputable def U3(k:Nat):List (List w8)->LP
 |[]=>[]
 |rs::ls=>(YE rs.flatten).map (λt=>((k:Int),t))++U3 (k+1) ls
theorem Ro:∀(ls)(k),(U3 k ls).Perm (Z7 k ls)
 |[],_=>.nil
 |rs::ls,k=>((Wg rs.flatten).map _).append (Ro ls _)
theorem Ob:∀(ls)(k),∀q∈U3 k ls,(k:Int)<=q.1
 |[],_,q,h=>by cases h
 |rs::ls,k,q,h=>by
  rcases QI.mp h with h|h
  .obtain⟨t,_,rfl⟩:=Qn.mp h;exact Ja _
  .have:=Ob ls _ q h;lia
theorem W0:∀{ls}{k}{q},q∈U3 k ls->∃i rs,ls[i]?=O rs/\q.1=((k+i:Nat):Int)/\q.2∈rs.flatten
 |[],_,q,h=>by cases h
 |rs::ls,k,q,h=>by
  rcases QI.mp h with h|h
  .obtain⟨t,ht,rfl⟩:=Qn.mp h
   exact⟨0,rs,rfl,rfl,(Wg _).mem_iff.mp ht⟩
  .obtain⟨i,rs',h1,h2,h3⟩:=W0 h
   exact⟨i+1,rs',by simpa using h1,by rw[h2];congr 1;lia,h3⟩
theorem Fd:∀{ls}{k i}{rs}{t},ls[i]?=O rs->t∈rs.flatten->(((k+i:Nat):Int),t)∈U3 k ls
 |rs::ls,k,0,rs',t,h,ht=>by cases h;exact Q9 _ (Qn.mpr ⟨t,(Wg _).mem_iff.mpr ht,rfl⟩)
 |rs::ls,k,i+1,rs',t,h,ht=>by have:=Fd  (k:=k+1)  (by simpa using h) ht;rw[show k+1+i=k+(i+1)by lia]at this;exact QJ _ this
theorem Fc{n:Nat}(hn:n<=6):∀(ls:List (List w8))(k),(∀rs∈ls,∀t∈rs.flatten,0<=t/\t<n)->(U3 k ls).Pairwise λx y=>KG x<=KG y
 |[],_,_=>.nil
 |rs::ls,k,h=>by
  refine List.pairwise_append.mpr ⟨?_,Fc hn ls _ λrs' hr=>h rs' (Qi _ hr),λx hx y hy=>?_⟩
  .rw[List.pairwise_map]
   refine(Oy rs.flatten).imp λ{a b} hab=>?_
   unfold KG;simp_all
  .obtain⟨t,ht,rfl⟩:=Qn.mp hx
   have h1:=Ob ls _ y hy;have h2:=h rs Qj t ((Wg _).mem_iff.mp ht);obtain⟨i,rs',g1,g2,g3⟩:=W0 hy;have h3:=h rs' (Qi _ (Qs g1)) y.2 g3;unfold KG
   lia
theorem V9.flat   (g:V9 n rs):∀t∈rs.flatten,0<=t/\t<n:=λt ht=>by obtain⟨r,h1,h2⟩:=List.mem_flatten.mp ht;exact g.there r h1 t h2
section
variable{cs:w8}{ls:List (List w8)}
theorem Fb(n):∀(ls)(k),(∀rs∈ls,rs.flatten.length<=n)->(Z7 k ls).length<=ls.length*n
 |[],_,_=>by simp[Z7]
 |rs::ls,k,h=>by
  have h1:=Fb n ls (k+1) λr hr=>h r (Qi _ hr);have h2:=h rs Qj
  show(WA k rs++Z7 _ ls).length<=_
  rw[Qk,Qz];unfold WA;rw[Qb]
  lia
theorem xO(g:Good cs ls):WK (Z7 0 ls)=U3 0 ls:=by
 have hf   :=λrs hr=>(g.rk rs hr).flat
 have ok:∀q∈U3 0 ls,okP q:=λq hq=>by obtain⟨i,rs,h1,h2,h3⟩:=W0 hq;have:=hf rs (Qs h1) q.2 h3;have:=g.c6;exact⟨by lia,by lia⟩
 exact(NI ok ((Ro ls 0).trans (Er _).symm) (Fc g.c6 ls 0 hf) (FW _)).symm
theorem Cn(g:Good cs ls):∀q∈Z7 0 ls,okP q:=λq hq=>by obtain⟨i,rs,h1,h2,h3⟩:=W0 ((Ro ls 0).mem_iff.mpr hq);have:=(g.rk rs (Qs h1)).flat q.2 h3;have:=g.c6;exact⟨by lia,by lia⟩
theorem RW(g:Good cs ls):(Z7 0 ls).length<=42:=by
 have h:=Fb 6 ls 0 λrs hr=>QN (Oc (g.rk rs hr)) g.c6
 have:=g.l7
 lia
theorem Nk:∀(ls)(k),((ls.zipIdx k).map λp=>(WA p.2 p.1).map U4).flatten=(Z7 k ls).map U4
 |[],_=>rfl
 |rs::ls,k=>by rw[List.zipIdx_cons,Qt,Jz,Nk ls _];show _=(WA k rs++Z7 _ ls).map U4;simp_all
theorem wK(g:Good cs ls):VG [Kp cs ls]=O (.list ((U3 0 ls).map U4)):=by
 refine KY (Z:=[pb (Kp cs ls)]) wZ ?_;unfold Sq;refine Kh (WH (Kj (UQ (UO wZ) UX) wZ (Ph g))) ?_
 have hc:∃Z',Xr (gT 2 (gNC (gN 1) (gNC (gN 2) (gN0)))) (UT w5) (KW (UM 2)) (Xr (gN 3) (UT w5) (KW (UM 3)) (YZ (gN 4) (UT w5) (Kz (UP (UM 1) (UP (UM 4) (UN)))))) (Yc 0 (ls.map KR)) (KD [pb (Kp cs ls)]++Uy 4 w4) []=O ((Z7 0 ls).map U4,Z'):=by
  have key:=My (s:=gT 2 (gNC (gN 1) (gNC (gN 2) (gN0)))) (t:=UT w5) (f:=KW (UM 2)) (Rd:=Xr (gN 3) (UT w5) (KW (UM 3)) (YZ (gN 4) (UT w5) (Kz (UP (UM 1) (UP (UM 4) (UN))))))
   (λZ=>∃x1 x2 x3 x4,Z=[pb (Kp cs ls),x1,x2,x3,x4]) (Yc 0 (ls.map KR)) ((ls.zipIdx 0).map λp=>(WA p.2 p.1).map U4) (KD [pb (Kp cs ls)]++Uy 4 w4) [] (by rw[Qb,List.length_zipIdx,YH,Qb]) ?_ ⟨w4,w4,w4,w4,rfl⟩ (by rw[Nk,Qb,Qx];have:=RW g;lia)
  .obtain⟨Z',e,_⟩:=key
   rw[Nk,QR]at e;exact⟨Z',e⟩
  rintro i d q hd hq Z es ⟨x1,x2,x3,x4,rfl⟩ hlen;obtain⟨z,hz,rfl⟩:=Xa hd;rw[Qd]at hz;rw[Qd,List.getElem?_zipIdx]at hq;cases hls:ls[i]? with
  |none=>rw[hls]at hz;cases hz
  |some rs=>
  rw[hls]at hz hq;cases hz;cases hq;rw[QO]at *;dsimp only at hlen⊢
  have inner:=My (s:=gN 3) (t:=UT w5) (f:=KW (UM 3)) (Rd:=YZ (gN 4) (UT w5) (Kz (UP (UM 1) (UP (UM 4) (UN)))))
   (λZ=>∃x3 x4,Z=[pb (Kp cs ls),pb (.int i),pb (KR rs),x3,x4]) (rs.map Zn) (rs.map λr=>r.map λt=>U4 ((i:Int),t)) _ es (by rw[Qb,Qb]) ?_ ⟨X8 x3,X8 x4,rfl⟩ ?_
  .obtain⟨Z3,e3,y3,y4,h3⟩:=inner
   have ef:(rs.map λr=>r.map λt=>U4 ((i:Int),t)).flatten=(WA i rs).map U4:=by unfold WA;rw[Jb,List.map_flatten];rfl
   rw[ef]at e3;exact⟨_,_,_,Z3,Kq wZ (UZ (UV (Qa wZ) wZ) (UZ (UV (Qa wZ) wZ) Kr)),rfl,Zv (UO wZ) wZ,e3,_,_,_,_,h3⟩
  .rintro j d q hd hq Z es' ⟨y3,y4,rfl⟩ yX
   rw[Qd]at hd hq;cases hr:rs[j]? with
   |none=>rw[hr]at hd;cases hd
   |some r=>
   rw[hr]at hd hq;cases hd;cases hq
   obtain⟨Z3,e3,z4,h3⟩:=Eg (s:=gN 4) (t:=UT w5) (g:=Kz (UP (UM 1) (UP (UM 4) (UN)))) (λZ=>∃x4,Z=[pb (Kp cs ls),pb (.int i),pb (KR rs),pb (Zn r),x4]) (r.map int) (r.map λt=>U4 ((i:Int),t)) _ es' (by rw[Qb,Qb]) (by
    rintro m d e hd he Z ⟨x4,rfl⟩;rw[Qd]at hd he;cases hm:r[m]? with
    |none=>rw[hm]at hd;cases hd
    |some t=>
    rw[hm]at hd he;cases hd;cases he;exact⟨_,UV (Qa wZ) wZ,rfl,Yi (UQ (UO wZ) (UQ (UO wZ) UX)) (Qa wZ),_,rfl⟩) ⟨X8 y4,rfl⟩ (by rw[Qb]at yX⊢;exact yX)
   exact⟨_,_,_,Z3,UV (Qa wZ) wZ,rfl,Zv (UO wZ) wZ,e3,_,_,h3⟩
  .have ef:(rs.map λr=>r.map λt=>U4 ((i:Int),t)).flatten=(WA i rs).map U4:=by
    unfold WA;rw[Jb,List.map_flatten];rfl
   rw[ef];exact hlen
 obtain⟨Z',hc⟩:=hc;have hs:=kX (qs:=Z7 0 ls) (by have:=RW g;lia) (Cn g);rw[xO g]at hs;exact KB (Yg (UQ (KS (jS (XJ (UQ (Ky wZ U0 Wi) UX) XG) hc)) UX) hs) wZ
end
noncomputable def fnz:w8->Int
 |[]=>0
 |x::r=>if x=0 then fnz r else x
inductive Ord where|firsts|full|lasts
noncomputable def Ord.tx:Ord->Str
 |.firsts=> "firsts" | .full=> "full" | .lasts=> "lasts"
noncomputable def Ord.isF:Ord->Bool
 |.firsts=>w5|_=>w6
noncomputable def Ord.isU:Ord->Bool
 |.full=>w5|_=>w6
theorem Cm(o:Ord):oEq (.str o.tx) (.str "firsts")=O o.isF:=by cases o<;>decide +kernel
theorem Ck(o:Ord):oEq (.str o.tx) (.str "full")=O o.isU:=by cases o<;>decide +kernel
noncomputable def Kx(xs ys:w8):w8:=(xs.zip ys).map λp=>p.1-p.2
noncomputable def WL(o:Ord)(xs ys:w8):w8:=match o with
 |.firsts=>Kx xs ys
 |.full=>((Kx xs ys).map λx=>-x).drop ((Kx xs ys).length-1)++Kx xs ys
 |.lasts=>((Kx xs ys).map λx=>-x).reverse
theorem wJ(o:Ord):VD [.str o.tx]=O (.bool w5):=by
 refine KY  rfl ?_;have h:oIn (.str o.tx) (.tuple ((["firsts", "full", "lasts"]:List Str).map UB))=O w5:=by cases o<;>decide +kernel
 exact KB (PY (KS  (UO wZ)) (λ_=>KS (Ye wZ U0 h))) wZ
theorem kf(o:Ord):VC [.str o.tx]=O .none:=by
 refine RU  rfl ?_;apply KU
 case h1=>exact XB (Wf (Kj (UQ (UO wZ) UX) wZ (wJ o)))
 case h2=>simp_all
 case h3=>exact λ_=>Ze ⟨_,rfl⟩
noncomputable def W4:yh->D
 |none=>.none
 |some ws=>Kl ws
noncomputable def KZ(o:Ord)(old:yh)(ts:w8):D:=.tuple [.str o.tx,W4 old,.list (ts.map int)]
structure ZU(n m:Nat)(old:yh)(ts:w8):Prop where
 len:∀ws,old=O ws->ws.length=m
 old:∀ws t,old=O ws->O t∈ws->0<=t/\t<n
 once:ts.Nodup
 there:∀a∈ts,0<=a/\a<m
theorem ZU.few  {old}{ts}(g:ZU n m old ts):ts.length<=m:=Rq m ts g.once g.there
theorem ke{n m:Nat}{old:yh}(h1:∀ws,old=O ws->ws.length=m)(h2:∀ws t,old=O ws->O t∈ws->0<=t/\t<n)(hm:m<=1000):VA [W4 old,.int m,.int n]=O (.bool w5):=by
 refine KY  rfl ?_;unfold Sm;apply Za;cases old with
 |none=>
  apply KU
  case h1=>exact KS (UO wZ)
  case h2=>exact λ_=>KB U0 (V3 wZ)
  case h3=>intro hh;cases hh
 |some ws=>
  have hl:=h1 ws wZ;have hlen:Kk [Kl ws]=O (.int m):=by unfold Kl;rw[Zy,Qb,hl]
  apply KU
  case h1=>exact KS (UO wZ)
  case h2=>intro hh;cases hh
  case h3=>
   intro _;refine Ze (Zc ?_);apply Za;apply KU
   case h1=>exact VU  (V2 (UO wZ) wZ) (U9 (ZP wZ hlen) (UO wZ) PX)
   case h2=>intro hh;simp at hh
   case h3=>
    intro _;refine Ze (Zc ?_)
    have hc:Zb (gN 3) (UT w5) (W6 (U7 (λd=>.bool (isNon d)) (UM 3)) (UY 2 ZY (UP (UM 3) (UP (UM 2) (UN))))) (ws.map Kn) (KD [pb (Kl ws),pb (.int m),pb (.int n)]++Uy 1 w4) []=O (ws.map λ_=>.bool w5):=by
     refine Xd (λZ=>∃x,Z=[pb (Kl ws),pb (.int m),pb (.int n),x]) _ _ _ _ (by simp only[Qb]) ?_ ⟨w4,rfl⟩ (by rw[Qb,Qx];lia);rintro i d e hd he Z ⟨x,rfl⟩;rw[Qd]at hd he;cases hw:ws[i]? with
     |none=>rw[hw]at hd;cases hd
     |some o=>
     rw[hw]at hd he;cases hd;cases he;refine⟨_,UV (Qa wZ) wZ,rfl,?_,_,rfl⟩;cases o with
     |none=>exact Lp (t:=w5) (u:=w5) (KS  (x:=.none) (UO wZ)) (λh=>nomatch h)
     |some t=>have hb:=h2 ws t wZ (Qs hw);exact Lp (t:=w6) (u:=w5) (KS (k:=λd=>UA (isNon d)) (x:=.int t) (UO wZ)) (λ_=>Kj (UQ (UO wZ) (UQ (UO wZ) UX)) wZ (Ou hb.1 hb.2))
    exact KB (Yg (UQ (KS (ZC (Zv (UO wZ) wZ) hc)) UX) (Ot ws)) wZ
theorem vX{m:Nat}{ts:w8}(h1:ts.Nodup)(h2:∀a∈ts,0<=a/\a<m)(hm:m<=1000):Vz [.list (ts.map int),.int m]=O (.bool w5):=by
 refine KY  rfl ?_;unfold Sk;have hl:=Rq m ts h1 h2;apply Za
 have hc:Zb (gN 2) (UT w5) (UY 2 ZY (UP (UM 2) (UP (UM 1) (UN)))) (ts.map int) (KD [pb (.list (ts.map int)),pb (.int m)]++Uy 1 w4) []=O (ts.map λ_=>.bool w5):=by
  refine Xd (λZ=>∃x,Z=[O _,pb (.int m),x]) _ _ _ _ (by simp only[Qb]) ?_ ⟨w4,rfl⟩ (by rw[Qb,Qx];lia);rintro i d e hd he Z ⟨x,rfl⟩;rw[Qd]at hd he;cases hw:ts[i]? with
  |none=>rw[hw]at hd;cases hd
  |some t=>
  rw[hw]at hd he;cases hd;cases he;have hb:=h2 t (Qs hw);exact⟨_,UV (Qa wZ) wZ,rfl,Kj (UQ (UO wZ) (UQ (UO wZ) UX)) wZ (Ou hb.1 hb.2),_,rfl⟩
 apply KU
 case h1=>exact VU  (V2 (UO wZ) wZ) (XB (Wf (Yg (UQ (KS (ZC (Zv (UO wZ) ZK) hc)) UX) (Ot ts))))
 case h2=>intro hh;cases hh
 case h3=>
  intro _;refine Ze (Zc ?_);have hs:WR [.list (ts.map int)]=O (.int ts.length):=by unfold WR;dsimp only;rw[Pd];dsimp only;rw[Qp (by lia),Em h1]
  have hlen:Kk [.list (ts.map int)]=O (.int ts.length):=by rw[Zy,Qb]
  refine KB (KS (U9 (Yg (UQ (UO wZ) UX) hs) (ZP wZ hlen) XI)) ?_;simp
section
variable{cs:w8}{ls:List (List w8)}{o:Ord}{old:yh}{ts:w8}
theorem Li(g:Good cs ls)(ga:ZU cs.length ls.length old ts):X4 [Kp cs ls,KZ o old ts]=O .none:=by
 refine RU  rfl ?_;unfold Sj;have l7:=g.l7;have c6:=g.c6;have yp:Kk [.list (ls.map KR)]=O (.int ls.length):=by rw[Zy,Qb]
 have yF:Kk [.list (cs.map int)]=O (.int cs.length):=by rw[Zy,Qb]
 refine Kh (WH (Kj (UQ (UO wZ) UX) wZ (Ph g))) ?_;apply Za;apply KU
 case h1=>exact VU  (V2 (UO wZ) wZ) (U9 (ZP wZ (show Kk [KZ o old ts]=O (.int 3)from rfl)) U0 PX)
 case h2=>intro hh;simp at hh
 case h3=>
  intro _;refine Ze (Zc ?_);refine Kh (XA (UO wZ) (Kq wZ (UZ (UV (Qa wZ) wZ) (UZ (UV (Qa wZ) wZ) Kr)))) ?_;refine Kh (XA (UO wZ) (Kq wZ (UZ (UV (Qa wZ) wZ) (UZ (UV (Qa wZ) wZ) (UZ (UV (Qa wZ) wZ) Kr))))) ?_;refine Kh (WH (Kj (UQ (UO wZ) UX) wZ (kf o))) ?_;apply Za;apply KU
  case h1=>exact XB (Wf (Kj (UQ (UO wZ) (UQ (ZP wZ yp) (UQ (ZP wZ yF) UX))) wZ (ke ga.len ga.old (by lia))))
  case h2=>intro hh;cases hh
  case h3=>
   intro _;refine Ze (Zc ?_);apply KU
   case h1=>exact XB (Wf (Kj (UQ (UO wZ) (UQ (ZP wZ yp) UX)) wZ (vX ga.once ga.there (by lia))))
   case h2=>intro hh;cases hh
   case h3=>exact λ_=>Ze ⟨_,rfl⟩
end
theorem Nj{t:Int}{r:w8}:oIn (.int t) (.list (r.map int))=O (r.contains t):=Nm t r
theorem FI:∀(a b:w8),a.Nodup->(∀x∈a,x∈b)->a.length<=b.length
 |[],_,_,_=>JM _
 |x::a,b,hn,h=>by
  have hx:=h x Qj;have hn':=JQ.mp hn
  have:=FI a _ hn'.2 λy hy=>by
   have hne:y≠x:=λe=>hn'.1 (e ▸ hy)
   exact(List.mem_erase_of_ne hne).mpr (h y (Qi _ hy))
  rw[List.length_erase_of_mem hx]at this;have hp:=List.length_pos_of_mem hx;rw[Qz]
  lia
theorem xN{m:Nat}{T:w8}(d:Nat)(hl:T.length<m)(hn:T.Nodup):∃k,k<m/\(∀j,j<k->(((d+j) % m:Nat):Int)∈T)/\(((d+k) % m:Nat):Int)∉T:=by
 have ex:∃k,k<m/\(((d+k) % m:Nat):Int)∉T:=by
  refine Classical.byContradiction λhno=>?_;have all   :=λk hk=>Classical.byContradiction λz=>hno ⟨k,hk,z⟩
  have hsub   :=λx hx=>by
   have h1:=all ((x+m-d % m) % m) (Nat.mod_lt _ (by lia));have e:(d+(x+m-d % m) % m) % m=x:=by have hdm:d % m<m:=Nat.mod_lt _ (by lia);rw[Nat.add_mod_mod,←Nat.mod_add_mod];rw[show d % m+(x+m-d % m)=x+m by lia,Nat.add_mod_right,Nat.mod_eq_of_lt hx]
   rw[e]at h1;exact h1
  have:=FI _ T (List.Pairwise.map _ (λa b h e=>h (by lia)) List.nodup_range) (λt ht=>by obtain⟨x,hx,rfl⟩:=Qn.mp ht;exact hsub x (QZ.mp hx));rw[Qb,Qo]at this
  lia
 obtain⟨k,hk,hkn⟩:=ex;induction k using Nat.strongRecOn with
 |_ k ih=>
  by_cases h:∀j,j<k->(((d+j) % m:Nat):Int)∈T
  .exact⟨k,hk,h,hkn⟩
  .obtain⟨j,hj⟩:=Classical.not_forall.mp h
   obtain⟨hj1,hj2⟩:=Classical.not_imp.mp hj;exact ih j hj1 (by lia) hj2
theorem Lh{x:D}{m:Nat}(h:m<=1000):KF (.list [x]) (.int m)=O (.list (Uy m x)):=by rw[Eu ⟨by lia,by lia,by show 1*_<=_;lia⟩];simp_all
noncomputable def szA(n m:Nat):w8:=[3,2,(m:Int)+1]++Uy m ((n:Int)+1)++Uy m (m:Int)
theorem Hs(n m):(szA n m).length=3+m+m:=by unfold szA;rw[Qk,Qk,QF,QF];rfl
theorem Ay{n m j}(h:j<m):(szA n m)[3+j]?=O ((n:Int)+1):=by unfold szA;rw[List.getElem?_append_left (by rw[List.length_append,List.length_replicate];show 3+j<3+m;lia),List.getElem?_append_right (by simp_all)];show _[3+j-3]?=_;rw[Nat.add_sub_cancel_left,QB,Qp h]
theorem q9{n m j}(h:j<m):(szA n m)[3+m+j]?=O (m:Int):=by
 unfold szA;have e:([3,2,(m:Int)+1]++Uy m ((n:Int)+1)).length=3+m:=by rw[Qk,QF];rfl
 rw[List.getElem?_append_right (by simp_all),e,Nat.add_sub_cancel_left,List.getElem?_replicate,if_pos h]
section
variable{cs:w8}{ls:List (List w8)}
noncomputable def Rx(d:Int):yd:=if 0<d then O (d-1)else w4
theorem q8(d):oIx (.list [.none,.int (d-1)]) (.int (if decide (0<d)=w5 then 1 else 0))=O (Kn (Rx d)):=by
 unfold Rx;by_cases h:0<d
 .rw[QW h,Qp h];exact K0  rfl
 .rw[QQ h,Qw h];exact K0  rfl
end
theorem Ax  {j}{f}{Z Z1 Z':US}{a b}{d}(h0:Z[j]?=O (O (.pub (.int a))))(h1:f Z=.ok (.int b) Z1)(h2:op a b=O d)(h3:j<Z1.length)(h4:Z1.set j (O (.pub d))=Z'):XN op j f Z=.nx Z':=by unfold XN;dsimp only[sB];simp_all
theorem mulN{i j}(h : -1000<j/\j<1000):Xf i j=O (.int (i*j)):=by exact Qp (.inr ⟨by lia,by lia⟩)
theorem Pb{b n:Int}(hb : -1000<b/\b<1000)(hn : -1000<=n/\n<=1000):ZI [.int b,.int n]=O (.int (b ^ n.toNat)):=by
 refine KY  rfl ?_;refine Kh (KM U0 (Qa wZ) wZ) ?_;apply Za;apply ZR (λi Z=>∃x3,Z=[O _,O _,pb (.int (b ^ i)),x3])
 case h1=>exact Wn (UQ (UO wZ) UX) (Wm (by lia) (by lia))
 case h0=>exact⟨_,by rw[Int.pow_zero];rfl⟩
 case hst=>rintro i d Z hi ⟨x3,rfl⟩;refine⟨_,UV (Qa wZ) wZ,?_⟩;refine YI (Ax wZ (UO wZ) (mulN hb) (Qa wZ) wZ) ?_;exact Zf ⟨_,by rw[Int.pow_succ];rfl⟩
 case hend=>
  rintro Z ⟨x3,rfl⟩;refine Zc (KB (UO rfl) ?_);rw[Y0]
  lia
noncomputable def Z8:Ord->Int->Int->Int->Int
 |.firsts,b,M,r=>b ^ (M-r).toNat
 |.full,b,M,r=>b ^ M.toNat+b ^ (M-r).toNat
 |.lasts,b,M,r=>b ^ M.toNat-b ^ (r-1).toNat
theorem vW(o:Ord){b M r:Int}(hb : -1000<b/\b<1000)(hM:0<=M/\M<=100)(hr:0<=r/\r<=100):Vy [.str o.tx,.int b,.int M,.int r]=O (.int (Z8 o b M r)):=by
 refine KY  rfl ?_;unfold Sh;have p1:ZI [.int b,.int (M-r)]=O (.int (b ^ (M-r).toNat)):=Pb hb ⟨by lia,by lia⟩;have p2:ZI [.int b,.int M]=O (.int (b ^ M.toNat)):=Pb hb ⟨by lia,by lia⟩;have p3:ZI [.int b,.int (r-1)]=O _:=Pb hb ⟨by lia,by lia⟩;apply Za;apply KU
 case h1=>exact Ye wZ U0 (Cm o)
 case h2=>
  intro h;cases o with
  |firsts=>exact KB (Kj (UQ (UO wZ) (UQ (U9 (UO wZ) (UO wZ) Xc) UX)) wZ p1) (V3 wZ)
  |full=>cases h
  |lasts=>cases h
 case h3=>
  intro h;refine Ze (Zc ?_);apply Za;apply KU
  case h1=>exact Ye wZ U0 (Ck o)
  case h2=>
   intro h';cases o with
   |full=>exact KB (U9 (Kj (UQ (UO wZ) (UQ (UO wZ) UX)) wZ p2) (Kj (UQ (UO wZ) (UQ (U9 (UO wZ) (UO wZ) Xc) UX)) wZ p1) Zj) (V3 wZ)
   |firsts=>cases h
   |lasts=>cases h'
  case h3=>
   intro h';refine Ze (Zc ?_);cases o with
   |firsts=>cases h
   |full=>cases h'
   |lasts=>exact KB (U9 (Kj (UQ (UO wZ) (UQ (UO wZ) UX)) wZ p2) (Kj (UQ (UO wZ) (UQ (U9 (UO wZ) U0 Xc) UX)) wZ p3) Xc) wZ
noncomputable def VQ(ts:w8)(b i r:Int):Int:=if i∈ts then(b-r)*b ^ (ts.length-1-ts.idxOf i)else 0
theorem EK  : ∀{xs:w9},(∀x∈xs,PyData.weight x<=n)->PyData.weightAll xs<=xs.length*(n+1)
 |[],_=>by simp[PyData.weightAll]
 |x::xs,h=>by
  have h1:=h x Qj;have h2:=EK  λy hy=>h y (Qi _ hy);rw[PyData.weightAll,Qz]
  lia
theorem xM  (h:0<=i/\i<1000):(int i).weight<=10:=by
 simp only[PyData.weight];split
 .lia
 .have h0:i.natAbs≠0:=by simp_all
  have:=(Nat.log2_lt h0 (k:=10)).mpr (by lia)
  lia
theorem wG{ts:w8}(h:∀a∈ts,0<=a/\a<1000)(hl:ts.length<=1000):PyData.layable0 (.list (ts.map int))=w5:=by
 unfold PyData.layable0;have h1:(Uz (ts.map int)).canLay0=w5:=Ta λx hx=>by obtain⟨y,_,rfl⟩:=Qn.mp hx;rfl
 have h2:(Uz (ts.map int)).depth<=64:=QN (RY (n:=1) (Pi λx hx=>by obtain⟨y,_,rfl⟩:=Qn.mp hx;exact LY y)) (by decide)
 have h3:(Uz (ts.map int)).weight<=2 ^ 20:=by
  have:=EK  (xs:=ts.map int) λx hx=>by obtain⟨y,hy,rfl⟩:=Qn.mp hx;exact xM (h y hy)
  rw[Qb]at this;simp only[PyData.weight]
  lia
 rw[h1,QW h2,QW h3];rfl
theorem qZ{ts:w8}{k}(hb:∀a∈ts,0<=a/\a<1000)(hl:ts.length<=1000)(h:k∈ts):Rc (.list (ts.map int)) [.int k]=O (.int (ts.idxOf k:Nat)):=by unfold Rc;dsimp only;rw[Pd];exact Qp ⟨wG hb hl,h⟩
theorem Fa  {r:w8}:Zw (.int t) (.list (r.map int))=O (!r.contains t):=by unfold Zw;rw[Nj];rfl
theorem vV  {b i r:Int}(hb : -1000<b/\b<1000)(hr : -1000<r/\r<1000)(hl:ts.length<=100)(ht:∀a∈ts,0<=a/\a<1000):Vx [.list (ts.map int),.int b,.int i,.int r]=O (.int (VQ ts b i r)):=by
 refine KY  rfl ?_;unfold Sg VQ;apply Za;apply KU
 case h1=>exact Ye wZ (UO wZ) Fa
 case h2=>
  intro h;have:¬i∈ts:=by simpa using h
  rw[Qw this];exact KB U0 (V3 wZ)
 case h3=>
  intro h;have hm:i∈ts:=by simpa using h
  rw[Qp hm];refine Ze (Zc ?_);have hi:=List.idxOf_lt_length_of_mem hm;have hlen:Kk [.list (ts.map int)]=O (.int ts.length):=by rw[Zy,Qb]
  refine Kh (KM (U9 (U9 (ZP wZ hlen) U0 Xc) (qA (UO wZ) (UQ (UO wZ) UX) (qZ ht (by lia) hm)) Xc) (Qa wZ) wZ) ?_;have hp:=Pb (b:=b) (n:=(ts.length:Int)-1-(ts.idxOf i:Nat)) hb ⟨by lia,by lia⟩;have e:((ts.length:Int)-1-(ts.idxOf i:Nat)).toNat=ts.length-1-ts.idxOf i:=by lia
  rw[e]at hp;exact KB (U9 (U9 (UO wZ) (UO wZ) Xc) (Kj (UQ (UO wZ) (UQ (UO wZ) UX)) wZ hp) (V4 (by lia) (by lia))) wZ
noncomputable def Wc(old:yh)(i:Nat)(t:Int):Int:=match old with
 |none=>0
 |some ws=>if ws[i]?=O (O t)then 1 else 0
section
variable{cs:w8}{ls:List (List w8)}{o:Ord}{old:yh}{ts:w8}
noncomputable def K8(ls:List (List w8))(o:Ord)(old:yh)(ts:w8)(i:Nat)(rs:List w8)(t:Int):Int:=
 (Z8 o (ls.length+1) (lng ls) (KP t rs)*(ls.length+1)+Wc old i t)*((lng ls:Int)+1) ^ ts.length+VQ ts (lng ls+1) i (KP t rs)
theorem F6{b:Int}(h0:0<=b)(h:b<=8):∀{n k},n<=k->b ^ n<=8 ^ k:=λ{n k} hk=>by
 have e:b=((b.toNat)):=by lia
 rw[e];have h1:b.toNat ^ n<=8 ^ n:=Nat.pow_le_pow_left (by lia) n;have h2:8 ^ n<=8 ^ k:=Nat.pow_le_pow_right (by lia) hk
 lia
theorem ka(g:Good cs ls)(ga:ZU cs.length ls.length old ts){i:Nat}{rs:List w8}(hi:ls[i]?=O rs)(t:Int):Ww [Kp cs ls,KZ o old ts,.int (lng ls:Nat),.int i,.int t]=O (.int (K8 ls o old ts i rs t)):=by
 have l7:=g.l7;have l1:=g.l1;have hL:lng ls<=5:=OX l1 λrs h=>(g.rk rs h).few;have hrk:KP t rs<=5:=by have:=Mr t rs;have:=(g.rk rs (Qs hi)).few;lia
 have htl:=ga.few;have hlt:i<ls.length:=(Qg.mp hi).1;refine KY (Z:=[pb (Kp cs ls),pb (KZ o old ts),pb (.int (lng ls:Nat)),pb (.int i),pb (.int t),w4,w4,w4,w4,w4,w4,w4,w4]) wZ ?_;unfold Sf K8;refine Kh (XA (UO wZ) (Kq wZ (UZ (UV (Qa wZ) wZ) (UZ (UV (Qa wZ) wZ) (UZ (UV (Qa wZ) wZ) Kr))))) ?_;refine Kh (KM (Ky wZ U0 Wi) (Qa wZ) wZ) ?_;refine Kh (KM (Kj (UQ (Ky wZ (UO wZ) (OO hi)) (UQ (UO wZ) UX)) wZ (El t rs)) (Qa wZ) wZ) ?_;have yp:Kk [.list (ls.map KR)]=O (.int ls.length):=by rw[Zy,Qb]
 have htl':Kk [.list (ts.map int)]=O (.int ts.length):=by rw[Zy,Qb]
 refine Kh (KM (U9 (ZP wZ yp) U0 Zj) (Qa wZ) wZ) ?_
 have hk:∀Z:US,Z[6]?=O (O (.pub (W4 old)))->Z[3]?=O (O (.pub (.int i)))->Z[4]?=O (O (.pub (.int t))) ->
   mIf (ZW (U7 (λd=>!isNon d) (UM 6)) (UR oEq (U1 6 (UM 3)) (UM 4))) (UT (int 1)) (UT (.int 0)) Z=.ok (.int (Wc old i t)) Z:=λZ r6 r3 r4=>by
  cases old with
  |none=>exact O2 (No (KS (UO r6))) U0
  |some ws=>
   have hw:ws.length=ls.length:=ga.len ws wZ;have hwi:ws[i]?=O ws[i]:=Qe (by lia);have hx:oIx (.list (ws.map Kn)) (.int i)=O (Kn ws[i]):=Cq (by lia)
   have ht:(ZW (U7 (λd=>!isNon d) (UM 6)) (UR oEq (U1 6 (UM 3)) (UM 4))) Z=.ok (decide (ws[i]=O t)) Z:=
    R3 (KS (UO r6)) (U9 (Ky r6 (UO r3) hx) (UO r4) (OW (b:=O t)))
   rw[DK ht U0 U0]
   congr 1
   unfold Wc;dsimp only;rw[hwi];by_cases h:ws[i]=O t
   .rw[QW h,Qp wZ,Qp (by rw[h])]
   .rw[QQ h,Qw (by decide),Qw (λe=>h (Q3 e))]
 refine Kh (KM (hk _ wZ wZ wZ) (Qa wZ) wZ) ?_;have h1:=vW o (b:=(ls.length:Int)+1) (M:=(lng ls:Nat)) (r:=(KP t rs:Nat)) ⟨by lia,by lia⟩ ⟨by lia,by lia⟩ ⟨by lia,by lia⟩;have h2:=Pb (b:=(lng ls:Int)+1) (n:=(ts.length:Nat)) ⟨by lia,by lia⟩ ⟨by lia,by lia⟩;have h3:=vV (ts:=ts) (b:=(lng ls:Int)+1) (i:=i) (r:=(KP t rs:Nat)) ⟨by lia,by lia⟩ ⟨by lia,by lia⟩ (by lia) (λa ha=>by have:=ga.there a ha;lia);rw[QP]at h2;refine Kh (KM (U9 (U9 (Kj (UQ (UO wZ) (UQ (UO wZ) (UQ (UO wZ) (UQ (UO wZ) UX)))) wZ h1) (UO wZ) (Rt (by lia) (by lia))) (UO wZ) Zj) (Qa wZ) wZ) ?_;have hp:((lng ls:Int)+1) ^ ts.length<=8 ^ 7:=F6 (by lia) (by lia) (by lia);exact KB (U9 (U9 (UO wZ) (Kj (UQ (U9 (UO wZ) U0 Zj) (UQ (ZP wZ htl') UX)) wZ h2) (Rt (by lia) (by lia))) (Kj (UQ (UO wZ) (UQ (U9 (UO wZ) U0 Zj) (UQ (UO wZ) (UQ (UO wZ) UX)))) wZ h3) Zj) wZ
end
theorem Mq   {g:M D}(I:US->Prop):∀(ds:w9)(qs:List ya)(Z:US)(es:w9),qs.length=ds.length ->
  (∀(i:Nat) d e,ds[i]?=O d->qs[i]?=O e->∀Z,I Z->∃Z1,s d Z=O Z1/\t Z1=.ok e.isSome Z1/\(∀x,e=O x->g Z1=.ok x Z1)/\I (KD Z1))->I Z->es.length+ds.length<=1000000->Zb s t g ds Z es=O (es++qs.filterMap id)
 |[],[],Z,es,_,_,_,_=>by rw[Zb];simp
 |d::r,e::q,Z,es,hl,st,h0,hz=>by
  obtain⟨Z1,e1,e2,e3,h1⟩:=st 0 d e wZ wZ Z h0;rw[Qz]at hz;have ih:=λes' hz'=>Mq I r q (KD Z1) es' (by simpa using hl) (λi d' e' x y=>st (i+1) d' e' (by simpa using x) (by simpa using y)) h1 hz'
  rw[Zb,e1];dsimp only;rw[e2];dsimp only;cases e with
  |none=>rw[ih es (by lia)];rfl
  |some x=>rw[Qp (show(O x).isSome=w5 from rfl),e3 x wZ];dsimp only;rw[Qp (by lia),ih (es++[x]) (by rw[Qk,QU];lia),Q6];rfl
noncomputable def KJ(W:Nat->List w8->Int->Int):Nat->List (List w8)->LO->LO
 |k,rs::ls,o::r=>(o.map (W k rs))::KJ W (k+1) ls r
 |_,_,_=>[]
noncomputable def KQ(l:LO):Int:=(l.filterMap id).sum
theorem Ts   : KQ (o::l)=o.getD 0+KQ l:=by
 cases o with
 |none=>show KQ l=0+KQ l;lia
 |some x=>rfl
section
variable{cs:w8}{ls:List (List w8)}{o:Ord}{old:yh}{ts:w8}{ws:LO}
noncomputable def Kd(ls:List (List w8))(o:Ord)(old:yh)(ts:w8)(a t:Int):Int:=K8 ls o old ts a.toNat (ls.getD a.toNat []) t
noncomputable def Zt(V:Int->Int->Int)(q:Int×Int):D:=.tuple [.int q.1,.int q.2,.int (V q.1 q.2)]
theorem MM(g:Good cs ls)(ga:ZU cs.length ls.length old ts):Y4 [Kp cs ls,KZ o old ts]=O (.list ((U3 0 ls).map (Zt (Kd ls o old ts)))):=by
 refine KY  rfl ?_;unfold Se;refine Kh (WH (Kj (UQ (UO wZ) (UQ (UO wZ) UX)) wZ (Li g ga))) ?_;refine Kh (KM (Kj (UQ (UO wZ) UX) wZ (Ej g)) (Qa wZ) wZ) ?_;have few:(U3 0 ls).length<=42:=by rw[(Ro ls 0).length_eq];exact RW g
 have hc:Zb (gT 2 (gNC (gN 3) (gNC (gN 4) (gN0)))) (UT w5) (Kz (UP (UM 3) (UP (UM 4) (UP (UY 5 Ww (UP (UM 0) (UP (UM 1) (UP (UM 2) (UP (UM 3) (UP (UM 4) (UN))))))) (UN))))) ((U3 0 ls).map U4) (KD [pb (Kp cs ls),pb (KZ o old ts),pb (.int (lng ls:Nat))]++Uy 2 w4) []=O ((U3 0 ls).map (Zt (Kd ls o old ts))):=by
  refine Xd (λZ=>∃x y,Z=[pb (Kp cs ls),pb (KZ o old ts),pb (.int (lng ls:Nat)),x,y]) _ _ _ _ (by simp only[Qb]) ?_ ⟨w4,w4,rfl⟩ (by rw[Qb,Qx];lia);rintro i d e hd he Z ⟨x,y,rfl⟩;rw[Qd]at hd he;cases hw:(U3 0 ls)[i]? with
  |none=>rw[hw]at hd;cases hd
  |some q=>
  rw[hw]at hd he;cases hd;cases he;obtain⟨a,t⟩:=q;obtain⟨j,rs,hj,ha,ht⟩:=W0 (Qs hw);have ha:a=(j:Int):=by rw[QO]at ha;exact ha
  subst ha;have hv:Kd ls o old ts j t=K8 ls o old ts j rs t:=by unfold Kd;rw[QP,Qh,hj];rfl
  refine⟨_,Kq wZ (UZ (UV (Qa wZ) wZ) (UZ (UV (Qa wZ) wZ) Kr)),rfl,?_,_,_,rfl⟩;unfold Zt;dsimp only;rw[hv];exact Yi (UQ (UO wZ) (UQ (UO wZ) (UQ (Kj (UQ (UO wZ) (UQ (UO wZ) (UQ (UO wZ) (UQ (UO wZ) (UQ (UO wZ) UX))))) wZ (ka g ga hj t)) UX))) (Qa wZ)
 exact KB (KS (ZC (Zv (Kj (UQ (UO wZ) UX) wZ (wK g)) ZK) hc)) wZ
end
theorem Ef{c s w dg x6:Option Sl}{m:Nat}{T:w8}(hm:0<m):∀(k fuel d:Nat),(∀j,j<k->(((d+j) % m:Nat):Int)∈T)->(((d+k) % m:Nat):Int)∉T->d<m->k<fuel ->
  Xz (SR oIn (UM 7) 6) NE fuel [w,c,s,pb (.int m),dg,x6,O (.own (T.map int)),pb (.int d)]=.nx [w,c,s,pb (.int m),dg,x6,O (.own (T.map int)),pb (.int (((d+k) % m:Nat):Int))]
 |0,fuel+1,d,_,hn,hd,_=>by
  have e0:(d+0) % m=d:=by rw[Uk];exact Nat.mod_eq_of_lt hd
  rw[e0]at hn⊢;have e:(T.contains (d:Int))=w6:=by simpa using hn
  rw[Xz,NH (r:=w6) (UO wZ) wZ (by rw[Nj,e])];rfl
 |k+1,fuel+1,d,hj,hn,hd,hf=>by
  have h0:=hj 0 (by lia);rw[Uk,Nat.mod_eq_of_lt hd]at h0;have e:(T.contains (d:Int))=w5:=by simpa using h0
  rw[Xz,NH (r:=w5) (UO wZ) wZ (by rw[Nj,e])];dsimp only;rw[Qp wZ]
  have hst:NE [w,c,s,pb (.int m),dg,x6,O (.own (T.map int)),pb (.int d)]=.nx [w,c,s,pb (.int m),dg,x6,O (.own (T.map int)),pb (.int (((d+1) % m:Nat):Int))]:=by
   refine KM (U9 (U9 (UO wZ) U0 Zj) (UO wZ) (V5 (by lia))) (Qa wZ) ?_;have e1:((d+1:Nat):Int)=(d:Int)+1:=by lia
   have:((d:Int)+1) % (m:Int)=(((d+1) % m:Nat):Int):=by rw[Int.natCast_emod,e1]
   rw[this];rfl
  rw[hst];dsimp only;have e2:∀j,((d+1) % m+j) % m=(d+(j+1)) % m:=λj=>by rw[Nat.mod_add_mod];congr 1;lia
  have:=Ef (c:=c) (s:=s) (w:=w) (dg:=dg) (x6:=x6) (T:=T) hm k fuel ((d+1) % m) (λj hjk=>by rw[e2];exact hj (j+1) (by lia)) (by rw[e2];exact hn) (Nat.mod_lt _ hm) (by lia);rw[e2]at this;exact this
section
variable{cs:w8}{ls:List (List w8)}
theorem j9(g:Good cs ls)(c s:Int):∃r,Ve [Kp cs ls,.int c,.int s]=O r/\∃o old ts,r=KZ o old ts/\ZU cs.length ls.length old ts:=by
 refine WD (Z:=[pb (Kp cs ls),pb (.int c),pb (.int s),w4,w4,w4,w4,w4]) wZ ?_;unfold TD;have l7:=g.l7;have l1:=g.l1;have c6:=g.c6;have c1:=g.c1;have yp:Kk [.list (ls.map KR)]=O (.int ls.length):=by rw[Zy,Qb]
 have yF:Kk [.list (cs.map int)]=O (.int cs.length):=by rw[Zy,Qb]
 generalize hm:ls.length=m at *;generalize hn:cs.length=n at *;refine Kh (KM (Yg (UQ (Ky wZ U0 Wi) UX) yp) (Qa wZ) wZ) ?_;have s1:U8 (.list [.int 3,.int 2,.int ((m:Int)+1)]) (.list (Uy m (.int ((n:Int)+1))))=O (.list (([3,2,(m:Int)+1]++Uy m ((n:Int)+1)).map int)):=by rw[XH (by rw[QF];show 3+m<=_;lia),Qy,JP];rfl
 have s2:U8 (.list (([3,2,(m:Int)+1]++Uy m ((n:Int)+1)).map int)) (.list (Uy m (.int (m:Int))))=O (.list ((szA n m).map int)):=by rw[XH (by rw[Qb,Qk,QF,QF];show 3+m+m<=_;lia)];unfold szA;rw[Qy (l₂:=Uy m (m:Int)),JP (n:=m) (a:=(m:Int))]
 obtain⟨r,hF,dg,rfl,hdl,hdb⟩:=OB c s (sizes:=szA n m) (λx hx=>by
  unfold szA at hx;rcases QI.mp hx with hx|hx
  .rcases QI.mp hx with hx|hx
   .have hx:x=3∨x=2∨x=(m:Int)+1:=by simpa using hx
    lia
   .rw[(List.mem_replicate.mp hx).2];lia
  .rw[(List.mem_replicate.mp hx).2];lia) (by rw[Hs];lia)
 rw[Hs]at hdl;refine Kh (KM (Kj (UQ (UO wZ) (UQ (UO wZ) (UQ (U9 (U9 (Zz (UQ U0 (UQ U0 (UQ (U9 (UO wZ) U0 Zj) UX))) (Qa wZ)) (U9 (Zz (UQ (U9 (Yg (UQ (Ky wZ U0 Tc) UX) yF) U0 Zj) UX) (Qa wZ)) (UO wZ) (Lh (by lia))) s1) (U9 (Zz (UQ (UO wZ) UX) (Qa wZ)) (UO wZ) (Lh (by lia))) s2) UX))) wZ hF) (Qa wZ) wZ) ?_;have get:∀j,j<3+m+m->∃d,dg[j]?=O d:=λj hj=>⟨dg[j]'(by lia),Qe _⟩
 obtain⟨d0,e0⟩:=get 0 (by lia);obtain⟨d1,e1⟩:=get 1 (by lia);obtain⟨d2,e2⟩:=get 2 (by lia);have b0:=hdb 0 d0 3 e0 wZ;have b1:=hdb 1 d1 2 e1 wZ;have b2:=hdb 2 d2 ((m:Int)+1) e2 wZ;have i0:oIx (.list (dg.map int)) (.int 0)=O (.int d0):=K0 (j:=0) (by rw[Qd,e0];rfl);have i1:oIx (.list (dg.map int)) (.int 1)=O (.int d1):=K0 (j:=1) (by rw[Qd,e1];rfl);have i2:oIx (.list (dg.map int)) (.int 2)=O (.int d2):=K0 (j:=2) (by rw[Qd,e2];rfl);refine Kh (KM U0 (Qa wZ) wZ) ?_
 let ol:w8:=(dg.drop 3).take m
 have oll:ol.length=m:=by show((dg.drop 3).take m).length=m;rw[Q2,Jm];lia
 have olb:∀d∈ol,0<=d/\d<(n:Int)+1:=λd hd=>by
  obtain⟨j,hj,e⟩:=Ud.mp hd;have hjm:j<m:=by lia
  refine hdb (3+j) d _ ?_ (Ay hjm);have:ol[j]?=O d:=by rw[Qe hj,e]
  show dg[3+j]?=_;rw[←this];show _=((dg.drop 3).take m)[j]?;rw[List.getElem?_take,Qp hjm,List.getElem?_drop]
 have yv:DL.cutD (dg.map int) (O 3) (O (3+(m:Int)))=ol.map int:=by
  rw[NL (by decide) (by lia) (by lia)];have t1:(3:Int).toNat=3:=rfl;have t2:(3+(m:Int)).toNat-(3:Int).toNat=m:=by lia
  rw[t2,t1]
 have step:Ho (sIf (UR oEq (U1 4 (UT (.int 1))) (UT (.int 1))) (Zq 5 (Zo (KW (ZX (UM 4) (Ke (UT (.int 3)) λx=>Kf (YF x)) (Ke (UR U8 (UT (.int 3)) (UM 3)) λx=>Kf (YF x)))) 1 (gN 8) (UT w5) (UR oIx (Ks (UP (UT .none) (UP (UR K9 (UM 8) (UT (.int 1))) (UN)))) (ZB Ry (UP (U7 UA (Zi (oIB λi j=>decide (j<i)) 8 (UT (.int 0)))) (UN)))))) (sNx))
   [pb (Kp cs ls),pb (.int c),pb (.int s),pb (.int m),pb (.list (dg.map int)),O (.pub .none),w4,w4]
   (λr=>∃old x6,r=.nx [pb (Kp cs ls),pb (.int c),pb (.int s),pb (.int m),pb (.list (dg.map int)),x6,w4,w4] /\
    (x6=O (.pub (W4 old)) ∨ ∃ws,old=O ws/\x6=O (.own (ws.map Kn)))/\(∀ws,old=O ws->ws.length=m)/\∀ws t,old=O ws->O t∈ws->0<=t/\t<n):=by
  have hc:∀a b:Option Sl,Zb (gN 8) (UT w5) (UR oIx (Ks (UP (UT .none) (UP (UR K9 (UM 8) (UT (.int 1))) (UN)))) (ZB Ry (UP (U7 UA (Zi (oIB λi j=>decide (j<i)) 8 (UT (.int 0)))) (UN)))) (ol.map int) (KD [pb (Kp cs ls),pb (.int c),pb (.int s),pb (.int m),pb (.list (dg.map int)),O (.pub .none),w4,w4]++Uy 1 w4) []=O ((ol.map Rx).map Kn):=λ_ _=>by
   refine Xd (λZ=>∃x,Z=[pb (Kp cs ls),pb (.int c),pb (.int s),pb (.int m),pb (.list (dg.map int)),O (.pub .none),w4,w4,x]) _ _ _ _ (by simp only[Qb]) ?_ ⟨w4,rfl⟩ (by rw[Qb,Qx];lia);rintro i d e hd he Z ⟨x,rfl⟩;rw[Qd]at hd;rw[Qd,Qd]at he;cases hw:ol[i]? with
   |none=>rw[hw]at hd;cases hd
   |some z=>
   rw[hw]at hd he;cases hd;cases he;exact⟨_,UV (Qa wZ) wZ,rfl,U9 (Zz (UQ U0 (UQ (U9 (UO wZ) U0 Xc) UX)) (Qa wZ)) (Yg (UQ (KS (Ye wZ U0 wZ)) UX) wZ) (q8 z),_,rfl⟩
  apply KU
  case h1=>exact U9 (Ky wZ U0 i1) U0 XI
  case h2=>
   intro _;refine YI (YJ (ZC (Zv (WC (UO wZ) (Y8 U0) (Y8 (U9 U0 (UO wZ) Zj)) (by rw[V1,yv])) ZK) (hc w4 w4)) (Qa wZ) wZ) ?_;refine⟨O (ol.map Rx),_,rfl,.inr ⟨_,rfl,rfl⟩,λws e=>?_,λws t e ht=>?_⟩
   .cases e;rw[Qb];exact oll
   .cases e
    obtain⟨d,hd,e⟩:=Qn.mp ht;have:=olb d hd;unfold Rx at e;split at e
    .cases e;lia
    .cases e
  case h3=>exact λ_=>Ze ⟨w4,_,rfl,.inl wZ,(λws e=>by cases e),(λws t e=>by cases e)⟩
 refine Za (HF step λr hr=>?_);obtain⟨old,x6,rfl,hx6,zW,hob⟩:=hr;refine Zc ?_;refine Kh (YJ (Tk UX (Qa wZ)) (Qa wZ) wZ) ?_;obtain⟨k2,rfl⟩:∃k:Nat,d2=k:=⟨d2.toNat,by lia⟩
 let tl:w8:=(dg.drop (3+m)).take k2
 have tll:tl.length=k2:=by show((dg.drop (3+m)).take k2).length=k2;rw[Q2,Jm];lia
 have tlb:∀j d,tl[j]?=O d->0<=d/\d<(m:Int):=λj d hj=>by
  have yB:j<k2:=by have:=(Qg.mp hj).1;lia
  refine hdb (3+m+j) d _ ?_ (q9 (by lia));rw[←hj];show _=((dg.drop (3+m)).take k2)[j]?;rw[List.getElem?_take,Qp yB,List.getElem?_drop]
 have ag:DL.cutD (dg.map int) (O (3+(m:Int))) (O (3+(m:Int)+(k2:Int)))=tl.map int:=by
  rw[NL (by lia) (by lia) (by lia)];have t1:(3+(m:Int)).toNat=3+m:=by lia
  have t2:(3+(m:Int)+(k2:Int)).toNat-(3+(m:Int)).toNat=k2:=by lia
  rw[t2,t1]
 apply Za;apply ZR (λi Z=>∃(T:w8)(x8:Option Sl),Z=[pb (Kp cs ls),pb (.int c),pb (.int s),pb (.int m),pb (.list (dg.map int)),x6,O (.own (T.map int)),x8]/\T.length=i/\T.Nodup/\∀a∈T,0<=a/\a<(m:Int))
 case h1=>exact Zv (WC (UO wZ) (Y8 (U9 U0 (UO wZ) Zj)) (Y8 (U9 (U9 U0 (UO wZ) Zj) (Ky wZ U0 i2) Zj)) (by rw[V1,ag])) ZK
 case h0=>exact⟨[],_,rfl,rfl,List.nodup_nil,λ_ h=>by cases h⟩
 case hst=>
  rintro i d Z hi ⟨T,x8,rfl,hT,hTn,hTb⟩;rw[Qd]at hi;cases hw:tl[i]? with
  |none=>rw[hw]at hi;cases hi
  |some z=>
  rw[hw]at hi;cases hi;have hz:=tlb i z hw;have yo:i<k2:=by have:=(Qg.mp hw).1;lia
  obtain⟨zz,rfl⟩:∃k:Nat,z=k:=⟨z.toNat,by lia⟩
  refine⟨_,UV (Qa wZ) wZ,?_⟩;unfold L0;obtain⟨k,hk,z8,hk2⟩:=xN (m:=m) (T:=T) zz (by lia) hTn;refine Kh (Ef (by lia) k 1000 zz z8 hk2 (by lia) (by lia)) ?_;refine YI (WN wZ (UO wZ) wZ (by rw[Qb];lia) wZ) ?_;refine Zf ⟨T++[(((zz+k) % m:Nat):Int)],_,by rw[Qy (l₁:=T) (f:=int)];rfl,by rw[Qk,hT];rfl,?_,λa ha=>?_⟩
  .refine List.nodup_append.mpr ⟨hTn,List.nodup_cons.mpr ⟨(by simp),List.nodup_nil⟩,λa ha b hb e=>?_⟩
   rw[Qu.mp hb]at e;exact hk2 (e ▸ ha)
  .rcases QI.mp ha with h|h
   .exact hTb a h
   .rw[Qu.mp h]
    have:=Nat.mod_lt (zz+k) (show 0<m by lia);exact⟨by lia,by lia⟩
 case hend=>
  rintro Z ⟨T,x8,rfl,hT,hTn,hTb⟩;refine Zc ?_
  obtain⟨o,ho⟩:∃o:Ord,oIx (.list [.str "firsts", .str "full", .str "lasts"]) (.int d0)=O (.str o.tx):=by
   have:d0=0∨d0=1∨d0=2:=by lia
   rcases this with rfl|rfl|rfl
   .exact⟨.firsts,K0 (j:=0) wZ⟩
   .exact⟨.full,K0 (j:=1) wZ⟩
   .exact⟨.lasts,K0 (j:=2) wZ⟩
  have ga:ZU n m old T:=⟨zW,hob,hTn,hTb⟩;rcases hx6 with rfl|⟨ws,rfl,rfl⟩
  .exact KB (Yi (UQ (U9 (Zz (UQ U0 (UQ U0 (UQ U0 UX))) (Qa wZ)) (Ky wZ U0 i0) ho) (UQ (UO wZ) (UQ (YY wZ wZ) UX))) (Qa wZ)) ⟨_,rfl,o,_,T,rfl,ga⟩
  .exact KB (Yi (UQ (U9 (Zz (UQ U0 (UQ U0 (UQ U0 UX))) (Qa wZ)) (Ky wZ U0 i0) ho) (UQ (YY wZ wZ) (UQ (YY wZ wZ) UX))) (Qa wZ)) ⟨_,rfl,o,O ws,T,rfl,ga⟩
end
section
variable{cs:w8}{ls:List (List w8)}{ws:LO}
theorem vU{i:Nat}{rs:List w8}(h:ls[i]?=O rs)(t:Int):Vg [Kp cs ls,.int i,.int t]=O (.int (KP t rs:Nat)):=by
 refine KY  rfl ?_;apply Za;apply ZR (λi' Z=>(∃x2 x3,Z=[pb (Kp cs ls),pb (.int i),pb (.int t),x2,x3])/\∀j r,j<i'->rs[j]?=O r->r.contains t=w6)
 case h1=>exact XJ (UQ (U9 (Ky wZ U0 Wi) (UO wZ) (OO h)) UX) XG
 case h0=>exact⟨⟨_,_,rfl⟩,λj r h=>absurd h (JS _)⟩
 case hst=>
  rintro k d Z hi ⟨⟨x2,x3,rfl⟩,hb⟩;obtain⟨x,hx,rfl⟩:=Xa hi;rw[Qd]at hx;cases hr:rs[k]? with
  |none=>rw[hr]at hx;cases hx
  |some r=>
   rw[hr]at hx;cases hx;refine⟨_,Kq wZ (UZ (UV (Qa wZ) wZ) (UZ (UV (Qa wZ) wZ) Kr)),?_⟩;apply KU
   case h1=>exact Ye wZ (UO wZ) (Nm t r)
   case h2=>
    intro hh;refine KB (U9 (UO wZ) U0 Zj) (Pc ?_);rw[FM hr hh hb];refine⟨?_⟩
    congr 2
    lia
   case h3=>
    intro hh;refine Ze (Zf ⟨⟨_,_,rfl⟩,λj r' hj e=>?_⟩);rcases JY.mp hj with hj|rfl
    .exact hb j r' hj e
    .rw[hr]at e;cases e;exact hh
 case hend=>rintro Z ⟨⟨x2,x3,rfl⟩,hb⟩;refine Zc (KB U0 ?_);rw[FL (λj r hj e=>hb j r (by rw[YH,Qb];exact hj) e)];rfl
noncomputable def Kv(n:Nat)(qs:yi):w8:=(Ux n).map λp=>((qs.count p:Nat):Int)
theorem XF(n:Nat)(qs:yi):(Kv n qs).length=n:=by unfold Kv;rw[Qb,Qo]
theorem Oa{n p:Nat}{qs:yi}(h:p<n):(Kv n qs)[p]?=O ((qs.count p:Nat):Int):=by unfold Kv;rw[Qd,QM h];rfl
theorem qY(n:Nat):Kv n []=Uy n 0:=by unfold Kv;rw[List.eq_replicate_iff];exact⟨by rw[Qb,Qo],λb hb=>by obtain⟨p,_,rfl⟩:=Qn.mp hb;rfl⟩
theorem GZ(hl:ws.length=ls.length):(U6 ls ws).length=ls.length:=by unfold U6;rw[Uh];omega
end
noncomputable def YW(c:w8):Int:=c.getD (c.length-1) 0
noncomputable def Yp:Ord->w8->w8
 |.firsts,c=>c
 |.full,c=>(0-YW c)::c
 |.lasts,c=>c.reverse.map λx=>0-x
noncomputable def Zd(old:yh)(ws:LO):Nat:=match old with
 |none=>0
 |some os=>((os.zip ws).filter λp=>decide (p.1=p.2)&&p.2.isSome).length
noncomputable def Zx(ls:List (List w8))(ws:LO)(a:Int):Int:=match ws.getD a.toNat w4 with
 |none=>0
 |some t=>(lng ls:Int)+1-(KP t (ls.getD a.toNat []):Nat)
noncomputable def btr:LP->Bool
 |[]=>w6
 |(m,y)::r=>if m=y then btr r else decide (y=0) || (decide (0<m)&&decide (m<y))
noncomputable def rgA(ls:List (List w8))(ws:LO)(a:Int):Int:=(U6 ls ws).getD a.toNat 0
noncomputable def W8(o:Ord)(c1 c2:w8)(k1 k2:Int)(r1 r2:w8):Bool:=if fnz (WL o c1 c2)=0 then(if k1=k2 then btr (r1.zip r2)else decide (k2<k1))else decide (0<fnz (WL o c1 c2))
theorem Ni(a b:w8):fnz (a++b)=if fnz a=0 then fnz b else fnz a:=by
 induction a with
 |nil=>rfl
 |cons x r ih=>
  show(if x=0 then fnz (r++b)else x)=if(if x=0 then fnz r else x)=0 then fnz b else(if x=0 then fnz r else x)
  by_cases h:x=0
  .rw[Qp h,Qp h,ih]
  .rw[Qw h,Qw h,Qw h]
theorem Hr:∀{xs ys:w8},xs.length=ys.length->HT.Xm ys xs=decide (0<fnz (Kx xs ys))
 |[],[],_=>rfl
 |x::xs,y::ys,h=>by
  rw[HT.OE];show _=decide (0<if x-y=0 then fnz (Kx xs ys)else x-y);by_cases e:y=x
  .rw[if_pos e,if_pos (by omega),Hr (by simpa using h)]
  .rw[Qw e,Qw (by omega)]
   exact Jr.2 (by rw[QY,QY];omega)
theorem Os{a b c d:w8}(h:a.length=c.length):Kx (a++b) (c++d)=Kx a c++Kx b d:=by unfold Kx;rw[List.zip_append h,Qy]
theorem Pg{a b:w8}(h:a.length=b.length):(Kx a b).length=a.length:=by unfold Kx;rw[Qb,J7];omega
theorem Mp{a b:w8}{i:Nat}{x y:Int}(h1:a[i]?=O x)(h2:b[i]?=O y):(Kx a b)[i]?=O (x-y):=by unfold Kx;rw[Qd,List.getElem?_zip_eq_some.mpr (by exact(⟨h1,h2⟩:a[i]?=O (x,y).1/\b[i]?=O (x,y).2))];rfl
theorem GY{o:Ord}{a b:w8}(h:a.length=b.length):(Yp o a).length=(Yp o b).length:=by
 cases o with
 |firsts=>exact h
 |full=>show(_::a).length=(_::b).length;rw[Qz,Qz,h]
 |lasts=>show(a.reverse.map _).length=(b.reverse.map _).length;rw[Qb,Qb,Jn,Jn,h]
theorem F5{o:Ord}{a b:w8}(h:a.length=b.length)(hne:a≠[]):Kx (Yp o a) (Yp o b)=WL o a b:=by
 have hp:0<a.length:=List.length_pos_iff.mpr hne;cases o with
 |firsts=>rfl
 |full=>
  have zo:=Pg h;have hx:a[a.length-1]?=O (YW a):=by unfold YW;rw[Qh,Qe (by omega)];rfl
  have hy:b[a.length-1]?=O (YW b):=by unfold YW;rw[←h,Qh,Qe (by omega)];rfl
  have hm:=Mp hx hy
  show(0-YW a-(0-YW b))::Kx a b=((Kx a b).map λx=>-x).drop ((Kx a b).length-1)++Kx a b
  have hd:((Kx a b).map λx=>-x).drop ((Kx a b).length-1)=[-(YW a-YW b)]:=by
   rw[zo];have hl:a.length-1<((Kx a b).map λx=>-x).length:=by rw[Qb,zo];omega
   rw[Jc hl,List.drop_of_length_le (by rw[Qb,zo];omega)];have e:((Kx a b).map λx=>-x)[a.length-1]?=O (-(YW a-YW b)):=by rw[Qd,hm];rfl
   rw[Qe hl]at e;rw[Q3 e]
  rw[hd];show _ = -(YW a-YW b)::Kx a b
  congr 1
  omega
 |lasts=>
  show Kx (a.reverse.map λx=>0-x) (b.reverse.map λx=>0-x)=((Kx a b).map λx=>-x).reverse;apply Jp;intro i;have zo:=Pg h;by_cases hi:i<a.length
  .obtain⟨x,hx⟩:∃x,a[a.length-1-i]?=O x:=⟨_,Qe (by omega)⟩
   obtain⟨y,hy⟩:∃y,b[a.length-1-i]?=O y:=⟨_,Qe (by omega)⟩
   have e1:(a.reverse.map λx=>0-x)[i]?=O (0-x):=by rw[Qd,J9 hi,hx];rfl
   have e2:(b.reverse.map λx=>0-x)[i]?=O (0-y):=by rw[Qd,J9 (by omega),←h,hy];rfl
   rw[Mp e1 e2,J9 (by rw[Qb,zo];exact hi),Qb,zo,Qd,Mp hx hy];show O (0-x-(0-y))=O (-(x-y))
   congr 1
   omega
  .rw[QT (by rw[Pg (by rw[Qb,Qb,Jn,Jn,h]),Qb,Jn];omega),QT (by rw[Jn,Qb,zo];omega)]
noncomputable def tf(L:Nat)(r:Int):Int:=if r=0 then 0 else(L:Int)+1-r
theorem Mo{L:Nat}:∀{xs ys:w8},(∀r∈xs,0<=r/\r<=L)->(∀r∈ys,0<=r/\r<=L)->decide (0<fnz (Kx (xs.map (tf L)) (ys.map (tf L))))=btr (xs.zip ys)
 |[],ys,_,_=>by cases ys<;>rfl
 |_::_,[],_,_=>rfl
 |x::xs,y::ys,hx,hy=>by
  have bx:=hx x Qj;have by':=hy y Qj;rw[Q0,btr];show decide (0<if tf L x-tf L y=0 then fnz (Kx (xs.map (tf L)) (ys.map (tf L)))else tf L x-tf L y)=_;by_cases e:x=y
  .rw[Qp e,Qp (by rw[e];omega),Mo (λr h=>hx r (Qi _ h)) (λr h=>hy r (Qi _ h))]
  .have hne:tf L x-tf L y≠0:=by unfold tf;split<;>split<;>omega
   rw[Qw e,Qw hne];apply Jr.2;rw[QY,Bool.or_eq_true,Jd,QY,QY,QY];unfold tf
   split<;>split<;>omega
section
variable{cs:w8}{ls:List (List w8)}{ws us:LO}{o:Ord}{old:yh}{ts:w8}
theorem Pa(g:Good cs ls)(dl:Deal cs ls ws)(ga:ZU cs.length ls.length old ts):ts.map (Zx ls ws)=(ts.map (rgA ls ws)).map (tf (lng ls)):=by
 rw[Jb];apply JC;intro z hz;have h:=ga.there z hz;obtain⟨a,rfl⟩:∃a:Nat,z=a:=⟨z.toNat,by omega⟩
 have hal:a<ls.length:=by omega
 have zQ:a<ws.length:=by have:=dl.len;omega
 have hls:ls[a]?=O ls[a]:=Qe hal;have hwa:ws[a]?=O ws[a]:=Qe zQ;have hg:=Fe hls hwa;show Zx ls ws a=tf (lng ls) (rgA ls ws a);unfold Zx rgA;rw[QP,Qh,Qh,Qh,hwa,hls,hg]
 show(match ws[a]with|none=>(0:Int)|some t=>(lng ls:Int)+1-(KP t ls[a]:Nat))=tf (lng ls) (rg ls[a] ws[a])
 have hp:=λt (e:ws[a]=O t)=>OD (dl.wish a t ls[a] (by rw[hwa,e]) hls)
 generalize ws[a]=w at hp;cases w with
 |none=>rfl
 |some t=>have:=hp t wZ;show _=tf (lng ls) ((KP t ls[a]:Nat):Int);unfold tf;rw[Qw (by omega)]
theorem RV{z:Int}:0<=rgA ls ws z/\rgA ls ws z<=lng ls:=by
 unfold rgA;rw[Qh];cases h:(U6 ls ws)[z.toNat]? with
 |none=>exact⟨Ja 0,by show(0:Int)<=_;omega⟩
 |some r=>exact P3 r (Qs h)
theorem qX(g:Good cs ls)(d1:Deal cs ls ws)(d2:Deal cs ls us)(ga:ZU cs.length ls.length old ts) :
  HT.Xm (Yp o (Kw (lng ls) (U6 ls us))++[(Zd old us:Int)]++ts.map (Zx ls us)) (Yp o (Kw (lng ls) (U6 ls ws))++[(Zd old ws:Int)]++ts.map (Zx ls ws)) =
   W8 o (Kw (lng ls) (U6 ls ws)) (Kw (lng ls) (U6 ls us)) (Zd old ws) (Zd old us) (ts.map (rgA ls ws)) (ts.map (rgA ls us)):=by
 have hl:(Kw (lng ls) (U6 ls ws)).length=(Kw (lng ls) (U6 ls us)).length:=by rw[VZ,VZ]
 have hne:Kw (lng ls) (U6 ls ws)≠[]:=λe=>by have:=VZ (lng ls) (U6 ls ws);rw[e]at this;cases this
 have zW:=GY (o:=o) hl;rw[Hr (by simp only[Qk,Qb,zW];rfl),Os (by rw[Qk,Qk,zW];rfl),Os zW,F5 hl hne,Ni,Ni,Pa g d1 ga,Pa g d2 ga];have ht:=Mo (L:=lng ls) (xs:=ts.map (rgA ls ws)) (ys:=ts.map (rgA ls us)) (λr h=>by obtain⟨z,_,rfl⟩:=Qn.mp h;exact RV) (λr h=>by obtain⟨z,_,rfl⟩:=Qn.mp h;exact RV);unfold W8;rw[←ht]
 have hk:fnz (Kx [(Zd old ws:Int)] [(Zd old us:Int)])=(Zd old ws:Int)-Zd old us:=by
  show(if(Zd old ws:Int)-Zd old us=0 then(0:Int)else(Zd old ws:Int)-Zd old us)=_
  split<;>omega
 rw[hk];by_cases h1:fnz (WL o (Kw (lng ls) (U6 ls ws)) (Kw (lng ls) (U6 ls us)))=0
 .rw[Qp h1,Qp h1]
  by_cases h2:(Zd old ws:Int)=Zd old us
  .rw[Qp h2,Qp (by omega)]
  .rw[Qw h2,Qw (by omega)]
   exact Jr.2 (by rw[QY,QY];omega)
 .rw[Qw h1,Qw h1,Qw h1]
end
noncomputable def val(B:Int):w8->Int
 |[]=>0
 |d::r=>d*B ^ r.length+val B r
theorem Mb{B:Int}(h:0<B)(n:Nat):0<B ^ n:=Int.pow_pos h
theorem Mn{B:Int}(hB:0<B):∀{l:w8},(∀d∈l, -(B-1)<=d/\d<=B-1) -> -(B ^ l.length-1)<=val B l/\val B l<=B ^ l.length-1
 |[],_=>by simp[val]
 |d::r,h=>by
  have h1:=h d Qj;have h2:=Mn hB (l:=r) λx hx=>h x (Qi _ hx);have hp:=Mb hB r.length;rw[val,Qz,Int.pow_succ];generalize B ^ r.length=P at h2 hp;generalize val B r=v at h2;have u1:d*P<=(B-1)*P:=Ji h1.2 (by omega)
  have u2 : -(B-1)*P<=d*P:=Ji h1.1 (by omega);have e1:(B-1)*P=P*B-P:=by rw[Int.sub_mul,Int.one_mul,Int.mul_comm]
  have e2 : -(B-1)*P = -(P*B-P):=by rw[Int.neg_mul,e1]
  omega
theorem Mm{X Y P:Int}(hP:0<P)(hY : -(P-1)<=Y/\Y<=P-1):(0<X*P+Y ↔ 0<X∨X=0/\0<Y)/\(X*P+Y=0 ↔ X=0/\Y=0):=by
 rcases Int.lt_trichotomy X 0 with h|h|h
 .have:X*P <= -1*P:=Ji (by omega) (by omega)
  constructor<;>constructor<;>intro h'<;>omega
 .subst h
  rw[Int.zero_mul]
  constructor<;>constructor<;>intro h'<;>omega
 .have:1*P<=X*P:=Ji (by omega) (by omega)
  constructor<;>constructor<;>intro h'<;>omega
theorem Nh{B:Int}(hB:0<B):∀{l:w8},(∀d∈l, -(B-1)<=d/\d<=B-1)->(0<val B l ↔ 0<fnz l)/\(val B l=0 ↔ fnz l=0)
 |[],_=>by simp[val,fnz]
 |d::r,h=>by
  have hr:=λx hx=>h x (Qi d hx);have ih:=Nh hB (l:=r) hr;have tp:=Mm (X:=d) (Mb hB r.length) (Mn hB hr)
  show(0<d*B ^ r.length+val B r ↔ 0<if d=0 then fnz r else d)/\(d*B ^ r.length+val B r=0 ↔ (if d=0 then fnz r else d)=0)
  by_cases hd:d=0
  .rw[Qp hd]
   constructor
   .rw[tp.1,ih.1];omega
   .rw[tp.2,ih.2];omega
  .rw[Qw hd]
   constructor
   .rw[tp.1];omega
   .rw[tp.2];omega
theorem Ma{B:Int}:∀{xs ys:w8},xs.length=ys.length->val B (Kx xs ys)=val B xs-val B ys
 |[],[],_=>rfl
 |x::xs,y::ys,h=>by
  have hl:xs.length=ys.length:=by simpa using h
  show(x-y)*B ^ (Kx xs ys).length+val B (Kx xs ys)=_
  rw[Ma hl,Pg hl,val,val,←hl,Int.sub_mul];omega
theorem Aw{B:Int}(l:w8):val B (l.map λx=>-x) = -val B l:=by
 induction l with
 |nil=>rfl
 |cons d r ih=>rw[Qt,val,val,ih,Qb,Int.neg_mul];omega
theorem F4{B:Int}:∀{xs:w8}{p:Nat},p<xs.length->val B (WM xs p 1)=val B xs+B ^ (xs.length-1-p)
 |x::xs,0,_=>by
  show(x+1)*B ^ xs.length+val B xs=x*B ^ xs.length+val B xs+B ^ xs.length
  rw[Int.add_mul,Int.one_mul];omega
 |x::xs,p+1,h=>by
  have hp:p<xs.length:=by simpa using h
  have ih:=F4 (B:=B) hp;have e:WM (x::xs) (p+1) 1=x::WM xs p 1:=by unfold WM;rw[List.set_cons_succ];rfl
  rw[e,val,val,ih,FJ];have e2:(x::xs).length-1-(p+1)=xs.length-1-p:=by rw[Qz];omega
  rw[e2];omega
theorem j8{n p:Nat}{qs:yi}:WM (Kv n qs) p 1=Kv n (p::qs):=by
 apply Jp;intro k;by_cases hk:k<n
 .rw[kg (Oa hk),Oa hk,JT]
  congr 1
  by_cases e:k=p
  .rw[if_pos e,e,if_pos (by simp)];omega
  .have:¬(p==k)=w5:=by rw[beq_iff_eq];exact λz=>e z.symm
   rw[Qw e,Qw this];omega
 .rw[QT (by rw[FJ,XF];omega),QT (by rw[XF];omega)]
theorem j7{B:Int}(n:Nat):val B (Uy n 0)=0:=by
 induction n with
 |zero=>rfl
 |succ n ih=>rw[Uf,val,ih,Int.zero_mul];rfl
theorem N9{B:Int}{n:Nat}:∀{qs:yi},(∀p∈qs,p<n)->val B (Kv n qs)=(qs.map λp=>B ^ (n-1-p)).sum
 |[],_=>by rw[qY,j7];rfl
 |p::qs,h=>by have hp:=h p Qj;rw[←j8,F4 (by rw[XF];exact hp),N9 (λq hq=>h q (Qi _ hq)),XF,Qt,Jj];omega
theorem Av{B:Int}{n:Nat}:∀{qs:yi},(∀p∈qs,p<n)->val B (Kv n qs).reverse=(qs.map λp=>B ^ p).sum:=λ{qs} h=>by
 have e:(Kv n qs).reverse=Kv n (qs.map λp=>n-1-p):=by
  apply Jp;intro k;by_cases hk:k<n
  .rw[J9 (by rw[XF];exact hk),XF,Oa (by omega),Oa hk]
   congr 2
   rw[List.count,List.count,List.countP_map];apply List.countP_congr;intro p hp;have:=h p hp;simp only[Function.comp,beq_iff_eq];omega
  .rw[QT (by rw[Jn,XF];omega),QT (by rw[XF];omega)]
 rw[e,N9 (λp hp=>by obtain⟨q,hq,rfl⟩:=Qn.mp hp;have:=h q hq;omega),Jb]
 congr 1
 apply JC;intro p hp;have:=h p hp;show B ^ (n-1-(n-1-p))=B ^ p
 congr 1
 omega
noncomputable def K5(o:Ord)(L:Nat)(qs:yi):w8:=match o with
 |.firsts=>Kv L qs
 |.full=>(qs.length:Int)::Kv L qs
 |.lasts=>(qs.length:Int)::(Kv L qs).reverse.map λx=>-x
theorem Hq{α:Type}(f g:α->Int)(l:List α):(l.map λx=>f x+g x).sum=(l.map f).sum+(l.map g).sum:=by
 induction l with
 |nil=>rfl
 |cons a r ih=>rw[Qt,Jj,ih,Qt,Jj,Qt,Jj];omega
theorem Au{α:Type}(f g:α->Int)(l:List α):(l.map λx=>f x-g x).sum=(l.map f).sum-(l.map g).sum:=by
 induction l with
 |nil=>rfl
 |cons a r ih=>rw[Qt,Jj,ih,Qt,Jj,Qt,Jj];omega
theorem Ml{α:Type}(c:Int)(l:List α):(l.map λ_=>c).sum=(l.length:Int)*c:=by
 induction l with
 |nil=>simp
 |cons a r ih=>rw[Qt,Jj,ih,Qz,Int.natCast_add,Int.add_mul];omega
theorem At(o:Ord){B:Int}{L:Nat}{sr:w8}(h:∀r∈sr,1<=r/\r<=L):(sr.map (Z8 o B L)).sum=val B (K5 o L (sr.map λr=>(r-1).toNat)):=by
 have hq:∀p∈sr.map (λr=>(r-1).toNat),p<L:=λp hp=>by obtain⟨r,hr,rfl⟩:=Qn.mp hp;have:=h r hr;omega
 have e1:(sr.map λr=>B ^ ((L:Int)-r).toNat).sum=val B (Kv L (sr.map λr=>(r-1).toNat)):=by
  rw[N9 hq,Jb]
  congr 1
  apply JC;intro r hr;have:=h r hr;show B ^ _=B ^ (L-1-(r-1).toNat)
  congr 1
  omega
 have e2:(sr.map λr=>B ^ (r-1).toNat).sum=val B (Kv L (sr.map λr=>(r-1).toNat)).reverse:=by rw[Av hq,Jb];rfl
 have e3:(sr.map λ_=>B ^ (L:Int).toNat).sum=((sr.map λr=>(r-1).toNat).length:Int)*B ^ L:=by rw[Ml,Qb,QP]
 cases o with
 |firsts=>exact e1
 |full=>
  show(sr.map λr=>B ^ (L:Int).toNat+B ^ ((L:Int)-r).toNat).sum=((sr.map λr=>(r-1).toNat).length:Int)*B ^ (Kv L (sr.map λr=>(r-1).toNat)).length+val B (Kv L (sr.map λr=>(r-1).toNat))
  rw[Hq,e1,e3,XF]
 |lasts=>
  show(sr.map λr=>B ^ (L:Int).toNat-B ^ (r-1).toNat).sum=((sr.map λr=>(r-1).toNat).length:Int)*B ^ ((Kv L (sr.map λr=>(r-1).toNat)).reverse.map λx=>-x).length+val B ((Kv L (sr.map λr=>(r-1).toNat)).reverse.map λx=>-x)
  rw[Au,e2,e3,Aw,Qb,Qb,Jn,XF];omega
noncomputable def srv(got:w8):w8:=got.filter λr=>decide (r≠0)
noncomputable def plQ(got:w8):yi:=(srv got).map λr=>(r-1).toNat
theorem EH{L:Nat}{got:w8}(h:okR L got):Kw L got=Kv L (plQ got)++[(got.length:Int)-(plQ got).length]:=by
 unfold Kw
 congr 1
 .unfold Kv
  apply JC;intro p _
  congr 1
  unfold plQ srv;rw[List.count,List.count,List.countP_map,List.countP_filter];apply List.countP_congr;intro r hr;have:=h r hr;simp only[Function.comp,beq_iff_eq,Jd,QY];omega
 .congr 1
  unfold plQ srv;rw[Qb,List.count]
  have e:got.length=got.countP (λr=>decide (r≠0))+got.countP (λr=>r==0):=by
   rw[List.length_eq_countP_add_countP (p:=λr=>decide (r≠0))]
   congr 1
   apply List.countP_congr;intro r _;simp
  rw[List.countP_eq_length_filter]at e;omega
theorem Ee:∀{a b:w8},a.length=b.length->fnz (Kx a b)=0->a=b
 |[],[],_,_=>rfl
 |x::a,y::b,h,e=>by
  have e:(if x-y=0 then fnz (Kx a b)else x-y)=0:=e;by_cases hxy:x-y=0
  .rw[Qp hxy]at e
   rw[Ee (by simpa using h) e,show x=y by omega]
  .rw[Qw hxy]at e;exact absurd e hxy
theorem GX{n:Nat}{qs:yi}(h:∀p∈qs,p<n):(Kv n qs).sum=qs.length:=Eh qs n h
theorem Lg{L:Nat}{got:w8}(h:okR L got):∀p∈plQ got,p<L:=λp hp=>by
 obtain⟨r,hr,rfl⟩:=Qn.mp hp;obtain⟨hr,h0⟩:=QK.mp hr;have:=h r hr;have:r≠0:=by simpa using h0
 omega
theorem qW{o:Ord}{L:Nat}{g1 g2:w8}(h1:okR L g1)(h2:okR L g2)(hl:g1.length=g2.length):fnz (WL o (Kw L g1) (Kw L g2))=fnz (Kx (K5 o L (plQ g1)) (K5 o L (plQ g2))):=by
 have hcl:(Kw L g1).length=(Kw L g2).length:=by rw[VZ,VZ]
 have hne:Kw L g1≠[]:=λe=>by have:=VZ L g1;rw[e]at this;cases this
 rw[←F5 hcl hne,EH h1,EH h2];have l1:=XF L (plQ g1);have l2:=XF L (plQ g2);have s1:=GX (Lg h1);have s2:=GX (Lg h2);generalize hc1:Kv L (plQ g1)=C1 at *;generalize hc2:Kv L (plQ g2)=C2 at *;have hC:C1.length=C2.length:=by rw[l1,l2]
 have last:∀(C:w8)(z:Int),YW (C++[z])=z:=λC z=>by
  unfold YW;rw[Qk,Qh,QC (by show C.length<=C.length+1-1;omega)]
  show([z][C.length+1-1-C.length]?).getD 0=z
  rw[show C.length+1-1-C.length=0 by omega];rfl
 have tail:fnz (Kx C1 C2++Kx [(g1.length:Int)-(plQ g1).length] [(g2.length:Int)-(plQ g2).length])=fnz (Kx C1 C2):=by
  rw[Ni];by_cases e:fnz (Kx C1 C2)=0
  .have:=Ee hC e
   rw[Qp e,e]
   show(if(g1.length:Int)-(plQ g1).length-((g2.length:Int)-(plQ g2).length)=0 then(0:Int)else _)=0
   rw[Qp (by rw[this]at s1;omega)]
  .rw[Qw e]
 cases o with
 |firsts=>show fnz (Kx (C1++_) (C2++_))=fnz (Kx (Kv L (plQ g1)) (Kv L (plQ g2)));rw[hc1,hc2,Os hC,tail]
 |full=>
  show fnz (Kx ((0-YW (C1++_))::(C1++_)) ((0-YW (C2++_))::(C2++_)))=fnz (Kx (((plQ g1).length:Int)::Kv L (plQ g1)) (((plQ g2).length:Int)::Kv L (plQ g2)));rw[hc1,hc2,last,last]
  show(if(0-((g1.length:Int)-(plQ g1).length))-(0-((g2.length:Int)-(plQ g2).length))=0 then fnz (Kx (C1++_) (C2++_))else _)=(if((plQ g1).length:Int)-(plQ g2).length=0 then fnz (Kx C1 C2)else _)
  rw[Os hC,tail];have e:(0-((g1.length:Int)-(plQ g1).length))-(0-((g2.length:Int)-(plQ g2).length))=((plQ g1).length:Int)-(plQ g2).length:=by omega
  rw[e]
  congr 1
 |lasts=>
  show fnz (Kx ((C1++[_]).reverse.map λx=>0-x) ((C2++[_]).reverse.map λx=>0-x))=fnz (Kx (((plQ g1).length:Int)::(Kv L (plQ g1)).reverse.map λx=>-x) (((plQ g2).length:Int)::(Kv L (plQ g2)).reverse.map λx=>-x));rw[hc1,hc2,List.reverse_append,List.reverse_append];have e0:(λx:Int=>0-x)=λx=>-x:=by funext x;omega
  rw[e0]
  show(if -((g1.length:Int)-(plQ g1).length) - -((g2.length:Int)-(plQ g2).length)=0 then fnz (Kx (C1.reverse.map λx=>-x) (C2.reverse.map λx=>-x))else _)=(if((plQ g1).length:Int)-(plQ g2).length=0 then fnz (Kx (C1.reverse.map λx=>-x) (C2.reverse.map λx=>-x))else _)
  have e : -((g1.length:Int)-(plQ g1).length) - -((g2.length:Int)-(plQ g2).length)=((plQ g1).length:Int)-(plQ g2).length:=by omega
  rw[e]
  congr 1
theorem N8{W W1 W2:Nat->List w8->Int->Int}{c:Int}(h:∀i rs t,W i rs t=W1 i rs t*c+W2 i rs t):∀(ls:List (List w8))(ws:LO)(k:Nat),KQ (KJ W k ls ws)=KQ (KJ W1 k ls ws)*c+KQ (KJ W2 k ls ws)
 |[],_,_=>by simp[KJ,KQ]
 |_::_,[],_=>by simp[KJ,KQ]
 |rs::ls,o::ws,k=>by
  rw[KJ,KJ,KJ,Ts,Ts,Ts,N8 h ls ws (k+1),Int.add_mul];cases o with
  |none=>show(0:Int)+_=0*c+_+(0+_);rw[Int.zero_mul];omega
  |some t=>show W k rs t+_=W1 k rs t*c+_+(W2 k rs t+_);rw[h];omega
theorem GW{f:Int->Int}:∀(ls:List (List w8))(ws:LO)(k:Nat),(∀(i:Nat) t rs,ws[i]?=O (O t)->ls[i]?=O rs->KP t rs≠0)->KQ (KJ (λ_ rs t=>f (KP t rs:Nat)) k ls ws)=((srv (U6 ls ws)).map f).sum
 |[],_,_,_=>by simp[KJ,KQ,U6,srv]
 |_::_,[],_,_=>by simp[KJ,KQ,U6,srv]
 |rs::ls,o::ws,k,h=>by
  have ih:=GW (f:=f) ls ws (k+1) λi t r h1 h2=>h (i+1) t r (by simpa using h1) (by simpa using h2)
  have e:U6 (rs::ls) (o::ws)=rg rs o::U6 ls ws:=rfl;rw[KJ,Ts,ih,e];cases o with
  |none=>
   have:srv (rg rs none::U6 ls ws)=srv (U6 ls ws):=rfl;rw[this]
   show(0:Int)+_=_
   omega
  |some t=>
   have h0:=h 0 t rs wZ wZ;have:srv (rg rs (O t)::U6 ls ws)=((KP t rs:Nat):Int)::srv (U6 ls ws):=by unfold srv;rw[List.filter_cons_of_pos (by show decide (((KP t rs:Nat):Int)≠0)=w5;simpa using h0)];rfl
   rw[this,Qt,Jj];rfl
theorem Mx{W:Nat->List w8->Int->Int}{h:Nat->Int}:∀(ls:List (List w8))(ws:LO)(k:Nat),ws.length=ls.length->(∀(i:Nat) rs o,ls[i]?=O rs->ws[i]?=O o->(o.map (W (k+i) rs)).getD 0=h (k+i))->KQ (KJ W k ls ws)=((Ux ls.length).map λi=>h (k+i)).sum
 |[],[],_,_,_=>by simp[KJ,KQ]
 |rs::ls,o::ws,k,hl,hh=>by
  have ih:=Mx (h:=h) ls ws (k+1) (by simpa using hl) λi rs' o' h1 h2=>by have:=hh (i+1) rs' o' (by simpa using h1) (by simpa using h2);rw[show k+1+i=k+(i+1)by omega];exact this
  have h0:=hh 0 rs o wZ wZ;rw[KJ,Ts,ih,Qz,List.range_succ_eq_map,Qt,Jj,Jb];rw[Uk]at h0;rw[Uk,h0]
  congr 2
  apply JC;intro i _;show h (k+1+i)=h (k+(i+1));rw[show k+1+i=k+(i+1)by omega]
theorem Hn{c:Int}{a:Nat}:∀n:Nat,((Ux n).map λi=>if i=a then c else 0).sum=if a<n then c else 0
 |0=>by simp
 |n+1=>by
  rw[JU,Qy,J8,Hn n];show _+((if n=a then c else 0)+0)=_;by_cases h:a<n
  .rw[Qp h,Qw (by omega),Qp (by omega)];omega
  .by_cases h2:n=a
   .rw[Qw h,Qp h2,Qp (by omega)];omega
   .rw[Qw h,Qw h2,Qw (by omega)];omega
theorem GV{b:Int}{g:Int->Int}{n:Nat}:∀{ts:w8},ts.Nodup->(∀a∈ts,0<=a/\a<n)->((Ux n).map λi:Nat=>if(i:Int)∈ts then g i*b ^ (ts.length-1-ts.idxOf (i:Int))else 0).sum=val b (ts.map g)
 |[],_,_=>by
  have:(λi:Nat=>if(i:Int)∈([]:w8)then g i*b ^ (([]:w8).length-1-([]:w8).idxOf (i:Int))else 0)=λ_=>(0:Int):=by funext i;rw[if_neg (by simp)]
  rw[this,Ml];simp[val]
 |a::r,hn,hb=>by
  obtain⟨ha,hr⟩:=JQ.mp hn;have h0:=hb a Qj;have ih:=GV (b:=b) (g:=g) (n:=n) hr λx hx=>hb x (Qi _ hx)
  have e:(λi:Nat=>if(i:Int)∈a::r then g i*b ^ ((a::r).length-1-(a::r).idxOf (i:Int))else 0) =
    λi:Nat=>(if i=a.toNat then g a*b ^ r.length else 0)+(if(i:Int)∈r then g i*b ^ (r.length-1-r.idxOf (i:Int))else 0):=by
   funext i;by_cases h:(i:Int)=a
   .have hi:i=a.toNat:=by omega
    rw[Qp (by rw[h];exact Qj),Qp hi,Qw (by rw[h];exact ha),h,List.idxOf_cons_self,Qz];simp
   .have hi:¬i=a.toNat:=by omega
    rw[Qw hi,JG];by_cases h2:(i:Int)∈r
    .have hb:(a==(i:Int))=w6:=by simpa using Ne.symm h
     rw[Qp (Qi _ h2),Qp h2,List.idxOf_cons,hb,Qz];show g i*b ^ (r.length+1-1-(r.idxOf (i:Int)+1))=_
     congr 2
     omega
    .rw[if_neg h2,if_neg (by simp[h,h2])]
  rw[e,Hq,Hn,Qp (by omega),ih,Qt,val,Qb]
section
variable{cs:w8}{ls:List (List w8)}{ws us:LO}{o:Ord}{old:yh}{ts:w8}
theorem j6(hl:ws.length=ls.length)(ga:ZU cs.length ls.length old ts):KQ (KJ (λi rs t=>VQ ts (lng ls+1) i (KP t rs:Nat)) 0 ls ws)=val ((lng ls:Int)+1) (ts.map (Zx ls ws)):=by
 rw[Mx (h:=λi:Nat=>if(i:Int)∈ts then Zx ls ws i*((lng ls:Int)+1) ^ (ts.length-1-ts.idxOf (i:Int))else 0) ls ws 0 hl,←GV ga.once ga.there]
 .congr 2
  funext i;rw[QO]
 .intro i rs o' h1 h2
  rw[QO];have e:Zx ls ws (i:Int)=(o'.map λt=>(lng ls:Int)+1-(KP t rs:Nat)).getD 0:=by unfold Zx;rw[QP,Qh,Qh,h1,h2];cases o'<;>rfl
  rw[e];cases o' with
  |none=>
   show(0:Int)=if(i:Int)∈ts then 0*_ else 0
   split
   .rw[Int.zero_mul]
   .rfl
  |some t=>rfl
theorem F3{os:LO}:∀(ls:List (List w8))(ws:LO)(k:Nat),ws.length=ls.length->KQ (KJ (λi _ t=>if os[i]?=O (O t)then 1 else 0) k ls ws)=((((os.drop k).zip ws).filter λp=>decide (p.1=p.2)&&p.2.isSome).length:Nat)
 |[],[],k,_=>by simp[KJ,KQ]
 |rs::ls,o::ws,k,hl=>by
  have ih:=F3 (os:=os) ls ws (k+1) (by simpa using hl);rw[KJ,Ts,ih];by_cases hk:k<os.length
  .rw[Jc hk,Q0,Qe hk]
   cases o with
   |none=>rw[List.filter_cons_of_neg (by simp)];show(0:Int)+_=_;omega
   |some t=>
    show(if O os[k]=O (O t)then(1:Int)else 0)+_=_
    by_cases e:os[k]=O t
    .rw[if_pos (by rw[e]),List.filter_cons_of_pos (by simp[e]),List.length_cons];omega
    .rw[if_neg (by simpa using e),List.filter_cons_of_neg (by simp[e])];omega
  .rw[J5 (by omega),J5 (by omega),List.zip_nil_left,List.zip_nil_left,QT (by omega)]
   cases o with
   |none=>rfl
   |some t=>rfl
theorem qV(hl:ws.length=ls.length):KQ (KJ (λi _ t=>Wc old i t) 0 ls ws)=(Zd old ws:Int):=by
 cases old with
 |none=>
  rw[Mx (h:=λ_=>0) ls ws 0 hl,Ml]
  .simp[Zd]
  .intro i rs o' _ _
   cases o'<;>rfl
 |some os=>exact F3 ls ws 0 hl
theorem F2(dl:Deal cs ls ws)(ga:ZU cs.length ls.length old ts):KQ (KJ (K8 ls o old ts) 0 ls ws) =
  (val ((ls.length:Int)+1) (K5 o (lng ls) (plQ (U6 ls ws)))*((ls.length:Int)+1)+Zd old ws)*((lng ls:Int)+1) ^ ts.length+val ((lng ls:Int)+1) (ts.map (Zx ls ws)):=by
 rw[N8 (W:=K8 ls o old ts) (W1:=λi rs t=>Z8 o (ls.length+1) (lng ls) (KP t rs:Nat)*((ls.length:Int)+1)+Wc old i t) (W2:=λi rs t=>VQ ts (lng ls+1) i (KP t rs:Nat)) (c:=((lng ls:Int)+1) ^ ts.length) (λ_ _ _=>rfl) ls ws 0,
  N8 (W1:=λi rs t=>Z8 o (ls.length+1) (lng ls) (KP t rs:Nat)) (W2:=λi _ t=>Wc old i t) (c:=(ls.length:Int)+1) (λ_ _ _=>rfl) ls ws 0,j6 dl.len ga,qV dl.len,
  GW (f:=λr=>Z8 o (ls.length+1) (lng ls) r) ls ws 0 (λi t rs h1 h2=>OD (dl.wish i t rs h1 h2)),At o]
 .rfl
 .intro r hr
  obtain⟨hr,h0⟩:=QK.mp hr;have:=P3 (ls:=ls) (ws:=ws) r hr;have:r≠0:=by simpa using h0
  omega
end
theorem N7{lo n:Int}{a b:w8}(ha:∀x∈a,lo<=x/\x<=lo+n)(hb:∀x∈b,lo<=x/\x<=lo+n):∀d∈Kx a b, -n<=d/\d<=n:=λd hd=>by unfold Kx at hd;obtain⟨p,hp,rfl⟩:=Qn.mp hd;obtain⟨h1,h2⟩:=List.of_mem_zip (a:=p.1) (b:=p.2) hp;have:=ha _ h1;have:=hb _ h2;omega
theorem P2{n:Nat}{qs:yi}{m:Int}(h:(qs.length:Int)<=m):∀x∈Kv n qs,0<=x/\x<=0+m:=λx hx=>by unfold Kv at hx;obtain⟨p,_,rfl⟩:=Qn.mp hx;have:=List.count_le_length (a:=p) (l:=qs);omega
theorem qU(o:Ord)(L:Nat)(p q:yi):(K5 o L p).length=(K5 o L q).length:=by cases o<;>simp[K5,XF]
theorem As(o:Ord){L:Nat}{p q:yi}{m:Int}(hp:(p.length:Int)<=m)(hq:(q.length:Int)<=m):∀d∈Kx (K5 o L p) (K5 o L q), -m<=d/\d<=m:=by
 have hc:=N7 (P2 (n:=L) hp) (P2 (n:=L) hq);cases o with
 |firsts=>exact hc
 |full=>
  intro d hd;rcases QE.mp (show d∈((p.length:Int)-q.length)::Kx (Kv L p) (Kv L q)from hd)with rfl|h
  .omega
  .exact hc d h
 |lasts=>
  intro d hd;rcases QE.mp (show d∈((p.length:Int)-q.length)::Kx ((Kv L p).reverse.map λx=>-x) ((Kv L q).reverse.map λx=>-x)from hd)with rfl|h
  .omega
  .refine N7 (lo:=-m) (n:=m) (λx hx=>?_) (λx hx=>?_) d h
   .obtain⟨y,hy,rfl⟩:=Qn.mp hx
    have:=P2 (n:=L) hp y (List.mem_reverse.mp hy);omega
   .obtain⟨y,hy,rfl⟩:=Qn.mp hx
    have:=P2 (n:=L) hq y (List.mem_reverse.mp hy);omega
theorem qT{o:Ord}{a b:w8}(h:Yp o a=Yp o b):a=b:=by
 cases o with
 |firsts=>exact h
 |full=>exact(List.cons.inj h).2
 |lasts=>have h:a.reverse.map (λx=>0-x)=b.reverse.map (λx=>0-x):=h;have:=(List.map_inj_right (λx y (e:(0:Int)-x=0-y)=>by omega)).mp h;exact List.reverse_inj.mp this
theorem xL{a a' k k' t t' B P:Int}:((a*B+k)*P+t)-((a'*B+k')*P+t')=((a-a')*B+(k-k'))*P+(t-t'):=by
 have e:(a-a')*B+(k-k')=(a*B+k)-(a'*B+k'):=by rw[Int.sub_mul];omega
 rw[e,Int.sub_mul (a*B+k)];omega
section
variable{cs:w8}{ls:List (List w8)}{ws us:LO}{o:Ord}{old:yh}{ts:w8}
theorem Hm:((plQ (U6 ls ws)).length:Int)<=ls.length:=by
 have h1:(plQ (U6 ls ws)).length<=(U6 ls ws).length:=by unfold plQ srv;rw[Qb];exact Ju _ _
 have h2:(U6 ls ws).length<=ls.length:=by unfold U6;rw[Uh];omega
 omega
theorem F1(hl:ws.length=ls.length):(Zd old ws:Int)<=ls.length:=by
 cases old with
 |none=>show((0:Nat):Int)<=_;omega
 |some os=>
  have h:=Ju (λp:yd×yd=>decide (p.1=p.2)&&p.2.isSome) (os.zip ws);rw[J7]at h
  show((((os.zip ws).filter λp=>decide (p.1=p.2)&&p.2.isSome).length:Nat):Int)<=_
  omega
theorem GC(g:Good cs ls)(dl:Deal cs ls ws)(ga:ZU cs.length ls.length old ts):∀x∈ts.map (Zx ls ws),0<=x/\x<=0+(lng ls:Int):=λx hx=>by
 rw[Pa g dl ga]at hx;obtain⟨y,hy,rfl⟩:=Qn.mp hx;obtain⟨z,_,rfl⟩:=Qn.mp hy;have:=RV (ls:=ls) (ws:=ws) (z:=z);unfold tf
 split<;>omega
theorem xK(g:Good cs ls)(d1:Deal cs ls ws)(d2:Deal cs ls us)(ga:ZU cs.length ls.length old ts){w1 w2:Int}(e1:w1=KQ (KJ (K8 ls o old ts) 0 ls ws))(e2:w2=KQ (KJ (K8 ls o old ts) 0 ls us)) :
  (w2<w1 ↔ 0<fnz (WL o (Kw (lng ls) (U6 ls ws)) (Kw (lng ls) (U6 ls us)))∨fnz (WL o (Kw (lng ls) (U6 ls ws)) (Kw (lng ls) (U6 ls us)))=0/\((Zd old us:Int)<Zd old ws∨(Zd old ws:Int)=Zd old us/\0<fnz (Kx (ts.map (Zx ls ws)) (ts.map (Zx ls us))))) /\
  (w1=w2 ↔ fnz (WL o (Kw (lng ls) (U6 ls ws)) (Kw (lng ls) (U6 ls us)))=0/\(Zd old ws:Int)=Zd old us/\fnz (Kx (ts.map (Zx ls ws)) (ts.map (Zx ls us)))=0):=by
 have hgl:(U6 ls ws).length=(U6 ls us).length:=by rw[GZ d1.len,GZ d2.len]
 rw[qW (P3 (ls:=ls) (ws:=ws)) (P3 (ls:=ls) (ws:=us)) hgl];have hB:(0:Int)<(ls.length:Int)+1:=by omega
 have hM:(0:Int)<(lng ls:Int)+1:=by omega
 have bd1:=As o (L:=lng ls) (Hm (ls:=ls) (ws:=ws)) (Hm (ls:=ls) (ws:=us));have bd2:=N7 (GC g d1 ga) (GC g d2 ga);have k1:=F1 (old:=old) d1.len;have k2:=F1 (old:=old) d2.len;have hl1:=qU o (lng ls) (plQ (U6 ls ws)) (plQ (U6 ls us));have hl2:(ts.map (Zx ls ws)).length=(ts.map (Zx ls us)).length:=by rw[Qb,Qb]
 have v1:=Ma (B:=(ls.length:Int)+1) hl1;have v2:=Ma (B:=(lng ls:Int)+1) hl2;have ml:(Kx (ts.map (Zx ls ws)) (ts.map (Zx ls us))).length=ts.length:=by rw[Pg hl2,Qb]
 have f1:=Nh hB (l:=Kx (K5 o (lng ls) (plQ (U6 ls ws))) (K5 o (lng ls) (plQ (U6 ls us)))) (λd hd=>by have:=bd1 d hd;omega);have f2:=Nh hM (l:=Kx (ts.map (Zx ls ws)) (ts.map (Zx ls us))) (λd hd=>by have:=bd2 d hd;omega);have sm:=Mn hM (l:=Kx (ts.map (Zx ls ws)) (ts.map (Zx ls us))) (λd hd=>by have:=bd2 d hd;omega);rw[ml]at sm;have yN:=Mm (X:=val ((ls.length:Int)+1) (Kx (K5 o (lng ls) (plQ (U6 ls ws))) (K5 o (lng ls) (plQ (U6 ls us))))) (Y:=(Zd old ws:Int)-Zd old us) hB (by omega);have zd:=Mm (X:=val ((ls.length:Int)+1) (Kx (K5 o (lng ls) (plQ (U6 ls ws))) (K5 o (lng ls) (plQ (U6 ls us))))*((ls.length:Int)+1)+((Zd old ws:Int)-Zd old us)) (Mb hM ts.length) sm;have df:w1-w2=(val ((ls.length:Int)+1) (Kx (K5 o (lng ls) (plQ (U6 ls ws))) (K5 o (lng ls) (plQ (U6 ls us))))*((ls.length:Int)+1)+((Zd old ws:Int)-Zd old us))*((lng ls:Int)+1) ^ ts.length+val ((lng ls:Int)+1) (Kx (ts.map (Zx ls ws)) (ts.map (Zx ls us))):=by rw[e1,e2,F2 d1 ga,F2 d2 ga,v1,v2];exact xL
 rw[←df]at zd;generalize val ((ls.length:Int)+1) (Kx (K5 o (lng ls) (plQ (U6 ls ws))) (K5 o (lng ls) (plQ (U6 ls us))))*((ls.length:Int)+1)+((Zd old ws:Int)-Zd old us)=X at yN zd;generalize val ((ls.length:Int)+1) (Kx (K5 o (lng ls) (plQ (U6 ls ws))) (K5 o (lng ls) (plQ (U6 ls us))))=V at yN f1;generalize val ((lng ls:Int)+1) (Kx (ts.map (Zx ls ws)) (ts.map (Zx ls us)))=Y at zd f2;generalize fnz (Kx (K5 o (lng ls) (plQ (U6 ls ws))) (K5 o (lng ls) (plQ (U6 ls us))))=A at f1⊢;generalize fnz (Kx (ts.map (Zx ls ws)) (ts.map (Zx ls us)))=C at f2⊢;constructor
 .constructor
  .intro h
   rcases zd.1.mp (by omega)with h1|⟨h1,h2⟩
   .rcases yN.1.mp h1 with h3|⟨h3,h4⟩
    .exact .inl (f1.1.mp h3)
    .exact .inr ⟨f1.2.mp h3,.inl (by omega)⟩
   .obtain⟨h3,h4⟩:=yN.2.mp h1
    exact .inr ⟨f1.2.mp h3,.inr ⟨by omega,f2.1.mp h2⟩⟩
  .intro h
   have:0<w1-w2:=zd.1.mpr (by
    rcases h with h|⟨h,h2|⟨h2,h3⟩⟩
    .exact .inl (yN.1.mpr (.inl (f1.1.mpr h)))
    .exact .inl (yN.1.mpr (.inr ⟨f1.2.mpr h,by omega⟩))
    .exact .inr ⟨yN.2.mpr ⟨f1.2.mpr h,by omega⟩,f2.1.mpr h3⟩)
   omega
 .constructor
  .intro h
   obtain⟨h1,h2⟩:=zd.2.mp (by omega);obtain⟨h3,h4⟩:=yN.2.mp h1;exact⟨f1.2.mp h3,by omega,f2.2.mp h2⟩
  .rintro⟨h1,h2,h3⟩
   have:=zd.2.mpr ⟨yN.2.mpr ⟨f1.2.mpr h1,by omega⟩,f2.2.mpr h3⟩;omega
theorem Mk(g:Good cs ls)(d1:Deal cs ls ws)(d2:Deal cs ls us)(ga:ZU cs.length ls.length old ts) :
  W8 o (Kw (lng ls) (U6 ls ws)) (Kw (lng ls) (U6 ls us)) (Zd old ws) (Zd old us) (ts.map (rgA ls ws)) (ts.map (rgA ls us))=decide (KQ (KJ (K8 ls o old ts) 0 ls us)<KQ (KJ (K8 ls o old ts) 0 ls ws)):=by
 have ht:=Mo (L:=lng ls) (xs:=ts.map (rgA ls ws)) (ys:=ts.map (rgA ls us)) (λr h=>by obtain⟨z,_,rfl⟩:=Qn.mp h;exact RV) (λr h=>by obtain⟨z,_,rfl⟩:=Qn.mp h;exact RV);rw[←Pa g d1 ga,←Pa g d2 ga]at ht;have hs:=(xK (o:=o) g d1 d2 ga wZ wZ).1;unfold W8;rw[←ht];apply Jr.2;rw[QY,hs];generalize fnz (WL o (Kw (lng ls) (U6 ls ws)) (Kw (lng ls) (U6 ls us)))=A;generalize fnz (Kx (ts.map (Zx ls ws)) (ts.map (Zx ls us)))=C;by_cases h:A=0
 .rw[Qp h]
  by_cases h2:(Zd old ws:Int)=Zd old us
  .rw[Qp h2,QY];omega
  .rw[Qw h2,QY];omega
 .rw[Qw h,QY];omega
end
theorem EG{α β:Type}{f:α->β}(hf:∀a b,f a=f b->a=b){l:List α}(h:l.Nodup):(l.map f).Nodup:=by unfold List.Nodup at h⊢;rw[List.pairwise_map];exact h.imp λhne e=>hne (hf _ _ e)
theorem EF:∀(ls)(k),(∀rs∈ls,rs.flatten.Nodup)->(U3 k ls).Nodup
 |[],_,_=>List.nodup_nil
 |rs::ls,k,h=>by
  show((YE rs.flatten).map _++U3 _ ls).Nodup
  rw[List.nodup_append];refine⟨?_,EF ls _ λr hr=>h r (Qi _ hr),λa ha b hb e=>?_⟩
  .exact EG (λx y e=>(Prod.mk.inj e).2) ((Wg _).nodup_iff.mpr (h rs Qj))
  .subst e
   obtain⟨t,_,rfl⟩:=Qn.mp ha;have:=Ob ls _ _ hb;simp at this
   lia
section
variable{cs:w8}{ls:List (List w8)}{o:Ord}{old:yh}{ts:w8}
theorem Ng(g:Good cs ls):(U3 0 ls).length<=42:=by rw[(Ro ls 0).length_eq];exact RW g
end
theorem j4(l:w8):(l.map int).all flat=w5:=by rw[Je];intro x hx;obtain⟨y,_,rfl⟩:=Qn.mp hx;rfl
noncomputable def Y1(tm:Int)(as ps:w8):D:=.tuple [.int tm,.list (as.map int),.list (ps.map int)]
noncomputable def ON(ps cs:w8):w8:=(ps.zip cs).map λp=>p.1*p.2
noncomputable def Wl(cs as ps:w8):Int:=as.sum+(ON ps cs).sum
theorem Bf   (g:Good cs ls):∀q∈U3 0 ls,(0<=q.1/\q.1<ls.length)/\0<=q.2/\q.2<cs.length:=λq hq=>by
 obtain⟨i,rs,h1,h2,h3⟩:=W0 hq;have:=(g.rk rs (Qs h1)).flat q.2 h3;have:=(Qg.mp h1).1
 lia
theorem Hl{ns:w8}{k:Int}(h0:0<=k)(h1:k<ns.length):oIx (.list (ns.map int)) (.int k)=O (.int (ns.getD k.toNat 0)):=by
 obtain⟨j,rfl⟩:∃j:Nat,k=j:=⟨k.toNat,by lia⟩
 exact NA (by lia)
section
variable{cs:w8}{ls:List (List w8)}{o:Ord}{old:yh}{ts:w8}
theorem GB(g:Good cs ls)(ga:ZU cs.length ls.length old ts){q:Int×Int}(hq:q∈U3 0 ls):0<=Kd ls o old ts q.1 q.2/\Kd ls o old ts q.1 q.2<18446744073709551616:=by
 obtain⟨i,rs,h1,h2,h3⟩:=W0 hq;have l7:=g.l7;have l1:=g.l1;have hL:lng ls<=5:=OX l1 λrs h=>(g.rk rs h).few;have yz:=Lj (Qs h1);have hr1:1<=KP q.2 rs:=by have:=OD h3;lia
 have yA:KP q.2 rs<=lng ls:=by have:=Mr q.2 rs;lia
 have htl:=ga.few
 have e:Kd ls o old ts q.1 q.2=K8 ls o old ts i rs q.2:=by
  unfold Kd;rw[h2,QO,QP]
  congr 1
  simp[List.getD,h1]
 rw[e];unfold K8;have pw:∀{b:Int}{n k:Nat},1<=b->b<=8->n<=k->1<=b ^ n/\b ^ n<=8 ^ k:=λ{b n k} h0 h8 hk=>⟨Int.pow_pos h0,F6 (by lia) h8 hk⟩
 have hb1:(1:Int)<=(ls.length:Int)+1:=by lia
 have al:(ls.length:Int)+1<=8:=by lia
 have hM1:(1:Int)<=(lng ls:Int)+1:=by lia
 have hM8:(lng ls:Int)+1<=8:=by lia
 have a1:=pw hb1 al (n:=lng ls) (k:=5) hL;have a2:=pw hb1 al (n:=((lng ls:Int)-(KP q.2 rs:Nat)).toNat) (k:=5) (by lia);have a3:=pw hb1 al (n:=((KP q.2 rs:Nat)-1:Int).toNat) (k:=5) (by lia)
 have a4:((ls.length:Int)+1) ^ ((KP q.2 rs:Nat)-1:Int).toNat<=((ls.length:Int)+1) ^ lng ls:=by
  have:((KP q.2 rs:Nat)-1:Int).toNat<=lng ls:=by lia
  obtain⟨k,hk⟩:=Nat.exists_eq_add_of_le this;rw[hk,Int.pow_add];have:=(pw hb1 al (n:=k) (k:=5) (by lia)).1;have hm:=Int.mul_le_mul_of_nonneg_left this (show 0<=((ls.length:Int)+1) ^ ((KP q.2 rs:Nat)-1:Int).toNat by lia);rw[Int.mul_one]at hm;exact hm
 have b1:0<=Z8 o (ls.length+1) (lng ls) (KP q.2 rs)/\Z8 o (ls.length+1) (lng ls) (KP q.2 rs)<=65536:=by
  cases o with
  |firsts=>show 0<=_ ^ _/\_ ^ _<=65536;lia
  |full=>show 0<=_ ^ ((lng ls:Int)).toNat+_ ^ _/\_ ^ ((lng ls:Int)).toNat+_ ^ _<=65536;rw[QP];lia
  |lasts=>show 0<=_ ^ ((lng ls:Int)).toNat-_ ^ _/\_ ^ ((lng ls:Int)).toNat-_ ^ _<=65536;rw[QP];lia
 have b2:0<=Wc old i q.2/\Wc old i q.2<=1:=by
  unfold Wc;split
  .lia
  .split<;>lia
 have b3:=pw hM1 hM8 (n:=ts.length) (k:=7) (by lia)
 have b4:0<=VQ ts ((lng ls:Int)+1) i (KP q.2 rs)/\VQ ts ((lng ls:Int)+1) i (KP q.2 rs)<=8*8 ^ 7:=by
  unfold VQ;split
  .have b5:=pw hM1 hM8 (n:=ts.length-1-ts.idxOf (i:Int)) (k:=7) (by lia)
   refine⟨Int.mul_nonneg (by lia) (by lia),?_⟩;exact Int.mul_le_mul (by lia) b5.2 (by lia) (by decide)
  .exact⟨by lia,by decide⟩
 have c1:0<=Z8 o (ls.length+1) (lng ls) (KP q.2 rs)*(ls.length+1)+Wc old i q.2/\Z8 o (ls.length+1) (lng ls) (KP q.2 rs)*(ls.length+1)+Wc old i q.2<=600000:=by
  have d1:0<=Z8 o (ls.length+1) (lng ls) (KP q.2 rs)*((ls.length:Int)+1):=Int.mul_nonneg b1.1 (by lia);have d2   :=Int.mul_le_mul b1.2 al (by lia) (by decide)
  lia
 have d3:0<=(Z8 o (ls.length+1) (lng ls) (KP q.2 rs)*(ls.length+1)+Wc old i q.2)*((lng ls:Int)+1) ^ ts.length:=Int.mul_nonneg c1.1 (by lia);have d4   :=Int.mul_le_mul c1.2 b3.2 (by lia) (by decide)
 lia
end
structure OkP(n m:Nat)(V:Int->Int->Int)(qs:LP)(tm:Int)(as ps:w8):Prop where
 t0:0<=tm
 la:as.length=m
 lp:ps.length=n
 aa:∀a∈as,0<=a
 pp:∀p∈ps,0<=p
 le:∀q∈qs,tm*V q.1 q.2<=as.getD q.1.toNat 0+ps.getD q.2.toNat 0
noncomputable def pz(ps:w8)(ws:LO):Int:=(ws.map λo=>match o with|some t=>ps.getD t.toNat 0|none=>0).sum
noncomputable def Zh(n:Nat)(f:Nat->Int):Int:=((Ux n).map f).sum
theorem WY   : Zh (n+1) f=Zh n f+f n:=by unfold Zh;rw[JU];simp
theorem GA  : ∀(n),Zh n (λk=>f k+h k)=Zh n f+Zh n h
 |0=>rfl
 |n+1=>by rw[WY,WY,WY,GA n];lia
theorem Rb  : ∀(n),(∀k,k<n->f k<=h k)->Zh n f<=Zh n h
 |0,_=>Ja _
 |n+1,e=>by
  have h1:=Rb n λk hk=>e k (by lia)
  have h2:=e n (by lia);rw[WY,WY]
  lia
theorem Mj:∀(n)(f),(∀k,k<n->f k=0)->Zh n f=0
 |0,_,_=>rfl
 |n+1,f,e=>by rw[WY,Mj n f λk hk=>e k (by lia),e n (by lia)];rfl
theorem Gz{p:Nat->Int}{j}:∀(n),j<n->Zh n (λk=>if k=j then p k else 0)=p j
 |n+1,h=>by
  rw[WY];by_cases e:n=j
  .subst e
   rw[Qp wZ,Mj n _ λk hk=>Qw (by lia)]
   lia
  .rw[Qw e,Gz n (by lia)]
   lia
theorem Mw  {n}(e:∀k,k<n->f k=h k):Zh n f=Zh n h:=Int.le_antisymm (Rb n λk hk=>by rw[e k hk];exact Int.le_refl _) (Rb n λk hk=>by simp_all)
theorem Oq  {n:Nat}:∀(ws:LO),(∀t,O t∈ws->0<=t/\t<n)->pz ps ws=Zh n λk=>((ws.count (O (k:Int)):Nat):Int)*ps.getD k 0
 |[],_=>by rw[Mj n _ λk _=>by simp];rfl
 |o::ws,h=>by
  have ih:=Oq (ps:=ps) ws λt ht=>h t (Qi _ ht)
  cases o with
  |none=>
   show((0:Int)::_).sum=_
   rw[Jj];unfold pz at ih;rw[ih,JG];exact Mw λk _=>by simp
  |some t=>
   have ht:=h t Qj
   show(ps.getD t.toNat 0::_).sum=_
   rw[Jj];unfold pz at ih;rw[ih,←Gz (p:=λk=>ps.getD k 0) (j:=t.toNat) n (by lia),←GA];refine Mw λk _=>?_;rw[JT]
   by_cases e:k=t.toNat
   .subst e
    have:(O t==O ((t.toNat:Nat):Int))=w5:=by simp;lia
    rw[Qp wZ,Qp this,Int.natCast_add,Int.add_mul]
    lia
   .have:¬(O t==O ((k:Nat):Int))=w5:=by simp;lia
    rw[Qw e,Qw this,JG,Uk]
theorem Mv:∀(ps cs),ps.length=cs.length->(ON ps cs).sum=Zh cs.length λk=>cs.getD k 0*ps.getD k 0
 |ps,cs,h=>by
  unfold Zh ON
  congr 1
  apply Jp;intro i;rw[Qd,Qd];by_cases hi:i<cs.length
  .rw[QM hi]
   have h1:ps[i]?=O ps[i]:=Qe (by lia);have h2   :=Qe hi;have hz:_[i]?=O (ps[i],cs[i]):=List.getElem?_zip_eq_some.mpr ⟨h1,h2⟩;rw[hz];simp only[Option.map_some,Qh,h1,h2,Option.getD_some,Int.mul_comm]
  .rw[QT  (by rw[J7];lia),QT  (by rw[Qo];lia)]
   rfl
theorem F0  : ∀{xs:w9},(∀x∈xs,x.depth<=k)->PyData.depthAll xs<=k
 |[],_=>by simp[PyData.depthAll]
 |x::r,h=>by
  have h1:=h x Qj;have h2:=F0  λy hy=>h y (Qi _ hy);simp only[PyData.depthAll]
  lia
structure Stp where
 a:Nat
 b:Nat
 g:Int
 w:Option Nat
abbrev Tab:=List (Int×List Stp)
noncomputable def ent(T:Tab)(p:Nat):Int×List Stp:=T.getD p (0,[])
noncomputable def YU(W T:Tab)(s:Stp):Tab:=if(ent T s.b).1<(ent W s.a).1+s.g then T.set s.b ((ent W s.a).1+s.g,(ent W s.a).2++[s])else T
noncomputable def Py(W:Tab)(S:List Stp):Tab:=S.foldl (YU W) W
noncomputable def K1(n:Nat)(S:List Stp):Nat->Tab
 |0=>Uy n (0,[])
 |t+1=>Py (K1 n S t) S
theorem wF{T:Tab}{p}{x}(h:p<T.length):ent (T.set p x) p=x:=by unfold ent;rw[Qh,QG h];rfl
theorem Mu  {p q}{x}(h:p≠q):ent (T.set p x) q=ent T q:=by unfold ent;simp_all
theorem jZ(W T)(s):(YU W T s).length=T.length:=by
 unfold YU;split
 .simp_all
 .rfl
structure Ra(W T:Tab)(S:List Stp):Prop where
 len:T.length=W.length
 up:∀p,(ent W p).1<=(ent T p).1
 how:∀p,ent T p=ent W p ∨ ∃s∈S,s.b=p/\ent T p=((ent W s.a).1+s.g,(ent W s.a).2++[s])/\(ent W p).1<(ent T p).1
theorem wa{W T:Tab}{S:List Stp}{s:Stp}(hs:s∈S)(hb:s.b<W.length)(k:Ra W T S):Ra W (YU W T s) S/\(∀p,(ent T p).1<=(ent (YU W T s) p).1)/\(ent W s.a).1+s.g<=(ent (YU W T s) s.b).1:=by
 have hbT:s.b<T.length:=by rw[k.len];exact hb
 unfold YU;split
 .have self:=wF (x:=((ent W s.a).1+s.g,(ent W s.a).2++[s])) hbT
  refine⟨⟨by rw[QS];exact k.len,λp=>?_,λp=>?_⟩,λp=>?_,by rw[self];exact Ja _⟩
  .by_cases z:s.b=p
   .subst z;rw[self];have:=k.up s.b;show _<=(ent W s.a).1+s.g;lia
   .rw[Mu z];exact k.up p
  .by_cases z:s.b=p
   .subst z;right;exact⟨s,hs,rfl,self,by rw[self];have:=k.up s.b;show _<(ent W s.a).1+s.g;lia⟩
   .rw[Mu z];exact k.how p
  .by_cases z:s.b=p
   .subst z;rw[self];show _<=(ent W s.a).1+s.g;lia
   .rw[Mu z];exact Ja _
 .exact⟨k,λp=>Ja _,by lia⟩
theorem Ed  {S}(hS:∀s∈S,s.b<W.length):∀(R:List Stp)(T),(∀s∈R,s∈S)->Ra W T S->Ra W (R.foldl (YU W) T) S/\(∀p,(ent T p).1<=(ent (R.foldl (YU W) T) p).1)/\∀s∈R,(ent W s.a).1+s.g<=(ent (R.foldl (YU W) T) s.b).1
 |[],T,_,k=>⟨k,λ_=>Ja _,λs h=>by cases h⟩
 |s::R,T,hR,k=>by
  obtain⟨k1,u1,c1⟩:=wa (hR s Qj) (hS s (hR s Qj)) k;obtain⟨k2,u2,c2⟩:=Ed hS R _ (λx hx=>hR x (Qi _ hx)) k1;refine⟨k2,λp=>JL (u1 p) (u2 p),λx hx=>?_⟩;rcases QE.mp hx with rfl|hx
  .exact JL c1 (u2 x.b)
  .exact c2 x hx
theorem EX  {S}(hS:∀s∈S,s.b<W.length):Ra W (Py W S) S/\∀s∈S,(ent W s.a).1+s.g<=(ent (Py W S) s.b).1:=by obtain⟨k,_,c⟩:=Ed hS S W (λ_ h=>h) ⟨rfl,λ_=>Ja _,λ_=>.inl wZ⟩;exact⟨k,c⟩
section
variable{n:Nat}{S:List Stp}(hS:∀s∈S,s.a<n/\s.b<n)
include hS
theorem Ru:∀t,(K1 n S t).length=n
 |0=>by unfold K1;rw[QF]
 |t+1=>by unfold K1;rw[(EX (λs h=>by rw[Ru t];simp_all)).1.len,Ru t]
theorem To(t):Ra (K1 n S t) (K1 n S (t+1)) S/\∀s∈S,(ent (K1 n S t) s.a).1+s.g<=(ent (K1 n S (t+1)) s.b).1:=
 EX (λs h=>by rw[Ru hS t];simp_all)
theorem R9(p):ent (K1 n S 0) p=(0,[]):=by
 unfold ent K1;rw[Qh,QB]
 split<;>rfl
theorem OC:∀t,(∀p,(ent (K1 n S t) p).2.length<=t)/\(∀p,0<t->ent (K1 n S t) p≠ent (K1 n S (t-1)) p->(ent (K1 n S t) p).2.length=t)
 |0=>⟨λp=>by rw[R9 hS];exact Qv _,λp h=>absurd h (Jv _)⟩
 |t+1=>by
  obtain⟨h1,h2⟩:=OC t;obtain⟨k,c⟩:=To hS t
  have key:∀p,ent _ p≠ent (K1 n S t) p->(ent _ p).2.length=t+1:=λp hne=>by
   rcases k.how p with e|⟨s,hs,hb,e,lt⟩
   .exact absurd e hne
   .rw[e,Qk]
    congr 1
    cases t with
    |zero=>rw[R9 hS];rfl
    |succ t=>
     refine h2 s.a (JK t) λz=>?_
     obtain⟨k0,c0⟩:=To hS t;have:=c0 s hs;rw[Nat.add_sub_cancel]at z;rw[e,z,←hb]at lt;exact absurd lt (by lia)
  refine⟨λp=>?_,λp _ hne=>key p (by exact hne)⟩;by_cases z:ent (K1 n S (t+1)) p=ent (K1 n S t) p
  .rw[z];exact Nat.le_succ_of_le (h1 p)
  .rw[key p z];exact Qv _
end
inductive Walk(S:List Stp):Nat->List Stp->Prop where
 |nil (p:Nat):Walk S p []
 |snoc {w:List Stp} {s:Stp} (hs:s∈S) (h:Walk S s.a w):Walk S s.b (w++[s])
noncomputable def Ku(w:List Stp):Int:=(w.map Stp.g).sum
theorem N6:Ku []=0:=rfl
theorem WV(u v):Ku (u++v)=Ku u+Ku v:=by unfold Ku;simp_all
theorem Rp(s:Stp):Ku [s]=s.g:=by unfold Ku;simp
section
variable{n:Nat}{S:List Stp}(hS:∀s∈S,s.a<n/\s.b<n)
include hS
theorem Pf:∀t p,Walk S p (ent (K1 n S t) p).2/\Ku (ent (K1 n S t) p).2=(ent (K1 n S t) p).1
 |0,p=>by rw[R9 hS];exact⟨.nil p,rfl⟩
 |t+1,p=>by
  rcases(To hS t).1.how p with e|⟨s,hs,hb,e,_⟩
  .rw[e];exact Pf t p
  .obtain⟨h1,h2⟩:=Pf t s.a
   rw[e,←hb];exact⟨.snoc hs h1,by rw[WV,Rp,h2]⟩
theorem Fw  (h:t<=u)(p):(ent (K1 n S t) p).1<=(ent (K1 n S u) p).1:=by
 induction h with
 |refl=>exact Ja _
 |step _ ih=>exact JL ih ((To hS _).1.up p)
theorem ku   (h:Walk S p w):∀(t),w.length<=t->Ku w<=(ent (K1 n S t) p).1:=by
 induction h with
 |nil p=>intro t _;have:=Fw hS (JM t) p;rw[R9 hS]at this;exact this
 |@snoc w s hs h ih=>
  intro t hl;rw[Qk,QU]at hl;obtain⟨u,rfl⟩:∃u,t=u+1:=⟨t-1,by lia⟩
  have:=ih u (by lia);have:=(To hS u).2 s hs;rw[WV,Rp]
  lia
theorem xJ  (h0:0<t)(h:∀p,p<n->(ent (K1 n S t) p).2.length≠t):∀s∈S,(ent (K1 n S t) s.a).1+s.g<=(ent (K1 n S t) s.b).1:=λs hs=>by
 obtain⟨u,rfl⟩:∃u,t=u+1:=⟨t-1,by lia⟩
 have e   :=Classical.byContradiction λz=>h s.a (hS s hs).1 ((OC hS _).2 s.a h0 z);rw[e]
 exact(To hS u).2 s hs
end
inductive Path(S:List Stp):Nat->List Stp->Nat->Prop where
 |nil (p:Nat):Path S p [] p
 |cons {s:Stp} {w:List Stp} {p:Nat} (hs:s∈S) (h:Path S s.b w p):Path S s.a (s::w) p
section
variable{S:List Stp}
theorem Path.append  {u v}(h1:Path S q u m)(h2:Path S m v p):Path S q (u++v) p:=by
 induction h1 with
 |nil p=>simp_all
 |cons hs h ih=>exact .cons hs (ih h2)
theorem Path.split  {v}:∀{u}{q},Path S q (u++v) p->∃m,Path S q u m/\Path S m v p
 |[],q,h=>⟨q,.nil q,h⟩
 |s::u,q,h=>by
  cases h with
  |cons hs h=>obtain⟨m,h1,h2⟩:=Path.split  h;exact⟨m,.cons hs h1,h2⟩
theorem Path.mem  {w}(h:Path S q w p):∀s∈w,s∈S:=by
 induction h with
 |nil p=>simp_all
 |cons hs h ih=>simp_all
theorem Walk.path   (h:Walk S p w):∃q,Path S q w p:=by
 induction h with
 |nil p=>exact⟨p,.nil p⟩
 |snoc hs h ih=>obtain⟨q,hq⟩:=ih;exact⟨q,hq.append (.cons hs (.nil _))⟩
theorem Path.walk  : ∀{w}{q},Path S q w p->∀{u},Walk S q u->Walk S p (u++w)
 |[],q,h,u,hu=>by cases h;simp_all
 |s::w,q,h,u,hu=>by
  cases h with
  |cons hs h=>have:=Path.walk h (Walk.snoc hs hu);simp_all
theorem Path.head{q p:Nat}{s:Stp}{w:List Stp}(h:Path S q (s::w) p):q=s.a:=by cases h;rfl
theorem Path.step  {s}{w}(h:Path S q (s::w) p):s∈S/\Path S s.b w p:=by cases h with|cons hs h=>exact⟨hs,h⟩
theorem Path.at  {w}(h:Path S q w p){i}{s}(hi:w[i]?=O s):Path S q (w.take i) s.a/\Path S q (w.take (i+1)) s.b/\Path S s.b (w.drop (i+1)) p:=by
 have hl   :=(Qg.mp hi).1
 have e:w.drop i=s::w.drop (i+1):=by
  rw[Jc hl]
  congr 1
  exact(Qg.mp hi).2
 have h':Path S q (w.take i++w.drop i) p:=by rw[Ua];exact h
 obtain⟨m,h1,h2⟩:=h'.split;rw[e]at h2;have hm:=h2.head;subst hm;obtain⟨hs,h3⟩:=h2.step;refine⟨h1,?_,h3⟩;rw[J0,hi];exact h1.append (.cons hs (.nil _))
theorem Path.next  {w}(h:Path S q w p){i}{s t}(hi:w[i]?=O s)(hj:w[i+1]?=O t):t.a=s.b:=by obtain⟨_,_,h3⟩:=h.at hi;have hl   :=(Qg.mp hj).1;rw[Jc hl]at h3;rw[←(Qg.mp hj).2];exact h3.head.symm
structure Nf(w:List Stp)(i j:Nat):Prop where
 ij:i<=j
 jl:j<w.length
 same:∀s t,w[i]?=O s->w[j]?=O t->s.a=t.b
 first:∀j'<j,∀i' ≤ j',∀s t,w[i']?=O s->w[j']?=O t->s.a≠t.b
def Hy(w:List Stp):Prop:=∀j<w.length,∀i ≤ j,∀s t,w[i]?=O s->w[j]?=O t->s.a≠t.b
theorem Gy{n:Nat}(hS:∀s∈S,s.a<n/\s.b<n){q p:Nat}{w:List Stp}(h:Path S q w p)(hl:n<=w.length)(h0:0<n):¬Hy w:=λhn=>by
 obtain⟨s0,w0,rfl⟩:∃s0 w0,w=s0::w0:=by
  cases w with
  |nil=>rw[Qx]at hl;lia
  |cons a b=>exact⟨a,b,rfl⟩
 let P:yi:=s0.a::(s0::w0).map Stp.b
 have key:∀k l:Nat,k<l->∀x y:Nat,P[k]?=O x->P[l]?=O y->x≠y:=λk l yY x y hx hy=>by
  obtain⟨l,rfl⟩:∃m,l=m+1:=⟨l-1,by lia⟩
  have hy:((s0::w0).map Stp.b)[l]?=O y:=hy;rw[Qd]at hy;cases ht:(s0::w0)[l]? with
  |none=>rw[ht]at hy;cases hy
  |some t=>
  rw[ht]at hy;cases hy;have yp   :=(Qg.mp ht).1;obtain⟨s,hs⟩:∃s,(s0::w0)[k]?=O s:=⟨_,Qe (by lia)⟩
  have hxs:x=s.a:=by
   cases k with
   |zero=>cases hs;cases hx;rfl
   |succ k=>
    have hx:((s0::w0).map Stp.b)[k]?=O x:=hx;rw[Qd]at hx;obtain⟨r,hr⟩:∃r,(s0::w0)[k]?=O r:=⟨_,Qe (by lia)⟩
    rw[hr]at hx;cases hx;exact(h.next hr hs).symm
  rw[hxs];exact hn l yp k (by lia) s t hs ht
 have nd:P.Nodup:=by rw[List.nodup_iff_pairwise_ne,List.pairwise_iff_getElem];intro k l hk hl2 yY;exact key k l yY _ _ (Qe hk) (Qe hl2)
 have bound:∀x∈P,x<n:=λx hx=>by
  rcases QE.mp hx with rfl|hx
  .exact(hS s0 h.step.1).1
  .obtain⟨s,hs,rfl⟩:=Qn.mp hx
   exact(hS s (h.mem s hs)).2
 have le:P.length<=n:=by
  have:=List.Nodup.length_le_of_subset nd (l₂:=Ux n) λx hx=>QZ.mpr (bound x hx)
  rwa[Qo]at this
 have:P.length=(s0::w0).length+1:=by show((s0::w0).map Stp.b).length+1=_;rw[Qb]
 lia
theorem xI{n:Nat}(hS:∀s∈S,s.a<n/\s.b<n)(h0:0<n){p:Nat}(hw:(ent (K1 n S n) p).2.length=n){i j:Nat}(r:Nf (ent (K1 n S n) p).2 i j) :
  ∃x,Path S x (((ent (K1 n S n) p).2.take (j+1)).drop i) x/\0<Ku (((ent (K1 n S n) p).2.take (j+1)).drop i):=by
 obtain⟨zR,hg⟩:=Pf hS n p;generalize hW:(ent (K1 n S n) p).2=w at hw r zR hg⊢;obtain⟨q,hp⟩:=zR.path;have hij:=r.ij;have yB:=r.jl;obtain⟨s,hs⟩:∃s,w[i]?=O s:=⟨_,Qe (by lia)⟩
 obtain⟨t,ht⟩:∃t,w[j]?=O t:=⟨_,Qe yB⟩
 have hst:=r.same s t hs ht;obtain⟨a1,a2,a3⟩:=hp.at hs;obtain⟨b1,b2,b3⟩:=hp.at ht;have e1   :=by have:=(Ua i (w.take (j+1))).symm;rw[List.take_take,Nat.min_eq_left (by lia)]at this;exact this
 rw[e1]at b2;obtain⟨m,c1,c2⟩:=b2.split
 have hm:m=s.a:=by
  have e2:(w.take (j+1)).drop i=s::(w.take (j+1)).drop (i+1):=by
   rw[Jc (by rw[Q2];lia)]
   congr 1
   rw[List.getElem_take];exact(Qg.mp hs).2
  rw[e2]at c2;exact c2.head
 subst hm;rw[←hst]at c2 b3;refine⟨s.a,c2,?_⟩;have hsh   :=a1.append b3;have zS:=hsh.walk (u:=[]) (.nil q);rw[QR]at zS;have hlen:(w.take i++w.drop (j+1)).length<=n-1:=by rw[Qk,Q2,Jm];lia
 have most:=ku hS zS (n-1) hlen;have hgw:Ku w=Ku (w.take i)+Ku ((w.take (j+1)).drop i)+Ku (w.drop (j+1)):=by rw[←WV,←e1,←WV,Ua]
 rw[WV]at most
 have lt:(ent (K1 n S (n-1)) p).1<(ent (K1 n S n) p).1:=by
  obtain⟨k,_⟩:=To hS (n-1);rw[Nat.sub_add_cancel h0]at k;rcases k.how p with e|⟨_,_,_,_,lt⟩
  .have:=(OC hS (n-1)).1 p
   rw[←e,hW,hw]at this
   lia
  .exact lt
 lia
theorem vT  {w}(h:Path S q w p){i j:Nat}(r:Nf w i j):(((w.take (j+1)).drop i).map Stp.a).Nodup:=by
 rw[List.nodup_iff_pairwise_ne,List.pairwise_iff_getElem];intro k l hk hl yY;have yB:=r.jl;simp only[Qb,Jm,Q2]at hk hl;simp only[J4,List.getElem_drop,List.getElem_take];obtain⟨m,rfl⟩:∃m,l=m+1:=⟨l-1,by lia⟩
 have e1:w[i+m]?=O w[i+m]:=Qe (by lia);have e2:w[i+m+1]?=O w[i+(m+1)]:=Qe (by lia);have e3:w[i+k]?=O w[i+k]:=Qe (by lia);rw[h.next e1 e2];exact r.first (i+m) (by lia) (i+k) (by lia) _ _ e3 e1
end
noncomputable def Kg(f:Int×Int->Int)(i:Nat):yd->Int
 |none=>0
 |some t=>f ((i:Int),t)
noncomputable def plF(n:Nat):yd->Nat
 |none=>n
 |some t=>t.toNat
noncomputable def ZD(n b:Nat):yd:=if b=n then w4 else O (b:Int)
noncomputable def Ka(f:Int×Int->Int)(k:Nat):LO->Int
 |[]=>0
 |o::r=>Kg f k o+Ka f (k+1) r
theorem Gx(f){o'}:∀{d}{k i}{o},d[i]?=O o->Ka f k (d.set i o')=Ka f k d+Kg f (k+i) o'-Kg f (k+i) o
 |[],_,_,_,h=>by cases h
 |x::d,k,0,o,h=>by
  cases h;show Kg f k o'+Ka f _ d=Kg f k x+Ka f _ d+Kg f k o'-Kg f k x
  lia
 |x::d,k,i+1,o,h=>by
  rw[List.set_cons_succ];unfold Ka;rw[Gx f     (by simpa using h)]
  lia
theorem Fv  : ∀{d:LO}{i}{o},d[i]?=O o->(((d.set i o').count x:Nat):Int)=(d.count x:Nat)+(if o'=x then 1 else 0)-(if o=x then 1 else 0)
 |[],_,_,h=>by cases h
 |y::d,0,o,h=>by cases h;by_cases h1:o'=x<;>by_cases h2:y=x<;>simp[h1,h2]<;>lia
 |y::d,i+1,o,h=>by
  have ih:=Fv (o':=o') (x:=x)    (by simpa using h);rw[List.set_cons_succ,JT,JT]
  lia
structure K7(cs:w8)(qs:LP)(m:Nat)(ws:LO):Prop where
 len:ws.length=m
 wish:∀(i:Nat) t,ws[i]?=O (O t)->((i:Int),t)∈qs
 cop:∀(k:Nat) c,cs[k]?=O c->((ws.count (O (k:Int)):Nat):Int)<=c
structure K2(n m:Nat)(qs:LP):Prop where
 nd:qs.Nodup
 lo:∀q∈qs,0<=q.1/\q.1<m/\0<=q.2/\q.2<n
inductive IsSt(cs:w8)(f:Int×Int->Int)(qs:LP)(ws:LO):Stp->Prop where
 |mv {i:Nat} {o o':yd} (h:ws[i]?=O o) (hne:o'≠o) (hq:∀t,o'=O t->((i:Int),t)∈qs):IsSt cs f qs ws ⟨plF cs.length o,plF cs.length o',Kg f i o'-Kg f i o,O i⟩
 |left {t:Nat} {c:Int} (h:cs[t]?=O c) (hl:((ws.count (O (t:Int)):Nat):Int)<c):IsSt cs f qs ws ⟨t,cs.length,0,w4⟩
 |give {t:Nat} (h:t<cs.length):IsSt cs f qs ws ⟨cs.length,t,0,w4⟩
noncomputable def app(n:Nat)(d:LO)(s:Stp):LO:=match s.w with
 |some i=>d.set i (ZD n s.b)
 |none=>d
noncomputable def nIn(t:Nat)(R:List Stp):Nat:=(R.filter λs=>s.w.isSome&&s.b==t).length
noncomputable def Xe(t:Nat)(R:List Stp):Nat:=(R.filter λs=>s.w.isSome&&s.a==t).length
section
variable{cs:w8}{f:Int×Int->Int}{qs:LP}{m:Nat}{ws:LO}
theorem Du(hp:K2 cs.length m qs){i:Nat}{o}(h:∀t,o=O t->((i:Int),t)∈qs):ZD cs.length (plF cs.length o)=o:=by
 cases o with
 |none=>unfold ZD plF;simp_all
 |some t=>
  have:=hp.lo _ (h t wZ)
  show(if t.toNat=cs.length then w4 else O ((t.toNat):Int))=O t
  grind
theorem Px(hp:K2 cs.length m qs){i:Nat}{o}{t}(ht:t<cs.length)(h:∀t,o=O t->((i:Int),t)∈qs):plF cs.length o=t ↔ o=O (t:Int):=by
 cases o with
 |none=>exact⟨λe=>by have e:cs.length=t:=e;lia,λe=>by cases e⟩
 |some u=>
  have:=hp.lo _ (h u wZ);show u.toNat=t ↔ _;constructor
  .grind
  .lia
theorem R8(hp:K2 cs.length m qs)(hd:K7 cs qs m ws):∀(R:List Stp)(d:LO),(∀s∈R,IsSt cs f qs ws s)->(R.map Stp.a).Nodup->(∀s∈R,∀i,s.w=O i->d[i]?=ws[i]?)->d.length=ws.length->(∀(i:Nat) t,d[i]?=O (O t)->((i:Int),t)∈qs) ->
  Ka f 0 (R.foldl (app cs.length) d)=Ka f 0 d+Ku R/\(R.foldl (app cs.length) d).length=ws.length/\(∀(i:Nat) t,(R.foldl (app cs.length) d)[i]?=O (O t)->((i:Int),t)∈qs) /\
  ∀t,t<cs.length->(((R.foldl (app cs.length) d).count (O (t:Int)):Nat):Int)=(d.count (O (t:Int)):Nat)+(nIn t R:Nat)-(Xe t R:Nat)
 |[],d,_,_,_,hl,hq=>⟨by show _=_+Ku [];rw[N6];show Ka f 0 d=_;lia,hl,hq,λt _=>by show((d.count _:Nat):Int)=_+((0:Nat):Int)-((0:Nat):Int);lia⟩
 |s::R,d,hR,hn,ha,hl,hq=>by
  rw[Qt,JQ]at hn;have hgc:Ku (s::R)=s.g+Ku R:=by show Ku ([s]++R)=_;rw[WV,Rp]
  rw[Jw,hgc];cases hR s Qj with
  |@mv i o o' h hne zH=>
   have hdi:d[i]?=O o:=(ha _ Qj i wZ).trans h;have ho:∀t,o=O t->((i:Int),t)∈qs:=λt e=>hd.wish i t (by rw[h,e])
   have yo:i<d.length:=(Qg.mp hdi).1;have eapp:app cs.length d ⟨plF cs.length o,plF cs.length o',Kg f i o'-Kg f i o,O i⟩=d.set i o':=by show d.set i (ZD cs.length (plF cs.length o'))=_;rw[Du hp zH]
   rw[eapp]
   obtain⟨k1,k2,k3,k4⟩:=R8 hp hd R (d.set i o') (λs hs=>hR s (Qi _ hs)) hn.2 (λs hs j hj=>by
    have hji:i≠j:=λz=>by
     subst z;cases hR s (Qi _ hs)with
     |@mv i2 o2 o2' h2 _ _=>cases hj;rw[h]at h2;cases h2;exact hn.1 (Qn.mpr ⟨_,hs,rfl⟩)
     |left _ _=>cases hj
     |give _=>cases hj
    rw[Qr hji];exact ha s (Qi _ hs) j hj) (by rw[QS];exact hl) (λj t e=>by
    by_cases z:i=j
    .subst z
     rw[QG yo]at e;cases e;exact zH t wZ
    .rw[Qr z]at e;exact hq j t e)
   refine⟨?_,k2,k3,λt ht=>?_⟩
   .rw[k1,Gx f hdi,QO]
    lia
   .rw[k4 t ht,Fv hdi]
    have e1:(if o'=O (t:Int)then(1:Int)else 0)=if plF cs.length o'=t then 1 else 0:=by
     by_cases z:o'=O (t:Int)
     .rw[Qp z,Qp ((Px hp ht zH).mpr z)]
     .rw[Qw z,Qw (λy=>z ((Px hp ht zH).mp y))]
    have e2:(if o=O (t:Int)then(1:Int)else 0)=if plF cs.length o=t then 1 else 0:=by
     by_cases z:o=O (t:Int)
     .rw[Qp z,Qp ((Px hp ht ho).mpr z)]
     .rw[Qw z,Qw (λy=>z ((Px hp ht ho).mp y))]
    have e3:∀(x:Nat),((nIn t (⟨plF cs.length o,plF cs.length o',Kg f i o'-Kg f i o,O i⟩::R):Nat):Int)=(if plF cs.length o'=t then 1 else 0)+(nIn t R:Nat):=λx=>by
     unfold nIn;rw[List.filter_cons];by_cases z:plF cs.length o'=t
     .rw[if_pos z,if_pos (by simp[z]),List.length_cons];lia
     .rw[if_neg z,if_neg (by simp[z])];lia
    have e4:∀(x:Nat),((Xe t (⟨plF cs.length o,plF cs.length o',Kg f i o'-Kg f i o,O i⟩::R):Nat):Int)=(if plF cs.length o=t then 1 else 0)+(Xe t R:Nat):=λx=>by
     unfold Xe;rw[List.filter_cons];by_cases z:plF cs.length o=t
     .rw[if_pos z,if_pos (by simp[z]),List.length_cons];lia
     .rw[if_neg z,if_neg (by simp[z])];lia
    rw[e1,e2,e3 0,e4 0]
    lia
  |left _ _=>obtain⟨k1,k2,k3,k4⟩:=R8 hp hd R d (λs hs=>hR s (Qi _ hs)) hn.2 (λs hs=>ha s (Qi _ hs)) hl hq;refine⟨?_,k2,k3,k4⟩;show Ka f 0 (R.foldl _ d)=Ka f 0 d+(0+Ku R);rw[k1];lia
  |give _=>obtain⟨k1,k2,k3,k4⟩:=R8 hp hd R d (λs hs=>hR s (Qi _ hs)) hn.2 (λs hs=>ha s (Qi _ hs)) hl hq;refine⟨?_,k2,k3,k4⟩;show Ka f 0 (R.foldl _ d)=Ka f 0 d+(0+Ku R);rw[k1];lia
theorem OY(t):∀R:List Stp,nIn t R<=(R.map Stp.b).count t
 |[]=>Qv _
 |s::R=>by
  have ih:=OY t R;unfold nIn at ih⊢
  grind
theorem Gw(hp:K2 cs.length m qs)(hd:K7 cs qs m ws){R:List Stp}(hR:∀s∈R,IsSt cs f qs ws s)(hn:(R.map Stp.a).Nodup)(hb:(R.map Stp.b).Perm (R.map Stp.a)):K7 cs qs m (R.foldl (app cs.length) ws)/\Ka f 0 (R.foldl (app cs.length) ws)=Ka f 0 ws+Ku R:=by
 obtain⟨k1,k2,k3,k4⟩:=R8 hp hd R ws hR hn (λs hs i e=>rfl) wZ hd.wish;refine⟨⟨by rw[k2];exact hd.len,k3,λt c hc=>?_⟩,k1⟩;have ht   :=(Qg.mp hc).1;rw[k4 t ht];have h0:=hd.cop t c hc;have h1   :=List.nodup_iff_count.mp hn t;have h2:=OY t R;rw[hb.count_eq]at h2;by_cases z:nIn t R=0
 .lia
 .have hmem:t∈R.map Stp.a:=List.count_pos_iff.mp (by lia)
  obtain⟨s,hs,hst⟩:=Qn.mp hmem;cases hR s hs with
  |@mv i o o' h hne zH=>
   have:1<=Xe t R:=by exact List.length_pos_iff.mpr (List.ne_nil_of_mem (List.mem_filter.mpr ⟨hs,by simpa using hst⟩))
   lia
  |@left u c' h hl=>
   have hst:u=t:=hst;subst hst;rw[h]at hc;cases hc
   lia
  |@give u h=>
   lia
end
theorem Hx   {w}(h:Path S q w p):w.map Stp.a++[p]=q::w.map Stp.b:=by
 induction h with
 |nil p=>rfl
 |cons hs h ih=>simp_all
theorem Mt    (h:Path S x w x):(w.map Stp.b).Perm (w.map Stp.a):=by have e:=Hx h;have p1:(w.map Stp.a++[x]).Perm _:=List.perm_append_comm;simp_all
noncomputable def ZJ(f:Int×Int->Int)(V:Nat->Int)(qs:LP)(i:Int):Int:=qs.foldl (λa q=>if q.1=i then max a (f q-V q.2.toNat)else a) 0
theorem On(f:Int×Int->Int)(V:Nat->Int)(i:Int):∀(qs:LP)(a),a<=qs.foldl (λa q=>if q.1=i then max a (f q-V q.2.toNat)else a) a /\
  (∀q∈qs,q.1=i->f q-V q.2.toNat<=qs.foldl (λa q=>if q.1=i then max a (f q-V q.2.toNat)else a) a) /\
  ∀B,a<=B->(∀q∈qs,q.1=i->f q-V q.2.toNat<=B)->qs.foldl (λa q=>if q.1=i then max a (f q-V q.2.toNat)else a) a<=B
 |[],a=>⟨Ja _,(λq h=>by cases h),λB h _=>h⟩
 |q::qs,a=>by
  rw[Jw];obtain⟨h1,h2,h3⟩:=On f V i qs _;have hb:a<=(if q.1=i then max a (f q-V q.2.toNat)else a):=by split<;>lia
  refine⟨JL hb h1,λp hp e=>?_,λB ha hB=>h3 B ?_ λp hp=>hB p (Qi _ hp)⟩
  .rcases QE.mp hp with rfl|hp
   .lia
   .exact h2 p hp e
  .have:=hB q Qj
   split
   .lia
   .exact ha
theorem Fu   : ∀(ws)(k:Nat)(A),(∀(j:Nat) o,ws[j]?=O o->A (k+j)=Kg f (k+j) o-(match o with|some t=>ps.getD t.toNat 0|none=>0))->((List.range' k ws.length).map A).sum=Ka f k ws-pz ps ws
 |[],k,A,_=>by show(0:Int)=0-0;lia
 |o::ws,k,A,h=>by
  rw[Qz,List.range'_succ,Qt,Jj,Fu ws (k+1) A λj o' e=>by have:=h (j+1) o' (by simpa using e);rw[show k+1+j=k+(j+1)by lia];exact this];have h0:=h 0 o wZ;rw[Uk]at h0;rw[h0];cases o with
  |none=>show Kg f k w4-0+_=Kg f k w4+Ka f (k+1) ws-(0+pz ps ws);lia
  |some t=>show Kg f k _-ps.getD t.toNat 0+_=Kg f k (O t)+Ka f (k+1) ws-(ps.getD t.toNat 0+pz ps ws);lia
section
variable{cs:w8}{f:Int×Int->Int}{qs:LP}{m:Nat}{ws:LO}{S:List Stp}
theorem IsSt.lt(hp:K2 cs.length m qs)(hd:K7 cs qs m ws){s}(h:IsSt cs f qs ws s):s.a<cs.length+1/\s.b<cs.length+1:=by
 have key:∀{i:Nat}{o:yd},(∀t,o=O t->((i:Int),t)∈qs)->plF cs.length o<cs.length+1:=λ{i o} h=>by
  cases o with
  |none=>exact JN _
  |some t=>have:=hp.lo _ (h t wZ);show t.toNat<_;lia
 cases h with
 |mv h hne hq=>exact⟨key λt e=>hd.wish _ t (by rw[h,e]),key hq⟩
 |left h hl=>have:=(Qg.mp h).1;exact⟨JW this,JN _⟩
 |give h=>exact⟨JN _,JW h⟩
theorem qS{V:Nat->Int}(still:∀s∈S,V s.a+s.g<=V s.b){q p}{w}(h:Path S q w p):V q+Ku w<=V p:=by
 induction h with
 |nil p=>rw[N6];lia
 |@cons s w p hs h ih=>
  have:=still s hs;have e:Ku (s::w)=s.g+Ku w:=by show Ku ([s]++w)=_;rw[WV,Rp]
  lia
theorem Ft(hp:K2 cs.length m qs)(hd:K7 cs qs m ws){V:Nat->Int}(st:∀s,IsSt cs f qs ws s->V s.a+s.g<=V s.b)(vn:V cs.length=0) :
  OkP cs.length m (λa b=>f (a,b)) qs 1 ((Ux m).map λi:Nat=>ZJ f V qs (i:Int)) ((Ux cs.length).map V)/\Wl cs ((Ux m).map λi:Nat=>ZJ f V qs (i:Int)) ((Ux cs.length).map V)=Ka f 0 ws:=by
 have v0:∀p,p<cs.length->0<=V p:=λp zJ=>by
  have h3:V cs.length+0<=V p:=st _ (.give zJ)
  lia
 have psD:∀k,k<cs.length->((Ux cs.length).map V).getD k 0=V k:=λk hk=>by rw[Qh,Qd,QM hk];rfl
 have ask:∀(i:Nat) o,ws[i]?=O o->ZJ f V qs (i:Int)=Kg f i o-(match o with|some t=>((Ux cs.length).map V).getD t.toNat 0|none=>0):=λi o h=>by
  obtain⟨a1,a2,a3⟩:=On f V (i:Int) qs 0;cases o with
  |none=>
   have:ZJ f V qs (i:Int)<=0:=a3 0 (Ja _) λq hq e=>by
    have h1:=st _ ((.mv (f:=f) h (o':=O q.2) (by intro z;cases z) λt et=>by cases et;rw[←e];exact hq));have h1:V cs.length+(f ((i:Int),q.2)-0)<=V q.2.toNat:=h1;rw[←e]at h1;have:f (q.1,q.2)=f q:=rfl
    lia
   show ZJ f V qs (i:Int)=0-0;have:0<=ZJ f V qs (i:Int):=a1
   lia
  |some t=>
   have hq:=hd.wish i t h;have hb:=hp.lo _ hq;have hup:=st _ ((.mv (f:=f) h (o':=w4) (by intro z;cases z) λt et=>by cases et));have hup:V t.toNat+(0-f ((i:Int),t))<=V cs.length:=hup;show ZJ f V qs (i:Int)=f ((i:Int),t)-((Ux cs.length).map V).getD t.toNat 0;rw[psD t.toNat (by lia)];have lo:f ((i:Int),t)-V t.toNat<=ZJ f V qs (i:Int):=a2 _ hq wZ
   have hi:ZJ f V qs (i:Int)<=f ((i:Int),t)-V t.toNat:=a3 _ (by lia) λq hq e=>by
    by_cases z:q.2=t
    .have:q=((i:Int),t):=by rw[←e,←z]
     rw[this];exact Ja _
    .have h1:=st _ ((.mv (f:=f) h (o':=O q.2) (by intro y;cases y;exact z wZ) λt et=>by cases et;rw[←e];exact hq))
     have h1:V t.toNat+(f ((i:Int),q.2)-f ((i:Int),t))<=V q.2.toNat:=h1;have:f (((i:Int)),q.2)=f q:=by rw[←e]
     lia
   lia
 refine⟨⟨by decide,by rw[Qb,Qo],by rw[Qb,Qo],λa ha=>?_,λp zJ=>?_,λq hq=>?_⟩,?_⟩
 .obtain⟨i,_,rfl⟩:=Qn.mp ha
  exact(On f V (i:Int) qs 0).1
 .obtain⟨i,_,rfl⟩:=Qn.mp zJ
  exact v0 i (QZ.mp (by assumption))
 .have hb:=hp.lo q hq
  rw[psD q.2.toNat (by lia),Qh,Qd,QM (by lia)];have h2:=(On f V q.1 qs 0).2.1 q hq wZ;show 1*f q<=ZJ f V qs ((q.1.toNat:Nat):Int)+V q.2.toNat;have e:((q.1.toNat:Nat):Int)=q.1:=by lia
  rw[e];have h2:f q-V q.2.toNat<=ZJ f V qs q.1:=h2
  lia
 .unfold Wl
  rw[List.range_eq_range' (n:=m),←hd.len,Fu (f:=f) (ps:=(Ux cs.length).map V) ws 0 (λi:Nat=>ZJ f V qs (i:Int)) λj o e=>by rw[QO];exact ask j o e];have yU:∀t,O t∈ws->0<=t/\t<cs.length:=λt ht=>by obtain⟨i,hi⟩:=List.mem_iff_getElem?.mp ht;have:=hp.lo _ (hd.wish i t hi);exact⟨this.2.2.1,this.2.2.2⟩
  rw[Oq ws yU,Mv _ _ (by rw[Qb,Qo])]
  have e:Zh cs.length (λk=>cs.getD k 0*((Ux cs.length).map V).getD k 0)=Zh cs.length λk=>((ws.count (O (k:Int)):Nat):Int)*((Ux cs.length).map V).getD k 0:=Mw λk hk=>by
   rw[psD k hk];have hc:cs[k]?=O (cs.getD k 0):=by rw[Qh,Qe hk];rfl
   have hle:=hd.cop k _ hc;by_cases z:((ws.count (O (k:Int)):Nat):Int)=cs.getD k 0
   .rw[z]
   .have h1:=st _ ((.left (f:=f) (qs:=qs) hc (by lia)))
    have h1:V k+0<=V cs.length:=h1;have:=v0 k hk;have hz:V k=0:=by lia
    rw[hz,Ue,Ue]
  rw[e]
  lia
theorem R7(hp:K2 cs.length m qs)(hd:K7 cs qs m ws)(hin:∀s∈S,IsSt cs f qs ws s)(hall:∀s,IsSt cs f qs ws s->s∈S){V:Nat->Int}(hV:∀p,V p=(ent (K1 (cs.length+1) S (cs.length+1)) p).1)
  (still:∀p,p<cs.length+1->(ent (K1 (cs.length+1) S (cs.length+1)) p).2.length≠cs.length+1):(∀s∈S,V s.a+s.g<=V s.b)/\V cs.length=0:=by
 have hS   :=λs hs=>(hin s hs).lt hp hd;have st:∀s∈S,V s.a+s.g<=V s.b:=λs hs=>by rw[hV,hV];exact xJ hS (JK _) still s hs
 have v0:∀p,0<=V p:=λp=>by have:=Fw hS (JM (cs.length+1)) p;rw[R9 hS]at this;rw[hV];exact this
 have vn:V cs.length=0:=by
  obtain⟨hw,hg⟩:=Pf hS _ cs.length;obtain⟨q,hq⟩:=hw.path;have h1:=qS st hq;rw[hg,←hV]at h1;have h2:=v0 q;by_cases z:q=cs.length
  .lia
  .have hql:q<cs.length:=by
    cases hw2:(ent _ cs.length).2 with
    |nil=>rw[hw2]at hq;cases hq;exact absurd wZ z
    |cons s w=>
     rw[hw2]at hq;have:=(hS s hq.step.1).1;rw[←hq.head]at this
     lia
   have h3:=st _ (hall _ (.give hql));have:=v0 cs.length
   lia
 exact⟨st,vn⟩
theorem qR(hp:K2 cs.length m qs)(hd:K7 cs qs m ws)(hin:∀s∈S,IsSt cs f qs ws s)(hall:∀s,IsSt cs f qs ws s->s∈S){V}(hV:∀p,V p=(ent (K1 (cs.length+1) S (cs.length+1)) p).1)
  (still:∀p,p<cs.length+1->(ent (K1 (cs.length+1) S (cs.length+1)) p).2.length≠cs.length+1) :
  OkP cs.length m (λa b=>f (a,b)) qs 1 ((Ux m).map λi:Nat=>ZJ f V qs (i:Int)) ((Ux cs.length).map V)/\Wl cs ((Ux m).map λi:Nat=>ZJ f V qs (i:Int)) ((Ux cs.length).map V)=Ka f 0 ws:=by
 obtain⟨st,vn⟩:=R7 hp hd hin hall hV still;exact Ft hp hd (λs hs=>st s (hall s hs)) vn
end
noncomputable def YO:Option Nat->D
 |some i=>.int i
 |none=>.none
noncomputable def U2(s:Stp):D:=.tuple [.int s.a,.int s.b,.int s.g,YO s.w]
noncomputable def Yr(x:Int×List Stp):D:=.tuple [.int x.1,.list (x.2.map U2)]
noncomputable def UW(V:Int->Int->Int)(q:Int×Int):Int:=V q.1 q.2
noncomputable def ZA(n:Nat)(f:Int×Int->Int)(ws:LO):List Stp:=(Ux ws.length).filterMap λi=>match ws.getD i w4 with
 |none=>w4
 |some t=>O ⟨t.toNat,n, -(Kg f i (O t)),O i⟩
noncomputable def Zk(n:Nat)(f:Int×Int->Int)(qs:LP)(ws:LO):List Stp:=qs.filterMap λq=>if ws.getD q.1.toNat w4≠O q.2 then O ⟨plF n (ws.getD q.1.toNat w4),q.2.toNat,f q-Kg f q.1.toNat (ws.getD q.1.toNat w4),O q.1.toNat⟩else w4
noncomputable def Yn(cs:w8)(ws:LO):List Stp:=(Ux cs.length).filterMap λt=>if 0<cs.getD t 0-((ws.count (O (t:Int)):Nat):Int)then O ⟨t,cs.length,0,w4⟩else w4
noncomputable def Z6(n:Nat):List Stp:=(Ux n).map λt=>⟨n,t,0,w4⟩
noncomputable def ZS(cs:w8)(f:Int×Int->Int)(qs:LP)(ws:LO):List Stp:=ZA cs.length f ws++Zk cs.length f qs ws++(Yn cs ws++Z6 cs.length)
theorem kt{m j}{h h'}(hj:j<m)(e:∀i,i≠j->h' i=h i):(((Ux m).map h).map int).set j (.int (h' j))=((Ux m).map h').map int:=by
 apply Jp;intro i;by_cases z:j=i
 .simp_all
 .rw[Qr z,Qd,Qd,Qd,Qd]
  by_cases hi:i<m
  .rw[QM hi]
   show O _=O _;rw[e i λy=>z y.symm]
  .simp_all
theorem P9   {j}(hj:j<m):oIx (.list (((Ux m).map h).map int)) (.int (j:Int))=O (.int (h j)):=K0 (by rw[Qd,Qd,QM hj];rfl)
section
variable{cs:w8}{ls:List (List w8)}{ws:LO}{V:Int->Int->Int}{qs:LP}
theorem vS{n:Nat}{o}(h:∀t,o=O t->0<=t):Wv [.int n,Kn o]=O (.int (plF n o)):=by
 refine KY  rfl ?_;cases o with
 |none=>exact KB (Lo (KS  (x:=PyData.none) (UO wZ)) (UO wZ)) wZ
 |some t=>
  refine KB (O2 (KS  (x:=int t) (UO wZ)) (UO wZ)) ?_;have:=h t wZ;show Out.rt (.int t)=Out.rt (.int ((t.toNat)))
  grind
noncomputable def Yq(V:Int->Int->Int)(ws:LO)(qs:LP)(i:Nat):Int:=match ws.getD i w4 with
 |none=>0
 |some t=>if((i:Int),t)∈qs then V i t else 0
theorem P1{k:Int}(h0:0<=k)(h1:k<ws.length):oIx (Kl ws) (.int k)=O (Kn (ws.getD k.toNat w4)):=by
 obtain⟨j,rfl⟩:∃j:Nat,k=j:=⟨k.toNat,by lia⟩
 refine K0 ?_;simp_all
theorem N5   (h:ws[i]?=O o):ws.getD i w4=o:=by simp_all
theorem kr(hp:K2 cs.length ws.length qs)(hd:K7 cs qs ws.length ws)(hm:ws.length<=1000)(hq1:qs.length<=1000):Vw [.int (cs.length:Nat),.list (qs.map (Zt V)),Kl ws]=O (.list ((ZA cs.length (UW V) ws++Zk cs.length (UW V) qs ws).map U2)):=by
 refine KY (Z:=[pb (.int (cs.length:Nat)),pb (.list (qs.map (Zt V))),pb (Kl ws),w4,w4,w4,w4,w4]) wZ ?_;unfold Sc;have hlen:Kk [Kl ws]=O (.int ws.length):=by show Kk [.list (ws.map Kn)]=_;rw[Zy,Qb]
 have pos:∀i t,ws.getD i w4=O t->i<ws.length/\((i:Int),t)∈qs:=λi t e=>by
  by_cases hi:i<ws.length
  .rw[Qh,Qe hi]at e
   exact⟨hi,hd.wish i t (by rw[Qe hi];exact Ub O e)⟩
  .rw[Qh,QT (by lia)]at e;cases e
 refine Kh (YJ (HC (n:=ws.length) (Zz (UQ U0 UX) (Qa wZ)) (ZP wZ hlen) hm) (Qa wZ) wZ) ?_;apply Za;apply ZR (λk Z=>∃x4 x5 x6,Z=[pb (.int (cs.length:Nat)),pb (.list (qs.map (Zt V))),pb (Kl ws),O (.own (((Ux ws.length).map (Yq V ws (qs.take k))).map int)),x4,x5,x6,w4])
 case h1=>exact Zv (UO wZ) ZK
 case h0=>
  refine⟨w4,w4,w4,?_⟩
  have e:((Ux ws.length).map (Yq V ws (qs.take 0))).map int=Uy ws.length (.int 0):=by
   rw[List.eq_replicate_iff];refine⟨by rw[Qb,Qb,Qo],λb hb=>?_⟩;obtain⟨x,hx,rfl⟩:=Qn.mp hb;obtain⟨i,_,rfl⟩:=Qn.mp hx;unfold Yq;split
   .rfl
   .rw[if_neg (by rw[List.take_zero];simp)]
  rw[e];rfl
 case hst=>
  rintro k d Z hk ⟨x4,x5,x6,rfl⟩;rw[Qd]at hk;cases hq:qs[k]? with
  |none=>rw[hq]at hk;cases hk
  |some q=>
  rw[hq]at hk;cases hk;have hb:=hp.lo q (Qs hq);refine⟨_,Kq wZ (UZ (UV (Qa wZ) wZ) (UZ (UV (Qa wZ) wZ) (UZ (UV (Qa wZ) wZ) Kr))),?_⟩;unfold Hi;have yy:qs.take (k+1)=qs.take k++[q]:=by rw[J0,hq];rfl
  apply KU
  case h1=>exact U9 (Ky wZ (UO wZ) (P1 hb.1 hb.2.1)) (UO wZ) (OW (b:=O q.2))
  case h2=>
   intro hh;have hh:ws.getD q.1.toNat w4=O q.2:=Qa hh;refine YI (R1 (UO wZ) wZ (UO wZ) wZ ⟨hb.1,by rw[Qb,Qb,Qo];exact hb.2.1⟩ wZ) (Zf ⟨O (.pub (.int q.1)),pb (.int q.2),pb (.int (V q.1 q.2)),?_⟩)
   have e:=kt (m:=ws.length) (j:=q.1.toNat) (h:=Yq V ws (qs.take k)) (h':=Yq V ws (qs.take (k+1))) (by lia) λi hne=>by
    unfold Yq;cases ws.getD i w4 with
    |none=>rfl
    |some t=>
     dsimp only;rw[yy];by_cases z:((i:Int),t)∈qs.take k
     .rw[Qp z,Qp (Q9 _ z)]
     .rw[Qw z,Qw]
      intro y;rcases QI.mp y with y|y
      .exact z y
      .have:=Qu.mp y
       rw[←this]at hne;exact hne (by show i=((i:Int)).toNat;rw[QP])
   have ev:Yq V ws (qs.take (k+1)) q.1.toNat=V q.1 q.2:=by
    unfold Yq;rw[hh];have ei:((q.1.toNat:Nat):Int)=q.1:=by lia
    dsimp only;rw[ei,if_pos (by rw[yy];exact List.mem_append_right _ (by simp))]
   rw[ev]at e;rw[←e];rfl
  case h3=>
   intro hh;have hh:¬ws.getD q.1.toNat w4=O q.2:=Jk hh;refine Ze (Zf ⟨O (.pub (.int q.1)),pb (.int q.2),pb (.int (V q.1 q.2)),?_⟩)
   have e:(Ux ws.length).map (Yq V ws (qs.take (k+1)))=(Ux ws.length).map (Yq V ws (qs.take k)):=JC λi _=>by
    unfold Yq;cases hw:ws.getD i w4 with
    |none=>rfl
    |some t=>
     dsimp only;rw[yy];by_cases z:((i:Int),t)∈qs.take k
     .rw[Qp z,Qp (Q9 _ z)]
     .rw[Qw z,Qw]
      intro y;rcases QI.mp y with y|y
      .exact z y
      .have y:=Qu.mp y
       rw[←y]at hh;exact hh (by show ws.getD ((i:Int)).toNat w4=O t;rw[QP];exact hw)
   rw[e];rfl
 case hend=>
  rintro Z ⟨x4,x5,x6,rfl⟩;refine Zc ?_;have yU:qs.take (qs.map (Zt V)).length=qs:=by rw[Qb,JF]
  rw[yU]
  have am:∀i,Yq V ws qs i=Kg (UW V) i (ws.getD i w4):=λi=>by
   unfold Yq;cases hw:ws.getD i w4 with
   |none=>rfl
   |some t=>exact Qp (pos i t hw).2
  have hc:∀y4 y5 y6 y7:Option Sl,Zb (gT 2 (gNC (gN 8) (gNC (gN 9) (gN0)))) (U7 (λd=>!isNon d) (UM 9)) (Kz (UP (UM 9) (UP (UM 0) (UP (YC (U1 3 (UM 8))) (UP (UM 8) (UN)))))) (Yc 0 (ws.map Kn)) ([pb (.int (cs.length:Nat)),pb (.list (qs.map (Zt V))),pb (Kl ws),pb (.list (((Ux ws.length).map (Yq V ws qs)).map int)),y4,y5,y6,y7]++Uy 2 w4) []=O ((ZA cs.length (UW V) ws).map U2):=by
   intro y4 y5 y6 y7
   have em:(ZA cs.length (UW V) ws).map U2=((Ux ws.length).map λi=>(match ws.getD i w4 with|none=>w4|some t=>O (U2 ⟨t.toNat,cs.length, -(Kg (UW V) i (O t)),O i⟩):ya)).filterMap id:=by
    unfold ZA;rw[List.map_filterMap,List.filterMap_map]
    congr 1
    funext i;dsimp only[Function.comp,id];cases ws.getD i w4<;>rfl
   rw[em];refine Mq (λZ=>∃z4 z5 z6 z7 x y,Z=[pb (.int (cs.length:Nat)),pb (.list (qs.map (Zt V))),pb (Kl ws),pb (.list (((Ux ws.length).map (Yq V ws qs)).map int)),z4,z5,z6,z7,x,y]) _ _ _ _ (by rw[Qb,Qo,YH,Qb]) ?_ ⟨y4,y5,y6,y7,w4,w4,rfl⟩ (by rw[YH,Qb,Qx];lia);rintro i d e hdd he Z ⟨z4,z5,z6,z7,x,y,rfl⟩;obtain⟨z,hz,rfl⟩:=Xa hdd;rw[Qd]at hz;cases hw:ws[i]? with
   |none=>rw[hw]at hz;cases hz
   |some o=>
   rw[hw]at hz;cases hz;have yo:i<ws.length:=(Qg.mp hw).1;have hg:=N5 hw;rw[Qd,QM yo]at he;have he:O (match ws.getD i w4 with|none=>w4|some t=>O (U2 ⟨t.toNat,cs.length, -(Kg (UW V) i (O t)),O i⟩):ya)=O e:=he;rw[hg]at he;cases he;rw[QO];refine⟨_,Kq wZ (UZ (UV (Qa wZ) wZ) (UZ (UV (Qa wZ) wZ) Kr)),?_,?_,_,_,_,_,_,_,rfl⟩
   .cases o with
    |none=>exact KS (k:=λd=>!isNon d) (x:=PyData.none) (UO wZ)
    |some t=>exact KS (k:=λd=>!isNon d) (x:=int t) (UO wZ)
   .intro v hv
    cases o with
    |none=>cases hv
    |some t=>
     cases hv;have hb:=hp.lo _ (pos i t hg).2;have et:((t.toNat:Nat):Int)=t:=by have:=hb.2.2.1;lia
     show _=Res.ok (PyData.tuple [.int ((t.toNat:Nat):Int),.int ((cs.length:Nat):Int),.int (-(Kg (UW V) i (O t))),.int (i:Nat)]) _;rw[et,show Kg (UW V) i (O t)=Yq V ws qs i by rw[am,hg]];exact Yi (UQ (UO wZ) (UQ (UO wZ) (UQ (RI (Ky wZ (UO wZ) (P9 yo))) (UQ (UO wZ) UX)))) (Qa wZ)
  have nlS:∀S:List Stp,(S.map U2).all nl0=w5:=λS=>Je.mpr λd hd=>by obtain⟨s,_,rfl⟩:=Qn.mp hd;obtain⟨a,b,g,w⟩:=s;cases w<;>rfl
  have hcl:∀x4 x5 x6:Option Sl,WB (Zo (Y5 (UP (UM 2) (UN))) 2 (gT 2 (gNC (gN 8) (gNC (gN 9) (gN0)))) (U7 (λd=>!isNon d) (UM 9)) (Kz (UP (UM 9) (UP (UM 0) (UP (YC (U1 3 (UM 8))) (UP (UM 8) (UN))))))) [pb (.int (cs.length:Nat)),pb (.list (qs.map (Zt V))),pb (Kl ws),O (.own (((Ux ws.length).map (Yq V ws qs)).map int)),x4,x5,x6,w4]=.ok ((ZA cs.length (UW V) ws).map U2) [pb (.int (cs.length:Nat)),pb (.list (qs.map (Zt V))),pb (Kl ws),O (.own (((Ux ws.length).map (Yq V ws qs)).map int)),x4,x5,x6,w4]:=λx4 x5 x6=>
   qp (Z':=ZZ [pb (.int (cs.length:Nat)),pb (.list (qs.map (Zt V))),pb (Kl ws),O (.own (((Ux ws.length).map (Yq V ws qs)).map int)),x4,x5,x6,w4]) (ZC (XJ (UQ (UO wZ) UX) XG) (hc _ _ _ _)) (nlS _)
  refine Kh (YJ (hcl _ _ _) (Qa wZ) wZ) ?_;apply Za;apply ZR (λk Z=>∃x4 x5 x6,Z=[pb (.int (cs.length:Nat)),pb (.list (qs.map (Zt V))),pb (Kl ws),O (.own (((Ux ws.length).map (Yq V ws qs)).map int)),x4,x5,x6,O (.own ((ZA cs.length (UW V) ws++Zk cs.length (UW V) (qs.take k) ws).map U2))])
  case h1=>exact Zv (UO wZ) ZK
  case h0=>exact⟨_,_,_,by rw[List.take_zero];show _=[_,_,_,_,_,_,_,O (Sl.own ((ZA cs.length (UW V) ws++[]).map U2))];rw[Jl];rfl⟩
  case hst=>
   rintro k d Z hk ⟨x4,x5,x6,rfl⟩;rw[Qd]at hk;cases hq:qs[k]? with
   |none=>rw[hq]at hk;cases hk
   |some q=>
   rw[hq]at hk;cases hk;have hb:=hp.lo q (Qs hq);have yy:qs.take (k+1)=qs.take k++[q]:=by rw[J0,hq];rfl
   have yY:k<qs.length:=(Qg.mp hq).1
   have hsz:((ZA cs.length (UW V) ws++Zk cs.length (UW V) (qs.take k) ws).map U2).length<1000000:=by
    rw[Qb,Qk];have h1:(ZA cs.length (UW V) ws).length<=ws.length:=by unfold ZA;have:=Q8 (λi=>match ws.getD i w4 with|none=>w4|some t=>O (⟨t.toNat,cs.length, -(Kg (UW V) i (O t)),O i⟩:Stp)) (Ux ws.length);rw[Qo]at this;exact this
    have h2:(Zk cs.length (UW V) (qs.take k) ws).length<=qs.length:=by unfold Zk;refine QN (Q8 _ _) ?_;rw[Q2];lia
    lia
   refine⟨_,Kq wZ (UZ (UV (Qa wZ) wZ) (UZ (UV (Qa wZ) wZ) (UZ (UV (Qa wZ) wZ) Kr))),?_⟩;unfold Hj;have e2:∀r:List Stp,Zk cs.length (UW V) [q] ws=r->Zk cs.length (UW V) (qs.take (k+1)) ws=Zk cs.length (UW V) (qs.take k) ws++r:=λr hr=>by rw[yy];unfold Zk at hr⊢;rw[List.filterMap_append,hr]
   apply KU
   case h1=>exact U9 (Ky wZ (UO wZ) (P1 hb.1 hb.2.1)) (UO wZ) (Cp (b:=O q.2))
   case h2=>
    intro hh;have hh:¬ws.getD q.1.toNat w4=O q.2:=by simpa using hh
    have hpl:Wv [.int (cs.length:Nat),Kn (ws.getD q.1.toNat w4)]=O (.int (plF cs.length (ws.getD q.1.toNat w4))):=vS λt e=>by have:=hp.lo _ (pos _ t e).2;exact this.2.2.1
    refine YI (WN wZ (Yi (UQ (Kj (UQ (UO wZ) (UQ (Ky wZ (UO wZ) (P1 hb.1 hb.2.1)) UX)) wZ hpl) (UQ (UO wZ) (UQ (U9 (UO wZ) (RJ wZ (UO wZ) wZ (show oIx _ (.int q.1)=O (.int (Yq V ws qs q.1.toNat))from by have:=P9 (m:=ws.length) (h:=Yq V ws qs) (j:=q.1.toNat) (by lia);rw[show((q.1.toNat:Nat):Int)=q.1 by lia]at this;exact this)) Xc) (UQ (UO wZ) UX)))) (Qa wZ)) wZ hsz wZ) (Zf ⟨O (.pub (.int q.1)),pb (.int q.2),pb (.int (V q.1 q.2)),?_⟩);have er:Zk cs.length (UW V) [q] ws=[⟨plF cs.length (ws.getD q.1.toNat w4),q.2.toNat,UW V q-Kg (UW V) q.1.toNat (ws.getD q.1.toNat w4),O q.1.toNat⟩]:=by unfold Zk;rw[JB,Qp hh];rfl
    rw[e2 _ er,←Q6,Qy (l₂:=[_])];show _=[_,_,_,_,_,_,_,O (Sl.own (_++[PyData.tuple [_,.int ((q.2.toNat:Nat):Int),.int (UW V q-Kg (UW V) q.1.toNat (ws.getD q.1.toNat w4)),.int ((q.1.toNat:Nat):Int)]]))];rw[show((q.2.toNat:Nat):Int)=q.2 by lia,show((q.1.toNat:Nat):Int)=q.1 by lia,←am];rfl
   case h3=>
    intro hh;have hh:ws.getD q.1.toNat w4=O q.2:=by simpa using hh
    refine Ze (Zf ⟨O (.pub (.int q.1)),pb (.int q.2),pb (.int (V q.1 q.2)),?_⟩);have er:Zk cs.length (UW V) [q] ws=[]:=by unfold Zk;rw[List.filterMap_cons,if_neg (by rw[hh];simp)];rfl
    rw[e2 _ er,Jl];rfl
  case hend=>rintro Z ⟨x4,x5,x6,rfl⟩;rw[yU];exact Zc (KB (YY rfl rfl) rfl)
end
section
variable{cs:w8}{ls:List (List w8)}{ws:LO}{V:Int->Int->Int}{qs:LP}
theorem kq(g:Good cs ls)(hm:ws.length=ls.length):Vv [Kp cs ls,Kl ws]=O (.list ((Yn cs ws++Z6 cs.length).map U2)):=by
 refine KY  rfl ?_;unfold Sb;have c6:=g.c6;have yF:Kk [.list (cs.map int)]=O (.int cs.length):=by rw[Zy,Qb]
 refine Kh (KM (Yg (UQ (Ky wZ U0 Tc) UX) yF) (Qa wZ) wZ) ?_;refine Kh (KM (Kj (UQ (UO wZ) (UQ (UO wZ) UX)) wZ (wU g)) (Qa wZ) wZ) ?_;have yp:(Xn cs ws).length=cs.length:=by unfold Xn;rw[Qb,Qo]
 have hc:Zb (gT 2 (gNC (gN 5) (gNC (gN 6) (gN0)))) (Zi (oIB λi j=>decide (j<i)) 6 (UT (.int 0))) (Kz (UP (UM 5) (UP (UM 2) (UP (UT (.int 0)) (UP (UT .none) (UN)))))) (Yc 0 ((Xn cs ws).map int)) (KD [pb (Kp cs ls),pb (Kl ws),pb (.int cs.length),pb (.list ((Xn cs ws).map int)),w4]++Uy 2 w4) []=O ((Yn cs ws).map U2):=by
  have em:(Yn cs ws).map U2=((Ux cs.length).map λt=>(if 0<cs.getD t 0-((ws.count (O (t:Int)):Nat):Int)then O (U2 ⟨t,cs.length,0,w4⟩)else none:ya)).filterMap id:=by
   unfold Yn;rw[List.map_filterMap,List.filterMap_map]
   congr 1
   funext i;dsimp only[Function.comp,id]
   split<;>rfl
  rw[em];refine Mq (λZ=>∃x y,Z=[pb (Kp cs ls),pb (Kl ws),pb (.int cs.length),pb (.list ((Xn cs ws).map int)),w4,x,y]) _ _ _ _ (by rw[Qb,Qo,YH,Qb,yp]) ?_ ⟨w4,w4,rfl⟩ (by rw[YH,Qb,yp,Qx];lia);rintro i d e hd he Z ⟨x,y,rfl⟩;obtain⟨z,hz,rfl⟩:=Xa hd;rw[Qd]at hz
  have yo:i<cs.length:=by
   rw[←yp];cases hw:(Xn cs ws)[i]? with
   |none=>rw[hw]at hz;cases hz
   |some v=>exact(Qg.mp hw).1
  have hlv:(Xn cs ws)[i]?=O (cs.getD i 0-((ws.count (O (i:Int)):Nat):Int)):=by unfold Xn;rw[Qd,QM yo];rfl
  rw[hlv]at hz;cases hz;rw[Qd,QM yo]at he;cases he;rw[QO];refine⟨_,Kq wZ (UZ (UV (Qa wZ) wZ) (UZ (UV (Qa wZ) wZ) Kr)),?_,?_,_,_,rfl⟩
  .have e:(if 0<cs.getD i 0-((ws.count (O (i:Int)):Nat):Int)then O (U2 ⟨i,cs.length,0,w4⟩)else none:ya).isSome=decide (0<cs.getD i 0-((ws.count (O (i:Int)):Nat):Int)):=by
    by_cases h:0<cs.getD i 0-((ws.count (O (i:Int)):Nat):Int)
    .rw[Qp h,QW h];rfl
    .rw[Qw h,QQ h];rfl
   rw[e];exact Ye wZ U0 wZ
  .intro v hv
   dsimp only at hv;split at hv
   .cases hv
    exact Yi (UQ (UO wZ) (UQ (UO wZ) (UQ U0 (UQ U0 UX)))) (Qa wZ)
   .cases hv
 refine Kh (YJ (ZC (XJ (UQ (UO wZ) UX) XG) hc) (Qa wZ) wZ) ?_;have yz:(Yt 0 (cs.length:Int)).length=cs.length:=by rw[Y0];lia
 have hc2:∀x4:Option Sl,Zb (gN 5) (UT w5) (Kz (UP (UM 2) (UP (UM 5) (UP (UT (.int 0)) (UP (UT .none) (UN)))))) (Yt 0 (cs.length:Int)) (KD [pb (Kp cs ls),pb (Kl ws),pb (.int cs.length),pb (.list ((Xn cs ws).map int)),x4]++Uy 1 w4) []=O ((Z6 cs.length).map U2):=λx4=>by refine Xd (λZ=>∃z x,Z=[pb (Kp cs ls),pb (Kl ws),pb (.int cs.length),pb (.list ((Xn cs ws).map int)),z,x]) _ _ _ _ (by unfold Z6;rw[Qb,Qb,Qo,yz]) ?_ ⟨_,w4,rfl⟩ (by rw[yz,Qx];lia);rintro i d e hd he Z ⟨z,x,rfl⟩;obtain⟨rfl,hlt⟩:=Wo hd;unfold Z6 at he;rw[Qd,Qd,QM (by lia)]at he;cases he;rw[JG];exact⟨_,UV (Qa wZ) wZ,rfl,Yi (UQ (UO wZ) (UQ (UO wZ) (UQ U0 (UQ U0 UX)))) (Qa wZ),_,_,rfl⟩
 have h1:(Yn cs ws).length<=cs.length:=by unfold Yn;have:=Q8 (λt=>if 0<cs.getD t 0-((ws.count (O (t:Int)):Nat):Int)then O (⟨t,cs.length,0,w4⟩:Stp)else w4) (Ux cs.length);rw[Qo]at this;exact this
 have h2:(Z6 cs.length).length=cs.length:=by unfold Z6;rw[Qb,Qo]
 refine KB (U9 (YY wZ wZ) (KS (ZC (Wn (UQ (UO wZ) UX) (Wm (by lia) (by lia))) (hc2 _))) (XH (by rw[Qb,Qb];lia))) ?_;rw[Qy]
theorem MJ(g:Good cs ls)(hm:ws.length=ls.length)(hp:K2 cs.length ws.length qs)(hd:K7 cs qs ws.length ws)(hq1:qs.length<=1000):YD [Kp cs ls,.list (qs.map (Zt V)),Kl ws]=O (.list ((ZS cs (UW V) qs ws).map U2)):=by
 refine KY  rfl ?_;have c6:=g.c6;have l7:=g.l7;have yF:Kk [.list (cs.map int)]=O (.int (cs.length:Nat)):=by rw[Zy,Qb]
 have h1:(ZA cs.length (UW V) ws).length<=ws.length:=by unfold ZA;have:=Q8 (λi=>match ws.getD i w4 with|none=>w4|some t=>O (⟨t.toNat,cs.length, -(Kg (UW V) i (O t)),O i⟩:Stp)) (Ux ws.length);rw[Qo]at this;exact this
 have h2:(Zk cs.length (UW V) qs ws).length<=qs.length:=by unfold Zk;exact Q8 _ _
 have h3:(Yn cs ws).length<=cs.length:=by have:=Q8 (λt=>if 0<cs.getD t 0-((ws.count (O (t:Int)):Nat):Int)then O (⟨t,cs.length,0,w4⟩:Stp)else w4) (Ux cs.length);rw[Qo]at this;exact this
 have h4:(Z6 cs.length).length=cs.length:=by unfold Z6;rw[Qb,Qo]
 refine KB (U9 (Kj (UQ (Yg (UQ (Ky wZ U0 Tc) UX) yF) (UQ (UO wZ) (UQ (UO wZ) UX))) wZ (kr hp hd (by lia) hq1)) (Kj (UQ (UO wZ) (UQ (UO wZ) UX)) wZ (kq g hm)) (XH (by rw[Qb,Qb,Qk,Qk];lia))) ?_;unfold ZS;rw[Qy (l₁:=ZA cs.length (UW V) ws++Zk cs.length (UW V) qs ws)]
theorem ko  : (ZS cs f qs ws).length<=ws.length+qs.length+2*cs.length:=by
 have h1:(ZA cs.length f ws).length<=ws.length:=by have:=Q8 (λi=>match ws.getD i w4 with|none=>w4|some t=>O (⟨t.toNat,cs.length, -(Kg f i (O t)),O i⟩:Stp)) (Ux ws.length);rw[Qo]at this;exact this
 have h2:(Zk cs.length f qs ws).length<=qs.length:=by exact Q8 _ _
 have h3:(Yn cs ws).length<=cs.length:=by have:=Q8 (λt=>if 0<cs.getD t 0-((ws.count (O (t:Int))))then O (⟨t,cs.length,0,w4⟩:Stp)else w4) (Ux cs.length);rw[Qo]at this;exact this
 have h4:(Z6 cs.length).length=cs.length:=by unfold Z6;rw[Qb,Qo]
 unfold ZS;rw[Qk,Qk,Qk]
 lia
theorem Xs{m:Nat}{f:Int×Int->Int}(hp:K2 cs.length m qs)(hd:K7 cs qs m ws):∀s∈ZS cs f qs ws,IsSt cs f qs ws s:=λs hs=>by
 have gt:∀{i:Nat}{o:yd},i<ws.length->ws.getD i w4=o->ws[i]?=O o:=λ{i o} hi e=>by rw[Qh,Qe hi]at e;rw[Qe hi];exact Ub O e
 unfold ZS at hs;rcases QI.mp hs with hs|hs
 .rcases QI.mp hs with hs|hs
  .unfold ZA at hs
   obtain⟨i,hi,e⟩:=Jq.mp hs;have hi:=QZ.mp hi;cases hw:ws.getD i w4 with
   |none=>rw[hw]at e;cases e
   |some t=>
    rw[hw]at e;have e:=Q3 e;subst e;have:=IsSt.mv (cs:=cs) (f:=f) (qs:=qs) (gt hi hw) (o':=w4) (by intro z;cases z) (λt e=>by cases e);have e2:Kg f i w4-Kg f i (O t) = -(Kg f i (O t)):=by show 0-_=_;lia
    rw[e2]at this;exact this
  .unfold Zk at hs
   obtain⟨q,hq,e⟩:=Jq.mp hs;have hb:=hp.lo q hq;split at e
   .rename_i hne
    have e:=Q3 e;subst e;have hi:q.1.toNat<ws.length:=by rw[hd.len];lia
    have ei:((q.1.toNat:Nat):Int)=q.1:=by lia
    have:=IsSt.mv (cs:=cs) (f:=f) (qs:=qs) (gt hi wZ) (o':=O q.2) (λz=>hne z.symm) (λt e=>by cases e;rw[ei];exact hq);have e2:Kg f q.1.toNat (O q.2)=f q:=by show f (((q.1.toNat:Nat):Int),q.2)=_;rw[ei]
    rw[e2]at this;exact this
   .cases e
 .rcases QI.mp hs with hs|hs
  .unfold Yn at hs
   obtain⟨t,ht,e⟩:=Jq.mp hs;have ht:=QZ.mp ht;split at e
   .rename_i hl
    have e:=Q3 e;subst e;exact .left (c:=cs.getD t 0) (by rw[Qh,Qe ht];rfl) (by lia)
   .cases e
  .obtain⟨t,ht,rfl⟩:=Qn.mp hs
   exact .give (QZ.mp ht)
theorem Tr{m:Nat}{f}(hp:K2 cs.length m qs)(hd:K7 cs qs m ws):∀s,IsSt cs f qs ws s->s∈ZS cs f qs ws:=λs hs=>by
 unfold ZS;cases hs with
 |@mv i o o' h hne hq=>
  have hi:i<ws.length:=(Qg.mp h).1;have hg:=N5 h;refine Q9 _ ?_;cases o' with
  |none=>
   refine Q9 _ ?_;cases o with
   |none=>exact absurd wZ hne
   |some t=>refine Jq.mpr ⟨i,QZ.mpr hi,?_⟩;rw[hg];show O (⟨t.toNat,cs.length, -_,O i⟩:Stp)=O ⟨t.toNat,cs.length,0-Kg f i (O t),O i⟩;rw[show(0:Int)-Kg f i (O t) = -(Kg f i (O t))by lia]
  |some t=>refine QJ _ ?_;have hqt:=hq t wZ;refine Jq.mpr ⟨((i:Int),t),hqt,?_⟩;dsimp only;rw[QP,hg,Qp (λz=>hne z.symm)];rfl
 |@left t c h hl=>
  refine QJ _ (Q9 _ ?_);have ht:t<cs.length:=(Qg.mp h).1;unfold Yn;refine Jq.mpr ⟨t,QZ.mpr ht,?_⟩;have e:cs.getD t 0=c:=by rw[Qh,h];rfl
  rw[e,Qp (by lia)]
 |@give t h=>refine QJ _ (QJ _ ?_);unfold Z6;exact Qn.mpr ⟨t,QZ.mpr h,rfl⟩
end
theorem Hw  {p:Nat}(h:p<W.length):oIx (.list (W.map Yr)) (.int (p:Int))=O (Yr (ent W p)):=by refine K0 ?_;unfold ent;rw[Qd,Qh,Qe h];rfl
theorem kn{W:Tab}{S:List Stp}(hS:∀s∈S,s.a<W.length/\s.b<W.length)(hW:∀p,(ent W p).2.length<=1000)(hl:W.length<=1000):Vu [.list (W.map Yr),.list (S.map U2)]=O (.list ((Py W S).map Yr)):=by
 refine KY  rfl ?_;unfold Sa;refine Kh (YJ (Od wZ (show Te [.list (W.map Yr)]=O (W.map Yr)from rfl)) (Qa wZ) wZ) ?_;apply Za;apply ZR (λk Z=>∃x3 x4 x5 x6 x7 x8 x9,Z=[pb (.list (W.map Yr)),pb (.list (S.map U2)),O (.own (((S.take k).foldl (YU W) W).map Yr)),x3,x4,x5,x6,x7,x8,x9])
 case h1=>exact Zv (UO wZ) ZK
 case h0=>exact⟨_,_,_,_,_,_,_,rfl⟩
 case hst=>
  rintro k d Z hk ⟨x3,x4,x5,x6,x7,x8,x9,rfl⟩;rw[Qd]at hk;cases hq:S[k]? with
  |none=>rw[hq]at hk;cases hk
  |some s=>
  rw[hq]at hk;cases hk;have hs:=hS s (Qs hq);have yy:S.take (k+1)=S.take k++[s]:=by rw[J0,hq];rfl
  have hfl:(S.take (k+1)).foldl (YU W) W=YU W ((S.take k).foldl (YU W) W) s:=by rw[yy,List.foldl_append];rfl
  have y8:∀(R:List Stp)(T:Tab),(R.foldl (YU W) T).length=T.length:=λR=>by
   induction R with
   |nil=>intro T;rfl
   |cons x R ih=>intro T;rw[Jw,ih,jZ]
  generalize hT:(S.take k).foldl (YU W) W=T at hfl⊢;have y2:T.length=W.length:=by rw[←hT,y8]
  refine⟨_,UV (Qa wZ) wZ,?_⟩;unfold Hg;refine Kh (XA (UO wZ) (Kq wZ (UZ (UV (Qa wZ) wZ) (UZ (UV (Qa wZ) wZ) (UZ (UV (Qa wZ) wZ) (UZ (UV (Qa wZ) wZ) Kr)))))) ?_;refine Kh (XA (Ky wZ (UO wZ) (Hw hs.1)) (Kq wZ (UZ (UV (Qa wZ) wZ) (UZ (UV (Qa wZ) wZ) Kr)))) ?_;have i0:oIx (Yr (ent T s.b)) (.int 0)=O (.int (ent T s.b).1):=K0 (j:=0) wZ;apply KU
  case h1=>exact U9 (U9 (UO wZ) (UO wZ) Zj) (U9 (RJ wZ (UO wZ) wZ (Hw (by rw[y2];exact hs.2))) U0 i0) wZ
  case h2=>
   intro hh;have hh:(ent T s.b).1<(ent W s.a).1+s.g:=Qa hh;have hadd:U8 (.list ((ent W s.a).2.map U2)) (.list [U2 s])=O (.list (((ent W s.a).2++[s]).map U2)):=by rw[XH (by rw[Qb];have:=hW s.a;show _+1<=_;lia),Qy];rfl
   refine YI (R1 (Yi (UQ (U9 (UO wZ) (UO wZ) Zj) (UQ (U9 (UO wZ) (Zz (UQ (UO wZ) UX) (Qa wZ)) hadd) UX)) (Qa wZ)) wZ (UO wZ) wZ ⟨Int.natCast_nonneg _,by rw[Qb,y2];have:=hs.2;lia⟩ wZ) (Zf ⟨O (.pub (U2 s)),pb (.int s.a),pb (.int s.b),pb (.int s.g),pb (YO s.w),pb (.int (ent W s.a).1),pb (.list ((ent W s.a).2.map U2)),?_⟩);rw[hfl];unfold YU;rw[Qp hh,List.map_set];rw[QP];rfl
  case h3=>intro hh;have hh:¬(ent T s.b).1<(ent W s.a).1+s.g:=Jk hh;refine Ze (Zf ⟨O (.pub (U2 s)),pb (.int s.a),pb (.int s.b),pb (.int s.g),pb (YO s.w),pb (.int (ent W s.a).1),pb (.list ((ent W s.a).2.map U2)),?_⟩);rw[hfl];unfold YU;rw[Qw hh];rfl
 case hend=>rintro Z ⟨x3,x4,x5,x6,x7,x8,x9,rfl⟩;refine Zc (KB (YY rfl rfl) ?_);rw[Qb,JF];rfl
theorem Fs{n:Nat}{S:List Stp}(hS:∀s∈S,s.a<n/\s.b<n)(hn:n<=100):X2 [.int (n:Nat),.list (S.map U2)]=O (.list ((K1 n S n).map Yr)):=by
 refine KY  rfl ?_;unfold T9;have hmul:KF (.list [.tuple [.int 0,.list []]]) (.int (n:Nat))=O (.list ((K1 n S 0).map Yr)):=by rw[P4 (by lia)];unfold K1;rw[JP];rfl
 refine Kh (KM (U9 (Zz (UQ (Yi (UQ U0 (UQ (Zz UX (Qa wZ)) UX)) (Qa wZ)) UX) (Qa wZ)) (UO wZ) hmul) (Qa wZ) wZ) ?_;apply Za;apply ZR (λk Z=>k<=n/\∃x3,Z=[pb (.int (n:Nat)),O _,pb (.list ((K1 n S k).map Yr)),x3])
 case h1=>exact Wn (UQ (UO wZ) UX) (Wm (by lia) (by lia))
 case h0=>exact⟨JM _,_,rfl⟩
 case hst=>rintro k d Z hk ⟨_,x3,rfl⟩;obtain⟨rfl,hlt⟩:=Wo hk;refine⟨_,UV (Qa wZ) wZ,?_⟩;have hl:=Ru hS k;have hlo:=kn (W:=K1 n S k) (S:=S) (by rw[hl];exact hS) (λp=>QN ((OC hS k).1 p) (by lia)) (by rw[hl];lia);exact YI (KM (Kj (UQ (UO wZ) (UQ (UO wZ) UX)) wZ hlo) (Qa wZ) wZ) (Zf ⟨by lia,_,rfl⟩)
 case hend=>rintro Z ⟨_,x3,rfl⟩;refine Zc (KB (UO rfl) ?_);rw[Y0,show((n:Int)-0).toNat=n by lia]
theorem Cj  {i j:Nat}(hij:i<=j)(hj:j<=xs.length):DL.cutD xs (O (i:Int)) (O (j:Int))=(xs.take j).drop i:=by unfold DL.cutD HT.sIx;dsimp only;rw[Qw (by lia),Qw (by lia),QP,QP,Nat.min_eq_left hj,Nat.min_eq_left (show i<=xs.length by lia),List.drop_take]
theorem wT{w:List Stp}(hl:w.length<=1000):∃d,Vt [.list (w.map U2)]=O d/\∃r,d=.list (r.map U2)/\((Hy w/\r=[]) ∨ ∃i j,Nf w i j/\r=(w.take (j+1)).drop i):=by
 refine WD (Z:=[pb (.list (w.map U2)),w4,w4,w4]) wZ ?_;unfold T8;apply Za;apply ZR (λk Z=>(∃x1 x2 x3,Z=[pb (.list (w.map U2)),x1,x2,x3])/\∀j'<k,∀i' ≤ j',∀s t,w[i']?=O s->w[j']?=O t->s.a≠t.b)
 case h1=>exact XJ (UQ (UO wZ) UX) XG
 case h0=>exact⟨⟨_,_,_,rfl⟩,λj' h=>absurd h (JS _)⟩
 case hst=>
  rintro k d Z hk ⟨⟨x1,x2,x3,rfl⟩,hb⟩;obtain⟨z,hz,rfl⟩:=Xa hk;rw[Qd]at hz;cases ht:w[k]? with
  |none=>rw[ht]at hz;cases hz
  |some t=>
  rw[ht]at hz;cases hz;have yY:k<w.length:=(Qg.mp ht).1;rw[QO];refine⟨_,Kq wZ (UZ (UV (Qa wZ) wZ) (UZ (UV (Qa wZ) wZ) Kr)),?_⟩;unfold He;apply ZR (λl Z=>(∃x3,Z=[pb (.list (w.map U2)),pb (.int (k:Nat)),pb (U2 t),x3])/\∀i'<l,∀s,w[i']?=O s->s.a≠t.b)
  case h1=>exact Wn (UQ (U9 (UO wZ) U0 Zj) UX) (Wm (by lia) (by lia))
  case h0=>exact⟨⟨_,rfl⟩,λi' h=>absurd h (JS _)⟩
  case hst=>
   rintro l d Z hl2 ⟨⟨x3,rfl⟩,hc⟩;obtain⟨rfl,hlt⟩:=Wo hl2;have hlk:l<=k:=by lia
   obtain⟨s,hs⟩:∃s,w[l]?=O s:=⟨_,Qe (by lia)⟩
   refine⟨_,UV (Qa wZ) wZ,?_⟩;have zl:(0:Int)+(l:Int)=l:=by lia
   rw[zl];unfold Hf;have il:oIx (.list (w.map U2)) (.int (l:Int))=O (U2 s):=K0 (by rw[Qd,hs];rfl);have i0:oIx (U2 s) (.int 0)=O (.int s.a):=K0 (j:=0) wZ;have i1:oIx (U2 t) (.int 1)=O (.int t.b):=K0 (j:=1) wZ;apply KU
   case h1=>exact U9 (U9 (Ky wZ (UO wZ) il) U0 i0) (Ky wZ U0 i1) XI
   case h2=>
    intro hh;have hh:(s.a:Int)=(t.b:Int):=Qa hh;have yv:Yz (.list (w.map U2)) (O (l:Int)) (O ((k:Int)+1))=O (.list (((w.take (k+1)).drop l).map U2)):=by rw[V1,show((k:Int)+1)=((k+1:Nat):Int)by lia,Cj (by lia) (by rw[Qb];lia),List.map_drop,List.map_take]
    refine KB (WC (UO wZ) (Y8 (UO wZ)) (Y8 (U9 (UO wZ) U0 Zj)) yv) (Pc (Pc (V3 ⟨_,rfl,_,rfl,.inr ⟨l,k,⟨hlk,yY,λs' t' e1 e2=>?_,hb⟩,rfl⟩⟩)));rw[hs]at e1;rw[ht]at e2;cases e1;cases e2
    lia
   case h3=>
    intro hh;refine Ze (Zf ⟨⟨_,rfl⟩,λi' hi' s' e=>?_⟩);rcases JY.mp hi' with hi'|rfl
    .exact hc i' hi' s' e
    .rw[hs]at e;cases e;lia
  case hend=>
   rintro Z ⟨⟨x3,rfl⟩,hc⟩;refine Zf ⟨⟨_,_,_,rfl⟩,λj' hj' i' hi' s' t' e1 e2=>?_⟩;rcases JY.mp hj' with hj'|rfl
   .exact hb j' hj' i' hi' s' t' e1 e2
   .rw[ht]at e2
    cases e2;exact hc i' (by rw[Y0];lia) s' e1
 case hend=>rintro Z ⟨⟨x1,x2,x3,rfl⟩,hb⟩;refine Zc (KB (Zz UX (Qa rfl)) ⟨_,rfl,[],rfl,.inl ⟨λj hj=>hb j (by rw[YH,Qb];exact hj),rfl⟩⟩)
noncomputable def XE(n:Nat)(s:Stp):Option (Nat×yd):=s.w.map λi=>(i,ZD n s.b)
noncomputable def YL(p:Nat×yd):D:=.tuple [.int (p.1:Nat),Kn p.2]
noncomputable def rot(b:Nat)(r:List Stp):List Stp:=r.drop b++r.take b
theorem Rf(b)(r):(rot b r).Perm r:=by have:=List.perm_append_comm (l₁:=r.drop b) (l₂:=r.take b);rw[Ua]at this;exact this
theorem EJ{n:Nat}{r:List Stp}(hl:r.length<=1000):∃b,b<=r.length/\((∃s,r[b]?=O s/\s.a=n)∨(b=0/\∀s∈r,s.a≠n))/\Xk [.int (n:Nat),.list (r.map U2)]=O (.list (((rot b r).filterMap (XE n)).map YL)):=by
 have key:∃d,Xk [.int (n:Nat),.list (r.map U2)]=O d/\∃b,b<=r.length/\((∃s,r[b]?=O s/\s.a=n)∨(b=0/\∀s∈r,s.a≠n))/\d=.list (((rot b r).filterMap (XE n)).map YL):=by
  refine WD  rfl ?_;unfold T7;refine Kh (KM U0 (Qa wZ) wZ) ?_;apply Za;apply ZR (λk Z=>∃(b:Nat)(x3 x4:Option Sl),Z=[pb (.int (n:Nat)),pb (.list (r.map U2)),pb (.int (b:Nat)),x3,x4,w4,w4,w4,w4,w4]/\b<=r.length/\((∃s,r[b]?=O s/\s.a=n)∨(b=0/\∀s∈r.take k,s.a≠n)))
  case h1=>exact XJ (UQ (UO wZ) UX) XG
  case h0=>exact⟨0,_,_,rfl,JM _,.inr ⟨rfl,λs h=>by rw[List.take_zero]at h;cases h⟩⟩
  case hst=>
   rintro k d Z hk ⟨b,x3,x4,rfl,y0,hb⟩;obtain⟨z,hz,rfl⟩:=Xa hk;rw[Qd]at hz;cases ht:r[k]? with
   |none=>rw[ht]at hz;cases hz
   |some t=>
   rw[ht]at hz;cases hz;have yY:k<r.length:=(Qg.mp ht).1;rw[QO];refine⟨_,Kq wZ (UZ (UV (Qa wZ) wZ) (UZ (UV (Qa wZ) wZ) Kr)),?_⟩;unfold Hc;have i0:oIx (U2 t) (.int 0)=O (.int t.a):=K0 (j:=0) wZ;apply KU
   case h1=>exact U9 (Ky wZ U0 i0) (UO wZ) XI
   case h2=>intro hh;have hh:(t.a:Int)=(n:Int):=Qa hh;exact YI (KM (UO wZ) (Qa wZ) wZ) (Zf ⟨k,_,_,rfl,by lia,.inl ⟨t,ht,by lia⟩⟩)
   case h3=>
    intro hh;have hh:¬(t.a:Int)=(n:Int):=Jk hh;refine Ze (Zf ⟨b,_,_,rfl,y0,?_⟩);rcases hb with hb|⟨hb,hc⟩
    .exact .inl hb
    .refine .inr ⟨hb,λs hs=>?_⟩
     rw[J0,ht]at hs;rcases QI.mp hs with hs|hs
     .exact hc s hs
     .rw[Qu.mp hs];lia
  case hend=>
   rintro Z ⟨b,x3,x4,rfl,y0,hb⟩;refine Zc ?_;have hb':(∃s,r[b]?=O s/\s.a=n)∨(b=0/\∀s∈r,s.a≠n):=by rw[YH,Qb,JF]at hb;exact hb
   refine Kh (YJ (Tk UX (Qa wZ)) (Qa wZ) wZ) ?_;have c1:Yz (.list (r.map U2)) (O (b:Int)) w4=O (.list ((r.drop b).map U2)):=by rw[V1,qd (by rw[Qb];exact y0),List.map_drop]
   have c2:Yz (.list (r.map U2)) w4 (O (b:Int))=O (.list ((r.take b).map U2)):=by rw[V1,Co (by rw[Qb];exact y0),List.map_take]
   have c3:U8 (.list ((r.drop b).map U2)) (.list ((r.take b).map U2))=O (.list ((rot b r).map U2)):=by rw[XH (by rw[Qb,Qb,Jm,Q2];lia)];unfold rot;rw[Qy]
   apply Za;apply ZR (λk Z=>∃x6 x7 x8 x9,Z=[pb (.int (n:Nat)),pb (.list (r.map U2)),pb (.int (b:Nat)),x3,x4,O (.own ((((rot b r).take k).filterMap (XE n)).map YL)),x6,x7,x8,x9])
   case h1=>exact Zv (U9 (WC (UO wZ) (Y8 (UO wZ)) U0 c1) (WC (UO wZ) U0 (Y8 (UO wZ)) c2) c3) ZK
   case h0=>exact⟨_,_,_,_,rfl⟩
   case hst=>
    rintro k d Z hk ⟨x6,x7,x8,x9,rfl⟩;rw[Qd]at hk;cases hq:(rot b r)[k]? with
    |none=>rw[hq]at hk;cases hk
    |some s=>
    rw[hq]at hk;cases hk;have yY:k<(rot b r).length:=(Qg.mp hq).1;have yz:(rot b r).length=r.length:=(Rf b r).length_eq;have yy:(rot b r).take (k+1)=(rot b r).take k++[s]:=by rw[J0,hq];rfl
    refine⟨_,Kq wZ (UZ (UV (Qa wZ) wZ) (UZ (UV (Qa wZ) wZ) (UZ (UV (Qa wZ) wZ) (UZ (UV (Qa wZ) wZ) Kr)))),?_⟩;unfold Hd
    have hsz:((((rot b r).take k).filterMap (XE n)).map YL).length<1000000:=by
     rw[Qb];have:=Q8 (XE n) ((rot b r).take k);rw[Q2]at this
     lia
    cases hw:s.w with
    |none=>
     apply KU
     case h1=>exact KS (k:=λd=>!isNon d) (x:=YO w4) (UO wZ)
     case h2=>intro hh;cases hh
     case h3=>
      intro _;refine Ze (Zf ⟨O (.pub (.int s.a)),pb (.int s.b),pb (.int s.g),pb (YO w4),?_⟩);rw[yy,List.filterMap_append];have:[s].filterMap (XE n)=[]:=by unfold XE;rw[JB,hw];rfl
      rw[this,Jl];rfl
    |some i=>
     apply KU
     case h1=>exact KS (k:=λd=>!isNon d) (x:=YO (O i)) (UO wZ)
     case h3=>intro hh;cases hh
     case h2=>
      intro _
      have htest:∀Z:US,Z[7]?=O (O (.pub (.int (s.b:Int))))->Z[0]?=O (O (.pub (.int (n:Int))))->mIf (Zi oEq 7 (UM 0)) (UT .none) (UM 7) Z=.ok (Kn (ZD n s.b)) Z:=λZ h7 h0=>by
       unfold ZD;by_cases z:s.b=n
       .rw[Qp z]
        exact Lo (Ye h7 (UO h0) (by rw[XI,QW (by rw[z])])) U0
       .rw[Qw z]
        exact O2 (Ye h7 (UO h0) (by rw[XI,QQ (by lia)])) (UO h7)
      refine YI (WN wZ (Yi (UQ (UO wZ) (UQ (htest _ wZ wZ) UX)) (Qa wZ)) wZ hsz wZ) (Zf ⟨O (.pub (.int s.a)),pb (.int s.b),pb (.int s.g),pb (YO (O i)),?_⟩);rw[yy,List.filterMap_append];have:[s].filterMap (XE n)=[(i,ZD n s.b)]:=by unfold XE;rw[JB,hw];rfl
      rw[this,Qy];rfl
   case hend=>rintro Z ⟨x6,x7,x8,x9,rfl⟩;refine Zc (KB (YY rfl rfl) ⟨_,rfl,b,y0,hb',?_⟩);rw[Qb,JF]
 obtain⟨d,e,b,h1,h2,rfl⟩:=key;exact⟨b,h1,h2,e⟩
theorem Op(n):∀(R:List Stp)(d),(R.filterMap (XE n)).foldl (λd p=>d.set p.1 p.2) d=R.foldl (app n) d
 |[],d=>rfl
 |s::R,d=>by
  rw[Jw,JB];unfold XE app;cases s.w with
  |none=>exact Op n R d
  |some i=>exact Op n R _
theorem Fq{ws:LO}{tk:List (Nat×yd)}(h:∀p∈tk,p.1<ws.length):X3 [Kl ws,.list (tk.map YL)]=O (Kl (tk.foldl (λd p=>d.set p.1 p.2) ws)):=by
 refine KY  rfl ?_;unfold Sd;refine Kh (YJ (Od wZ (rfl)) (Qa wZ) wZ) ?_
 have hlen:∀(R:List (Nat×yd))(d:LO),(R.foldl (λd p=>d.set p.1 p.2) d).length=d.length:=λR=>by
  induction R with
  |nil=>intro d;rfl
  |cons p R ih=>intro d;rw[Jw,ih,QS]
 apply Za;apply ZR (λk Z=>∃x3 x4,Z=[pb (Kl ws),O _,O (.own (((tk.take k).foldl (λd p=>d.set p.1 p.2) ws).map Kn)),x3,x4])
 case h1=>exact Zv (UO wZ) ZK
 case h0=>exact⟨_,_,rfl⟩
 case hst=>
  rintro k d Z hk ⟨x3,x4,rfl⟩;rw[Qd]at hk;cases hq:tk[k]? with
  |none=>rw[hq]at hk;cases hk
  |some p=>
  rw[hq]at hk;cases hk;have hpl:=h p (Qs hq);have yy:tk.take (k+1)=tk.take k++[p]:=by rw[J0,hq];rfl
  refine⟨_,Kq wZ (UZ (UV (Qa wZ) wZ) (UZ (UV (Qa wZ) wZ) Kr)),?_⟩;unfold Ha;refine YI (R1 (UO wZ) wZ (UO wZ) wZ ⟨Int.natCast_nonneg _,by rw[Qb,hlen];lia⟩ wZ) (Zf ⟨O (.pub (.int (p.1:Nat))),pb (Kn p.2),?_⟩);rw[yy,List.foldl_append];show [_,_,O _,_,_]=[_,_,O (Sl.own ((((tk.take k).foldl (λd p=>d.set p.1 p.2) ws).set p.1 p.2).map Kn)),_,_];rw[QP,List.map_set]
 case hend=>rintro Z ⟨x3,x4,rfl⟩;refine Zc (KB (YY rfl rfl) ?_);rw[Qb,JF];rfl
def VT(cs:w8)(f:Int×Int->Int)(qs:LP)(ws:LO):Prop:=∀p,p<cs.length+1->(ent (K1 (cs.length+1) (ZS cs f qs ws) (cs.length+1)) p).2.length≠cs.length+1
structure Ps(cs:w8)(f:Int×Int->Int)(qs:LP)(ws:LO)(r:List Stp)(b:Nat):Prop where
 rnd:∃x,Path (ZS cs f qs ws) x r x
 nd:(r.map Stp.a).Nodup
 pos:0<Ku r
 bl:b<=r.length
 bat:(∃s,r[b]?=O s/\s.a=cs.length)∨(b=0/\∀s∈r,s.a≠cs.length)
noncomputable def Ym(n b:Nat)(r:List Stp):List (Nat×yd):=(rot b r).filterMap (XE n)
theorem Tq(s)(R):Ku (s::R)=s.g+Ku R:=by show Ku ([s]++R)=_;rw[WV,Rp]
theorem Fp  (h:u.Perm v):Ku u=Ku v:=by
 induction h with
 |nil=>rfl
 |cons x _ ih=>rw[Tq,Tq,ih]
 |swap x y l=>rw[Tq,Tq,Tq,Tq];lia
 |trans _ _ ih1 zP=>simp_all
theorem jo  (h:∀s∈R,s.g=0):Ku R=0:=by
 induction R with
 |nil=>rfl
 |cons s R ih=>
  have e:Ku (s::R)=s.g+Ku R:=by show Ku ([s]++R)=_;rw[WV,Rp]
  rw[e,h s Qj,ih λx hx=>h x (Qi _ hx)];rfl
section
variable{cs:w8}{ls:List (List w8)}{ws:LO}{V:Int->Int->Int}{qs:LP}{f:Int×Int->Int}{m:Nat}
theorem Ps.does(hp:K2 cs.length m qs)(hd:K7 cs qs m ws){r}{b:Nat}(h:Ps cs f qs ws r b):K7 cs qs m ((Ym cs.length b r).foldl (λd p=>d.set p.1 p.2) ws)/\Ka f 0 ((Ym cs.length b r).foldl (λd p=>d.set p.1 p.2) ws)=Ka f 0 ws+Ku r/\Ym cs.length b r≠[]/\∀p∈Ym cs.length b r,p.1<ws.length:=by
 obtain⟨x,hx⟩:=h.rnd;have hin   :=λs hs=>Xs hp hd s (hx.mem s hs);have pr:=Rf b r;have ac   :=λs hs=>hin s (pr.mem_iff.mp hs);have ndR   :=(pr.map Stp.a).nodup_iff.mpr h.nd;have pbR   :=((pr.map Stp.b).trans (Mt hx)).trans (pr.map Stp.a).symm
 obtain⟨h1,h2⟩:=Gw hp hd ac ndR pbR;unfold Ym;rw[Op];refine⟨h1,by rw[h2,Fp pr],λz=>?_,λp hpm=>?_⟩
 .have   :=jo λs hs=>by
   have hw   :=by have:=List.filterMap_eq_nil_iff.mp z s (pr.mem_iff.mpr hs);exact this
   cases hin s hs with
   |mv _ _ _=>cases hw
   |left _ _=>rfl
   |give _=>rfl
  have:=h.pos
  lia
 .obtain⟨s,hs,e⟩:=Jq.mp hpm
  cases ac s hs with
  |@mv i o o' hw _ _=>cases e;exact(Qg.mp hw).1
  |left _ _=>cases e
  |give _=>cases e
theorem EE(g:Good cs ls)(hm:ws.length=ls.length)(hp:K2 cs.length ws.length qs)(hd:K7 cs qs ws.length ws)(hq1:qs.length<=500):∃d,Wu [Kp cs ls,.list (qs.map (Zt V)),Kl ws]=O d/\((d=.list []/\VT cs (UW V) qs ws) ∨ ∃r b,d=.list ((Ym cs.length b r).map YL)/\Ps cs (UW V) qs ws r b):=by
 refine WD  rfl ?_;unfold T6;have c6:=g.c6;have l7:=g.l7;have yF:Kk [.list (cs.map int)]=O (.int cs.length):=by rw[Zy,Qb]
 have hS:∀s∈ZS cs (UW V) qs ws,s.a<cs.length+1/\s.b<cs.length+1:=λs hs=>(Xs hp hd s hs).lt hp hd;have hwd:=Fs hS (by lia)
 have zk:=MJ (V:=V) g hm hp hd (by lia);refine Kh (KM (Yg (UQ (Ky wZ U0 Tc) UX) yF) (Qa wZ) wZ) ?_;have hadd:U8 (.int (cs.length:Int)) (.int 1)=O (.int ((cs.length+1:Nat):Int)):=by rw[Zj];rfl
 apply Za;apply ZR (λk Z=>(∃x4 x5,Z=[pb (Kp cs ls),pb (.list (qs.map (Zt V))),pb (Kl ws),pb (.int cs.length),x4,x5])/\∀p<k,(ent (K1 (cs.length+1) (ZS cs (UW V) qs ws) (cs.length+1)) p).2.length≠cs.length+1)
 case h1=>exact Zv (Kj (UQ (U9 (UO wZ) U0 hadd) (UQ (Kj (UQ (UO wZ) (UQ (UO wZ) (UQ (UO wZ) UX))) wZ zk) UX)) wZ hwd) ZK
 case h0=>exact⟨⟨_,_,rfl⟩,λp h=>absurd h (JS _)⟩
 case hst=>
  rintro k d Z hk ⟨⟨x4,x5,rfl⟩,hb⟩;rw[Qd]at hk;cases hq:(K1 (cs.length+1) (ZS cs (UW V) qs ws) (cs.length+1))[k]? with
  |none=>rw[hq]at hk;cases hk
  |some e=>
  rw[hq]at hk;cases hk;have he:ent (K1 (cs.length+1) (ZS cs (UW V) qs ws) (cs.length+1)) k=e:=by unfold ent;rw[Qh,hq];rfl
  refine⟨_,Kq wZ (UZ (UV (Qa wZ) wZ) (UZ (UV (Qa wZ) wZ) Kr)),?_⟩;unfold Hb;have zX:Kk [.list (e.2.map U2)]=O (.int e.2.length):=by rw[Zy,Qb]
  apply KU
  case h1=>exact U9 (ZP wZ zX) (U9 (UO wZ) U0 hadd) XI
  case h2=>
   intro hh;have hh:((e.2.length:Nat):Int)=((cs.length+1:Nat):Int):=Qa hh;have hlen:e.2.length=cs.length+1:=by lia
   obtain⟨d,hrw,r,rfl,hr⟩:=wT (w:=e.2) (by lia);have zR:=Pf hS (cs.length+1) k;rw[he]at zR;obtain⟨q,yW⟩:=zR.1.path;rcases hr with ⟨hno,rfl⟩|⟨i,j,hra,rfl⟩
   .exact absurd hno (Gy hS yW (by lia) (JK _))
   .have hlr:((e.2.take (j+1)).drop i).length<=1000:=by rw[Jm,Q2];lia
    obtain⟨b,y0,ak,zj⟩:=EJ (n:=cs.length) hlr;have hrg:=xI hS (JK _) (p:=k) (by rw[he];exact hlen) (by rw[he];exact hra);rw[he]at hrg;obtain⟨x,hx,hgp⟩:=hrg;exact KB (Kj (UQ (UO wZ) (UQ (Kj (UQ (UO wZ) UX) wZ hrw) UX)) wZ zj) (Pc (V3 ⟨_,rfl,.inr ⟨_,b,rfl,⟨⟨x,hx⟩,vT yW hra,hgp,y0,ak⟩⟩⟩))
  case h3=>
   intro hh;refine Ze (Zf ⟨⟨_,_,rfl⟩,λp zV=>?_⟩);rcases JY.mp zV with zV|rfl
   .exact hb p zV
   .rw[he];lia
 case hend=>rintro Z ⟨⟨x4,x5,rfl⟩,hb⟩;refine Zc (KB (Zz UX (Qa rfl)) ⟨_,rfl,.inl ⟨rfl,λp hpn=>hb p ?_⟩⟩);rw[Qb,Ru hS];exact hpn
theorem LW{M:Int}(yR:0<=M)(hM:∀q∈qs,f q<=M):∀(ws)(k:Nat),(∀(i:Nat) t,ws[i]?=O (O t)->(((k+i:Nat):Int),t)∈qs)->Ka f k ws<=ws.length*M
 |[],k,_=>by show(0)<=((0:Nat))*M;rw[show(((0:Nat)):Int)=0 from rfl,Int.zero_mul];exact Ja _
 |o::ws,k,h=>by
  have ih:=LW yR hM ws (k+1) λi t e=>by have:=h (i+1) t (by simpa using e);rw[show k+1+i=k+(i+1)by lia];exact this
  have h0:Kg f k o<=M:=by
   cases o with
   |none=>exact yR
   |some t=>exact hM _ (by have:=h 0 t wZ;exact this)
  rw[Qz];show Kg f k o+Ka f (k+1) ws<=_
  lia
theorem Fo(g:Good cs ls)(hm:m=ls.length)(hp:K2 cs.length m qs)(hq1:qs.length<=500){M:Int}(yR:0<=M)(hM:∀q∈qs,UW V q<=M):∀(N:Nat)(ws:LO)(d:D),K7 cs qs m ws->((d=.list []/\VT cs (UW V) qs ws) ∨ ∃r b,d=.list ((Ym cs.length b r).map YL)/\Ps cs (UW V) qs ws r b) ->
  (m*M-Ka (UW V) 0 ws<N)->∃yM,K7 cs qs m yM/\VT cs (UW V) qs yM/\Xz (PU (UM 3)) PQ N [pb (Kp cs ls),pb (.list (qs.map (Zt V))),pb (Kl ws),pb d]=.nx [pb (Kp cs ls),pb (.list (qs.map (Zt V))),pb (Kl yM),pb (.list [])]
 |0,ws,d,hd,_,hN=>by have:=LW yR hM ws 0 (λi t e=>by rw[QO];exact hd.wish i t e);rw[hd.len]at this;exact absurd hN (by lia)
 |N+1,ws,d,hd,hg,hN=>by
  rcases hg with ⟨rfl,hst⟩|⟨r,b,rfl,hgr⟩
  .refine⟨ws,hd,hst,?_⟩
   unfold Xz;rfl
  .obtain⟨h1,h2,h3,h4⟩:=hgr.does hp hd
   generalize hws':(Ym cs.length b r).foldl (λd p=>d.set p.1 p.2) ws=yM at h1 h2;have yw:=Fq h4;rw[hws']at yw;obtain⟨d',hgw,hg'⟩:=EE (V:=V) (ws:=yM) g (by rw[h1.len,hm]) (by rw[h1.len];exact hp) (by rw[h1.len];exact h1) hq1;obtain⟨za,k1,k2,k3⟩:=Fo g hm hp hq1 yR hM N yM d' h1 hg' (by have:=hgr.pos;lia);refine⟨za,k1,k2,?_⟩;unfold Xz;rw[xp  (UO wZ)]
   have hne:(!((Ym cs.length b r).map YL).isEmpty)=w5:=by
    cases hw:Ym cs.length b r with
    |nil=>exact absurd hw h3
    |cons _ _=>rfl
   dsimp only;rw[Qp hne];have hb:Ho PQ [pb (Kp cs ls),pb (.list (qs.map (Zt V))),pb (Kl ws),pb (.list ((Ym cs.length b r).map YL))] (λo=>o=.nx [pb (Kp cs ls),pb (.list (qs.map (Zt V))),pb (Kl yM),pb d']):=by unfold PQ;refine Kh (KM (Kj (UQ (UO wZ) (UQ (UO wZ) UX)) wZ yw) (Qa wZ) wZ) ?_;exact YI (KM (Kj (UQ (UO wZ) (UQ (UO wZ) (UQ (UO wZ) UX))) wZ hgw) (Qa wZ) wZ) wZ
   rw[hb.out];exact k3
theorem ED(g:Good cs ls)(hp:K2 cs.length ls.length qs)(hq1:qs.length<=500){M:Int}(yR:0<=M)(hM:∀q∈qs,UW V q<=M)(hF:ls.length*M<10 ^ 60):∃d,X1 [Kp cs ls,.list (qs.map (Zt V))]=O d/\∃ws,d=Kl ws/\K7 cs qs ls.length ws/\VT cs (UW V) qs ws:=by
 refine WD  rfl ?_;unfold T5;have l7:=g.l7;have yp:Kk [.list (ls.map KR)]=O (.int (ls.length:Nat)):=by rw[Zy,Qb]
 let ws0:LO:=Uy ls.length w4
 have hmul:KF (.list [.none]) (.int (ls.length:Nat))=O (Kl ws0):=by rw[P4 (by lia)];show _=O (Uz _);rw[JP];rfl
 have hd0:K7 cs qs ls.length ws0:=⟨by show(Uy _ _).length=_;rw[QF],(λi t h=>by
  rw[QB]at h;split at h
  .cases h
  .cases h),λk c e=>by
  have h0:ws0.count (O (k:Int))=0:=List.count_eq_zero.mpr λh=>by cases (List.mem_replicate.mp h).2
  rw[h0];have:=g.c7 c (Qs e)
  show(0:Int)<=c
  lia⟩
 refine Kh (KM (U9 (Zz (UQ U0 UX) (Qa wZ)) (Yg (UQ (Ky wZ U0 Wi) UX) yp) hmul) (Qa wZ) wZ) ?_;obtain⟨d',hgw,hg'⟩:=EE (V:=V) (ws:=ws0) g hd0.len (by rw[hd0.len];exact hp) (by rw[hd0.len];exact hd0) hq1;refine Kh (KM (Kj (UQ (UO wZ) (UQ (UO wZ) (UQ (UO wZ) UX))) wZ hgw) (Qa wZ) wZ) ?_
 have h0:∀(n k:Nat),Ka (UW V) k (Uy n w4)=0:=λn=>by
  induction n with
  |zero=>intro k;rfl
  |succ n ih=>intro k;rw[Uf];show 0+Ka (UW V) (k+1) (Uy n w4)=0;rw[ih];rfl
 have hfu:ls.length*M-Ka (UW V) 0 ws0<(Wz:Nat):=by
  have e:Ka (UW V) 0 ws0=0:=h0 _ _;have e2:((Wz:Nat):Int)=10 ^ 60:=by unfold Wz;rfl
  rw[e,e2]
  lia
 obtain⟨yM,k1,k2,k3⟩:=Fo g wZ hp hq1 yR hM Wz ws0 d' hd0 hg' hfu;refine Kh k3 ?_;exact KB (UO wZ) ⟨_,rfl,yM,rfl,k1,k2⟩
end
section
variable{cs:w8}{ls:List (List w8)}{as ps:w8}
theorem LV(g:Good cs ls):(U3 0 ls).length<=42:=by rw[(Ro ls 0).length_eq];exact RW g
end
theorem Gv  {ps:w8}:∀(ws)(as:w8)(k:Nat),as.length=ws.length->(∀a∈as,0<=a)->(∀(i:Nat) t,ws[i]?=O (O t)->f (((k+i:Nat):Int),t)<=as.getD i 0+ps.getD t.toNat 0)->Ka f k ws<=as.sum+pz ps ws
 |[],[],k,_,_,_=>by show(0:Int)<=0+0;lia
 |o::ws,a::as,k,hl,ha,h=>by
  have ih:=Gv (f:=f) (ps:=ps) ws as (k+1) (by simpa using hl) (λx hx=>ha x (List.mem_cons_of_mem _ hx)) λi t e=>by have:=h (i+1) t (by simpa using e);rw[show k+1+i=k+(i+1)by lia];simpa using this
  have h0:=ha a Qj;cases o with
  |none=>
   show 0+Ka f (k+1) ws<=a+as.sum+(0+pz ps ws)
   lia
  |some t=>
   have h1:=h 0 t wZ;have h1:f ((k:Int),t)<=a+ps.getD t.toNat 0:=by simpa using h1
   show f ((k:Int),t)+Ka f (k+1) ws<=a+as.sum+(ps.getD t.toNat 0+pz ps ws)
   lia
 |[],_::_,_,hl,_,_=>by cases hl
 |_::_,[],_,hl,_,_=>by cases hl
section
variable{cs:w8}{ls:List (List w8)}{ws:LO}{qs:LP}{f:Int×Int->Int}{m:Nat}{as ps:w8}
theorem jn(hp:K2 cs.length m qs)(hd:K7 cs qs m ws)(ok:OkP cs.length m (λa b=>f (a,b)) qs 1 as ps):Ka f 0 ws<=Wl cs as ps:=by
 have h1:=Gv (f:=f) (ps:=ps) ws as 0 (by rw[ok.la,hd.len]) ok.aa λi t e=>by have:=ok.le _ (hd.wish i t e);rw[QO];rw[Int.one_mul]at this;exact this
 have yU:∀t,O t∈ws->0<=t/\t<cs.length:=λt ht=>by obtain⟨i,hi⟩:=List.mem_iff_getElem?.mp ht;have:=hp.lo _ (hd.wish i t hi);exact⟨this.2.2.1,this.2.2.2⟩
 rw[Oq ws yU]at h1;unfold Wl;rw[Mv _ _ ok.lp]
 have h2   :=Rb _ λk hk=>by
  have hc:cs[k]?=O (cs.getD k 0):=by rw[Qh,Qe hk];rfl
  have hk2:0<=ps.getD k 0:=by rw[Qh,Qe (by rw[ok.lp];exact hk)];exact ok.pp _ (JE _)
  exact Ji (hd.cop k _ hc) hk2
 lia
theorem EC(hp:K2 cs.length m qs)(hd:K7 cs qs m ws)(st:VT cs f qs ws){us}(hu:K7 cs qs m us):Ka f 0 us<=Ka f 0 ws:=by obtain⟨ok,e⟩:=qR hp hd (Xs hp hd) (Tr hp hd)  (λ_=>rfl) st;have:=jn hp hu ok;simp_all
end
section
variable{cs:w8}{ls:List (List w8)}{ws:LO}{qs:LP}{V:Int->Int->Int}
noncomputable def prW(cs:w8)(f:Int×Int->Int)(qs:LP)(ws:LO)(p:Nat):Int:=(ent (K1 (cs.length+1) (ZS cs f qs ws) (cs.length+1)) p).1
theorem Fn(g:Good cs ls)(hp:K2 cs.length ls.length qs)(hd:K7 cs qs ls.length ws)(hq1:qs.length<=500):X0 [Kp cs ls,.list (qs.map (Zt V)),Kl ws]=O (.list (((Ux cs.length).map (prW cs (UW V) qs ws)).map int)):=by
 refine KY  rfl ?_;unfold T4;have c6:=g.c6;have hS:∀s∈ZS cs (UW V) qs ws,s.a<cs.length+1/\s.b<cs.length+1:=λs hs=>(Xs hp hd s hs).lt hp hd;have yF:Kk [.list (cs.map int)]=O (.int cs.length):=by rw[Zy,Qb]
 have has:YD [Kp cs ls,.list (qs.map (Zt V)),Kl ws]=O (.list ((ZS cs (UW V) qs ws).map U2)):=MJ g hd.len (by rw[hd.len];exact hp) (by rw[hd.len];exact hd) (by lia);have hwd:=Fs hS (by lia);generalize hT:K1 (cs.length+1) (ZS cs (UW V) qs ws) (cs.length+1)=T at hwd;have y8:T.length=cs.length+1:=by rw[←hT];exact Ru hS _
 refine Kh (KM (Yg (UQ (Ky wZ U0 Tc) UX) yF) (Qa wZ) wZ) ?_;refine Kh (KM (Kj (UQ (U9 (UO wZ) U0 Zj) (UQ (Kj (UQ (UO wZ) (UQ (UO wZ) (UQ (UO wZ) UX))) wZ has) UX)) wZ hwd) (Qa wZ) wZ) ?_
 have hcd:DL.cutD (T.map Yr) w4 (O (cs.length:Int))=(T.take cs.length).map Yr:=by
  have h2:HT.sIx (T.map Yr).length (T.map Yr).length (O (cs.length:Int))=cs.length:=by
   rw[Qb,y8];unfold HT.sIx;simp
   lia
  unfold DL.cutD;rw[h2,show HT.sIx (T.map Yr).length 0 w4=0 from rfl,List.drop_zero,Nat.sub_zero,List.map_take]
 have yv:Yz (.list (T.map Yr)) w4 (O (cs.length:Int))=O (.list ((T.take cs.length).map Yr)):=by rw[V1,hcd]
 have hc:Zb (gT 2 (gNC (gN 5) (gNC (gN 6) (gN0)))) (UT w5) (UM 5) ((T.take cs.length).map Yr) (KD [pb (Kp cs ls),pb (.list (qs.map (Zt V))),pb (Kl ws),pb (.int cs.length),pb (.list (T.map Yr))]++Uy 2 w4) []=O ([]++((Ux cs.length).map (prW cs (UW V) qs ws)).map int):=by
  refine Xd (λZ=>∃x y,Z=[pb (Kp cs ls),pb (.list (qs.map (Zt V))),pb (Kl ws),pb (.int cs.length),pb (.list (T.map Yr)),x,y]) _ _ _ _ ?_ ?_ ⟨w4,w4,rfl⟩ ?_
  .rw[Qb,Qb,Qb,Q2,Qo];lia
  .rintro i d e hd' he Z ⟨x,y,rfl⟩
   rw[Qd,Qd]at he
   have yo:i<cs.length:=by
    have:=(Qg.mp hd').1;rw[Qb,Q2]at this
    lia
   rw[QM yo]at he;cases he;rw[Qd,List.getElem?_take_of_lt yo,Qe (by lia)]at hd';cases hd';have hv:prW cs (UW V) qs ws i=T[i].1:=by unfold prW ent;rw[hT,Qh,Qe (by lia)];rfl
   rw[hv];exact⟨_,Kq wZ (UZ (UV (Qa wZ) wZ) (UZ (UV (Qa wZ) wZ) Kr)),rfl,UO wZ,_,_,rfl⟩
  .rw[Qx,Qb,Q2];lia
 exact KB (KS (ZC (Zv (WC (UO wZ) U0 (Y8 (UO wZ)) yv) ZK) hc)) wZ
theorem LU{n m:Nat}(hp:K2 n m qs)(hm:m<=1000)(P:Nat->Int):XZ [.int (m:Nat),.list (qs.map (Zt V)),.list (((Ux n).map P).map int)]=O (.list (((Ux m).map λi:Nat=>ZJ (UW V) P qs (i:Int)).map int)):=by
 refine KY  rfl ?_;unfold TZ;refine Kh (YJ (HC (n:=m) (Zz (UQ U0 UX) (Qa wZ)) (UO wZ) hm) (Qa wZ) wZ) ?_;apply Za;apply ZR (λk Z=>∃x4 x5 x6,Z=[pb (.int (m:Nat)),pb (.list (qs.map (Zt V))),pb (.list (((Ux n).map P).map int)),O (.own (((Ux m).map λi:Nat=>ZJ (UW V) P (qs.take k) (i:Int)).map int)),x4,x5,x6])
 case h1=>exact Zv (UO wZ) ZK
 case h0=>
  refine⟨w4,w4,w4,?_⟩
  have e:(Uy m (int 0))=((Ux m).map λi:Nat=>ZJ (UW V) P (qs.take 0) (i:Int)).map int:=by
   rw[Jb];apply List.ext_getElem
   .rw[QF,Qb,Qo]
   .intro i h1 h2
    rw[List.getElem_replicate,J4];rfl
  rw[←e];rfl
 case hst=>
  rintro k d Z hk ⟨x4,x5,x6,rfl⟩;rw[Qd]at hk;cases hq:qs[k]? with
  |none=>rw[hq]at hk;cases hk
  |some q=>
  rw[hq]at hk;cases hk;have hb:=hp.lo q (Qs hq);obtain⟨⟨a,ha⟩,⟨t,ht⟩⟩:(∃a:Nat,q.1=a)/\∃t:Nat,q.2=t:=⟨⟨q.1.toNat,by lia⟩,⟨q.2.toNat,by lia⟩⟩
  have ham:a<m:=by lia
  have htn:t<n:=by lia
  refine⟨_,Kq wZ (UZ (UV (Qa wZ) wZ) (UZ (UV (Qa wZ) wZ) (UZ (UV (Qa wZ) wZ) Kr))),?_⟩;unfold Hk;have h1:oIx (.list (((Ux m).map λi:Nat=>ZJ (UW V) P (qs.take k) (i:Int)).map int)) (.int q.1)=O (.int (ZJ (UW V) P (qs.take k) (a:Int))):=by rw[ha];exact K0 (by rw[Qd,Qd,QM ham];rfl)
  have h2:oIx (.list (((Ux n).map P).map int)) (.int q.2)=O (.int (P t)):=by rw[ht];exact K0 (by rw[Qd,Qd,QM htn];rfl)
  refine YI (R1 (Yg (UQ (RJ wZ (UO wZ) wZ h1) (UQ (U9 (UO wZ) (Ky wZ (UO wZ) h2) Xc) UX)) HG) wZ (UO wZ) wZ ⟨hb.1,by rw[Qb,Qb,Qo];exact hb.2.1⟩ wZ) (Zf ⟨O (.pub (.int q.1)),pb (.int q.2),pb (.int (V q.1 q.2)),?_⟩);have e:∀i:Nat,ZJ (UW V) P (qs.take (k+1)) (i:Int)=if q.1=(i:Int)then max (ZJ (UW V) P (qs.take k) (i:Int)) (UW V q-P q.2.toNat)else ZJ (UW V) P (qs.take k) (i:Int):=λi=>by unfold ZJ;rw[List.take_add_one,hq,List.foldl_append];rfl
  have e2:((((Ux m).map λi:Nat=>ZJ (UW V) P (qs.take k) (i:Int)).map int).set q.1.toNat (.int (if V q.1 q.2-P t > ZJ (UW V) P (qs.take k) (a:Int)then V q.1 q.2-P t else ZJ (UW V) P (qs.take k) (a:Int))))=((Ux m).map λi:Nat=>ZJ (UW V) P (qs.take (k+1)) (i:Int)).map int:=by
   apply List.ext_getElem
   .rw[QS,Qb,Qb,Qb,Qb]
   .intro i h1 h2
    rw[List.getElem_set,J4,J4,J4,J4,List.getElem_range,e];by_cases hia:a=i
    .subst hia
     rw[Qp (by lia),Qp ha,show q.2.toNat=t by lia]
     congr 1
     show _=max _ (V q.1 q.2-P t)
     split<;>lia
    .rw[Qw (by lia),Qw (by lia)]
  rw[←e2];rfl
 case hend=>rintro Z ⟨x4,x5,x6,rfl⟩;refine Zc (KB (YY rfl rfl) ?_);rw[Qb,JF]
noncomputable abbrev W9(m:Nat)(f:Int×Int->Int)(P:Nat->Int)(qs:LP):w8:=(Ux m).map λi:Nat=>ZJ f P qs (i:Int)
theorem v7(g:Good cs ls)(hp:K2 cs.length ls.length qs)(hd:K7 cs qs ls.length ws)(hq1:qs.length<=500):Vs [Kp cs ls,.list (qs.map (Zt V)),Kl ws]=O (Y1 1 (W9 ls.length (UW V) (prW cs (UW V) qs ws) qs) ((Ux cs.length).map (prW cs (UW V) qs ws))):=by
 refine KY (Z:=[pb (Kp cs ls),pb (.list (qs.map (Zt V))),pb (Kl ws),w4]) wZ ?_;unfold TY;have l7:=g.l7;have yp:Kk [.list (ls.map KR)]=O (.int ls.length):=by rw[Zy,Qb]
 refine Kh (KM (Kj (UQ (UO wZ) (UQ (UO wZ) (UQ (UO wZ) UX))) wZ (Fn g hp hd hq1)) (Qa wZ) wZ) ?_;exact KB (Yi (UQ U0 (UQ (Kj (UQ (Yg (UQ (Ky wZ U0 Wi) UX) yp) (UQ (UO wZ) (UQ (UO wZ) UX))) wZ (LU hp (by omega) _)) (UQ (UO wZ) UX))) (Qa wZ)) wZ
theorem WU(g:Good cs ls):K2 cs.length ls.length (U3 0 ls) where
 nd:=EF ls 0 λrs hr=>(g.rk rs hr).once
 lo:=λq hq=>by have:=Bf g q hq;simp_all
theorem wS{o:Ord}{old:yh}{ts:w8}(g:Good cs ls)(ga:ZU cs.length ls.length old ts):∃ws,XX [Kp cs ls,KZ o old ts]=O (.tuple [Kl ws,Y1 1 (W9 ls.length (UW (Kd ls o old ts)) (prW cs (UW (Kd ls o old ts)) (U3 0 ls) ws) (U3 0 ls)) ((Ux cs.length).map (prW cs (UW (Kd ls o old ts)) (U3 0 ls) ws))])/\K7 cs (U3 0 ls) ls.length ws/\VT cs (UW (Kd ls o old ts)) (U3 0 ls) ws:=by have hq:=LV g;have l7:=g.l7;obtain⟨d,hb,ws,rfl,hd,hst⟩:=ED (V:=Kd ls o old ts) g (WU g) (by omega) (M:=18446744073709551616) (by decide) (λq hq=>Int.le_of_lt (GB g ga hq).2) (by omega);refine⟨ws,?_,hd,hst⟩;refine KY (Z:=[pb (Kp cs ls),pb (KZ o old ts),w4,w4]) wZ ?_;unfold TH;refine Kh (KM (Kj (UQ (UO wZ) (UQ (UO wZ) UX)) wZ (MM g ga)) (Qa wZ) wZ) ?_;refine Kh (KM (Kj (UQ (UO wZ) (UQ (UO wZ) UX)) wZ hb) (Qa wZ) wZ) ?_;exact KB (Yi (UQ (UO wZ) (UQ (Kj (UQ (UO wZ) (UQ (UO wZ) (UQ (UO wZ) UX))) wZ (v7 g (WU g) hd (by omega))) UX)) (Qa wZ)) wZ
end
section
variable{cs:w8}{ls:List (List w8)}{ws:LO}{o:Ord}{old:yh}{ts:w8}
theorem Mi(h:K7 cs (U3 0 ls) ls.length ws):Deal cs ls ws where
 len:=h.len
 wish:=λi t rs hw hrs=>by
  obtain⟨i',rs',h1,h2,h3⟩:=W0 (h.wish i t hw);have hii:i=i':=by lia
  subst hii;rw[hrs]at h1;cases h1;exact h3
 cop:=h.cop
theorem Tj(ls):∀(ws)(l2)(k:Nat),(∀(j:Nat) rs,l2[j]?=O rs->ls.getD (k+j) []=rs)->ws.length=l2.length->Ka (UW (Kd ls o old ts)) k ws=KQ (KJ (K8 ls o old ts) k l2 ws)
 |[],[],_,_,_=>rfl
 |[],_::_,_,_,h=>by cases h
 |_::_,[],_,_,h=>by cases h
 |x::ws,rs::l2,k,hj,hl=>by
  have ih:=Tj ls ws l2 _ (λj r h=>by rw[show k+1+j=k+(j+1)by lia];exact hj _ r h) (by simpa using hl);show Kg _ k x+Ka _ _ ws=KQ (x.map _::KJ _ _ l2 ws);rw[Ts,ih]
  congr 1
  cases x with
  |none=>rfl
  |some t=>show Kd ls o old ts (k) t=K8 ls o old ts k rs t;unfold Kd;rw[QP,show ls.getD k []=rs from hj 0 rs wZ]
end
section
variable{cs:w8}{ls:List (List w8)}{o:Ord}{old:yh}{ts:w8}{ws:LO}
theorem N4(du:Deal cs ls ws):K7 cs (U3 0 ls) ls.length ws:=⟨du.len,λi t h=>by
 have yo:i<ls.length:=by have:=(Qg.mp h).1;have:=du.len;lia
 have hrs   :=Qe yo;have:=Fd (k:=0) hrs (du.wish i t _ h hrs);simp_all,du.cop⟩
end
theorem LS  : ∀(n),(∀k,k<n->f k<=h k)->(Zh n f=Zh n h ↔ ∀k,k<n->f k=h k)
 |0,_=>⟨λ_ k hk=>absurd hk (JS _),λ_=>rfl⟩
 |n+1,h0=>by
  have ih:=LS n λk hk=>h0 k (by lia)
  have l:=Rb n λk hk=>h0 k (JW hk);have ln:=h0 n (JN _);rw[WY,WY]
  refine⟨λe k hk=>?_,λe=>?_⟩
  .by_cases z:k=n
   .lia
   .exact ih.mp (by lia) k (by lia)
  .rw[ih.mpr λk hk=>e k (by lia),e n (JN _)]
theorem Gu{f:Int×Int->Int}{ps:w8}{tm:Int}:∀(ws:LO)(as:w8)(k:Nat),as.length=ws.length->(∀a∈as,0<=a)->(∀(i:Nat) t,ws[i]?=O (O t)->tm*f (((k+i:Nat):Int),t)<=as.getD i 0+ps.getD t.toNat 0) ->
  tm*Ka f k ws<=as.sum+pz ps ws/\(tm*Ka f k ws=as.sum+pz ps ws ↔ (∀(i:Nat) t,ws[i]?=O (O t)->tm*f (((k+i:Nat):Int),t)=as.getD i 0+ps.getD t.toNat 0)/\∀i:Nat,ws[i]?=O w4->as.getD i 0=0)
 |[],[],k,_,_,_=>⟨by show tm*0<=0+0;lia,λ_=>⟨λi t h=>by simp at h,λi h=>by simp at h⟩,λ_=>by show tm*0=0+0;lia⟩
 |[],_::_,_,h,_,_=>by cases h
 |_::_,[],_,h,_,_=>by cases h
 |o::ws,a::as,k,hl,ha,h=>by
  obtain⟨ih1,zP⟩:=Gu (f:=f) (ps:=ps) (tm:=tm) ws as (k+1) (by simpa using hl) (λx hx=>ha x (List.mem_cons_of_mem _ hx)) λi t e=>by have:=h (i+1) t (by simpa using e);rw[show k+(i+1)=k+1+i by lia]at this;simpa using this
  have e2:(a::as).sum=a+as.sum:=by simp
  have ga:∀i:Nat,(a::as).getD (i+1) 0=as.getD i 0:=λi=>by simp
  have a0:=ha a Qj;rw[e2];cases o with
  |none=>
   have e1:Ka f k (none::ws)=0+Ka f (k+1) ws:=rfl;have e3:pz ps (none::ws)=0+pz ps ws:=rfl;rw[e1,e3,JG,JG];refine⟨by lia,λe=>?_,λ⟨e4,e5⟩=>?_⟩
   .obtain⟨c1,c2⟩:=zP.mp (by lia)
    refine⟨λi t hi=>?_,λi hi=>?_⟩
    .cases i with
     |zero=>cases hi
     |succ i=>have:=c1 i t (by simpa using hi);rw[show k+(i+1)=k+1+i by lia,ga];exact this
    .cases i with
     |zero=>show a=0;lia
     |succ i=>rw[ga];exact c2 i (by simpa using hi)
   .have h0:a=0:=e5 0 wZ
    have:=zP.mpr ⟨λi t hi=>by have:=e4 (i+1) t (by simpa using hi);rw[show k+(i+1)=k+1+i by lia,ga]at this;exact this,λi hi=>by have:=e5 (i+1) (by simpa using hi);rwa[ga]at this⟩
    lia
  |some t=>
   have e1:Ka f k (O t::ws)=f ((k:Int),t)+Ka f (k+1) ws:=rfl;have e3:pz ps (O t::ws)=ps.getD t.toNat 0+pz ps ws:=rfl;have h0:=h 0 t wZ;have h0:tm*f ((k:Int),t)<=a+ps.getD t.toNat 0:=h0;rw[e1,e3,Int.mul_add];refine⟨by lia,λe=>?_,λ⟨e4,e5⟩=>?_⟩
   .obtain⟨c1,c2⟩:=zP.mp (by lia)
    refine⟨λi u hi=>?_,λi hi=>?_⟩
    .cases i with
     |zero=>cases hi;show tm*f ((k:Int),t)=a+ps.getD t.toNat 0;lia
     |succ i=>have:=c1 i u (by simpa using hi);rw[show k+(i+1)=k+1+i by lia,ga];exact this
    .cases i with
     |zero=>cases hi
     |succ i=>rw[ga];exact c2 i (by simpa using hi)
   .have h0:tm*f ((k:Int),t)=a+ps.getD t.toNat 0:=e4 0 t wZ
    have:=zP.mpr ⟨λi t hi=>by have:=e4 (i+1) t (by simpa using hi);rw[show k+(i+1)=k+1+i by lia,ga]at this;exact this,λi hi=>by have:=e5 (i+1) (by simpa using hi);rwa[ga]at this⟩
    lia
structure OU(cs:w8)(f:Int×Int->Int)(tm:Int)(as ps:w8)(ws:LO):Prop where
 got:∀(i:Nat) t,ws[i]?=O (O t)->tm*f ((i:Int),t)=as.getD i 0+ps.getD t.toNat 0
 non:∀i:Nat,ws[i]?=O w4->as.getD i 0=0
 all:∀k,k<cs.length->ps.getD k 0=0∨((ws.count (O (k:Int)):Nat):Int)=cs.getD k 0
section
variable{cs:w8}{f:Int×Int->Int}{qs:LP}{m:Nat}{ws:LO}{tm:Int}{as ps:w8}
theorem Fm(hp:K2 cs.length m qs)(hd:K7 cs qs m ws)(ok:OkP cs.length m (λa b=>f (a,b)) qs tm as ps):tm*Ka f 0 ws<=Wl cs as ps/\(tm*Ka f 0 ws=Wl cs as ps ↔ OU cs f tm as ps ws):=by
 obtain⟨h1,h2⟩:=Gu (f:=f) (ps:=ps) (tm:=tm) ws as 0 (by rw[ok.la,hd.len]) ok.aa λi t e=>by rw[QO];exact ok.le _ (hd.wish i t e)
 simp only[QO]at h2;have yU:∀t,O t∈ws->0<=t/\t<cs.length:=λt ht=>by obtain⟨i,hi⟩:=List.mem_iff_getElem?.mp ht;have:=hp.lo _ (hd.wish i t hi);exact⟨this.2.2.1,this.2.2.2⟩
 have zV:∀k,k<cs.length->0<=ps.getD k 0:=λk hk=>by rw[Qh,Qe (by rw[ok.lp];exact hk)];exact ok.pp _ (JE _)
 have hcop:∀k,k<cs.length->((ws.count (O (k:Int)):Nat):Int)<=cs.getD k 0:=λk hk=>hd.cop k _ (by rw[Qh,Qe hk];rfl)
 have hle   :=λk hk=>Ji (hcop k hk) (zV k hk);have s1:=Rb cs.length hle;have s2:=LS cs.length hle;have ec:Wl cs as ps=as.sum+Zh cs.length λk=>cs.getD k 0*ps.getD k 0:=by unfold Wl;rw[Mv _ _ ok.lp]
 rw[ec];rw[Oq ws yU]at h1 h2;refine⟨by lia,λe=>?_,λh=>?_⟩
 .obtain⟨c1,c2⟩:=h2.mp (by lia)
  refine⟨c1,c2,λk hk=>?_⟩;have e3:=s2.mp (by lia) k hk;by_cases z:ps.getD k 0=0
  .exact .inl z
  .exact .inr (Int.eq_of_mul_eq_mul_right z e3)
 .have e1:=h2.mpr ⟨h.got,h.non⟩
  have e3:=s2.mpr λk hk=>by
   rcases h.all k hk with z|z
   .rw[z,Ue,Ue]
   .rw[z]
  lia
end
abbrev YQ:=List (Nat×List Stp)
noncomputable def Ko(R:YQ)(p:Nat):Bool:=R.any λx=>x.1==p
noncomputable def Wd(R:YQ)(p:Nat):List Stp:=((R.find? λx=>x.1==p).map (·.2)).getD []
noncomputable def Zm(R:YQ)(s:Stp):YQ:=if Ko R s.a && !Ko R s.b then R++[(s.b,Wd R s.a++[s])]else R
noncomputable def ZT(T:List Stp)(q:Nat):Nat->YQ
 |0=>[(q,[])]
 |t+1=>T.foldl Zm (ZT T q t)
theorem R6   : Ko R p=w5 ↔ ∃w,(p,w)∈R:=by
 unfold Ko;constructor
 .simp_all
 simp_all
theorem Om   (h:Ko R p=w5):(p,Wd R p)∈R:=by
 obtain⟨w,hw⟩:=R6.mp h;unfold Wd;cases e:R.find? λx=>x.1==p with
 |none=>have:=List.find?_eq_none.mp e _ hw;simp at this
 |some x=>
  have h1:=List.mem_of_find?_eq_some e;have h2:=List.find?_some e;have h2   :=by simpa using h2
  subst h2;exact h1
structure RdOk(T:List Stp)(q:Nat)(R:YQ):Prop where
 pth:∀x∈R,Path T q x.2 x.1
 nd:∀x∈R,(q::x.2.map Stp.b).Nodup
 cl:∀x∈R,∀y∈q::x.2.map Stp.b,Ko R y=w5
theorem N0    : Ko (R++[x]) p=(Ko R p || x.1==p):=by unfold Ko;simp
theorem Be  {q:Nat}{R:YQ}{s:Stp}(hs:s∈T)(k:RdOk T q R):RdOk T q (Zm R s)/\(∀p,Ko R p=w5->Ko (Zm R s) p=w5)/\(Ko R s.a=w5->Ko (Zm R s) s.b=w5):=by
 unfold Zm;by_cases c:(Ko R s.a && !Ko R s.b)=w5
 .rw[Qp c]
  obtain⟨c1,c2⟩:=JX.mp c;have c2   :=by simpa using c2
  have hm:=Om c1;have k1:=k.pth _ hm;have k2:=k.nd _ hm;have k3:=k.cl _ hm;have up:∀p,Ko R p=w5->Ko (R++[(s.b,Wd R s.a++[s])]) p=w5:=λp h=>by rw[N0,h];rfl
  have e:q::((Wd R s.a++[s]).map Stp.b)=(q::(Wd R s.a).map Stp.b)++[s.b]:=by rw[Qy];rfl
  refine⟨⟨λx hx=>?_,λx hx=>?_,λx hx y hy=>?_⟩,up,λ_=>by rw[N0];simp⟩
  .rcases QI.mp hx with h|h
   .exact k.pth x h
   .cases Qu.mp h
    exact k1.append (.cons hs (.nil _))
  .rcases QI.mp hx with h|h
   .exact k.nd x h
   .cases Qu.mp h
    rw[e];refine List.nodup_append.mpr ⟨k2,by simp,λa ha b hb z=>?_⟩;rw[Qu.mp hb]at z;rw[z]at ha;have:=k3 _ ha;rw[c2]at this;cases this
  .rcases QI.mp hx with h|h
   .exact up y (k.cl x h y hy)
   .cases Qu.mp h
    rw[e]at hy;rcases QI.mp hy with hy|hy
    .exact up y (k3 y hy)
    .rw[N0,List.mem_singleton.mp hy];simp
 .rw[Qw c]
  refine⟨k,λ_ h=>h,λh=>?_⟩;cases z:Ko R s.b with
  |true=>rfl
  |false=>rw[h,z]at c;exact absurd wZ c
theorem Nd   : ∀(X:List Stp)(R),(∀s∈X,s∈T)->RdOk T q R->RdOk T q (X.foldl Zm R)/\(∀p,Ko R p=w5->Ko (X.foldl Zm R) p=w5)/\∀s∈X,Ko R s.a=w5->Ko (X.foldl Zm R) s.b=w5
 |[],R,_,k=>⟨k,λ_ h=>h,λs hs=>by simp_all⟩
 |s::X,R,h,k=>by
  obtain⟨k1,k2,k3⟩:=Be (h s Qj) k;obtain⟨f1,f2,f3⟩:=Nd X _ (λx hx=>h x (Qi _ hx)) k1;refine⟨f1,λp hp=>f2 p (k2 p hp),λx hx ha=>?_⟩;rcases QE.mp hx with rfl|hx
  .exact f2 _ (k3 ha)
  .exact f3 x hx (k2 _ ha)
theorem Oo(T)(q:Nat):∀t,RdOk T q (ZT T q t)/\∀w p,Path T q w p->w.length<=t->Ko (ZT T q t) p=w5
 |0=>by
  refine⟨⟨λx hx=>?_,λx hx=>?_,λx hx y hy=>?_⟩,λw p h hl=>?_⟩
  .cases Qu.mp hx;exact .nil q
  .cases List.mem_singleton.mp hx;simp
  .cases Qu.mp hx
   cases Qu.mp hy;exact R6.mpr ⟨[],Qu.mpr wZ⟩
  .have:w=[]:=List.eq_nil_of_length_eq_zero (by lia)
   subst this;cases h;exact R6.mpr ⟨[],Qu.mpr wZ⟩
 |t+1=>by
  obtain⟨k,ih⟩:=Oo T q t;obtain⟨f1,f2,f3⟩:=Nd T _ (λ_ h=>h) k;refine⟨f1,λw p h hl=>?_⟩;by_cases c:w.length<=t
  .exact f2 p (ih w p h c)
  .obtain⟨u,s,rfl⟩:∃u s,w=u++[s]:=⟨w.dropLast,w.getLast (by intro z;rw[z]at c;simp at c),(List.dropLast_concat_getLast _).symm⟩
   obtain⟨mm,h1,h2⟩:=h.split;have hs:=h2.step.1;have ha:=h2.head;have hb   :=h2.step.2;have hp:p=s.b:=by generalize s.b=x at hb;cases hb;rfl
   subst ha;rw[hp];exact f3 s hs (ih u s.a h1 (by rw[Qk,QU]at hl;lia))
theorem Ec   (hT:∀s∈T,s.a<n/\s.b<n)(h0:0<n){q p}:∀(N)(w),w.length<=N->Path T q w p->∃w',Path T q w' p/\w'.length<n
 |0,w,hl,h=>⟨w,h,by lia⟩
 |N+1,w,hl,h=>by
  by_cases c:w.length<n
  .exact⟨w,h,c⟩
  .have hr:=Gy hT h (by lia) h0
   have:∃j,j<w.length/\∃i,i<=j/\∃s t,w[i]?=O s/\w[j]?=O t/\s.a=t.b:=by refine Classical.byContradiction λz=>hr λj hj i hi s t e1 e2 e3=>z ⟨j,hj,i,hi,s,t,e1,e2,e3⟩
   obtain⟨j,hj,i,hi,s,t,e1,e2,e3⟩:=this;have p1:=(h.at e1).1;have p2:=(h.at e2).2.2;rw[←e3]at p2;refine Ec hT h0 N _ ?_ (p1.append p2);rw[Qk,Q2,Jm]
   lia
def VM(T:List Stp)(q p:Nat):Prop:=∃w,Path T q w p
theorem Tp   (hT:∀s∈T,s.a<n/\s.b<n)(h0:0<n){q p}:Ko (ZT T q n) p=w5 ↔ VM T q p:=by
 obtain⟨k,c⟩:=Oo T q n;constructor
 .intro h
  exact⟨_,k.pth _ (Om h)⟩
 .rintro⟨w,h⟩
  obtain⟨w',h',hl⟩:=Ec hT h0 w.length w (Qv _) h;exact c w' p h' (by lia)
noncomputable def ZH(T:List Stp)(n p:Nat):Nat:=(Ux n).countP λq=>Ko (ZT T q n) p
theorem Lf(T)(n p):ZH T n p<=n:=by have:=List.countP_le_length (p:=λq=>Ko (ZT T q n) p) (l:=Ux n);rwa[Qo]at this
theorem qQ   (hT:∀s∈T,s.a<n/\s.b<n){s}(hs:s∈T):ZH T n s.a<=ZH T n s.b:=by
 have h0:0<n:=by have:=(hT s hs).1;lia
 refine List.countP_mono_left λq _ h=>?_
 obtain⟨w,hw⟩:=(Tp hT h0).mp h;exact(Tp hT h0).mpr ⟨_,hw.append (.cons hs (.nil _))⟩
noncomputable def Yw(S:List Stp)(V:Nat->Int):List Stp:=S.filter λs=>decide (V s.a+s.g=V s.b)
noncomputable def KE(T:List Stp)(V:Nat->Int)(n:Nat)(p:Nat):Int:=((n+1:Nat):Int)*V p+(ZH T (n+1) p:Int)-(ZH T (n+1) n:Int)
theorem jm  {V}{n:Nat}(hS:∀s∈S,s.a<n+1/\s.b<n+1)(st:∀s∈S,V s.a+s.g<=V s.b)(s:Stp)(hs:s∈S):KE (Yw S V) V n s.a+((n+1:Nat):Int)*s.g<=KE (Yw S V) V n s.b:=by
 have hT:∀s∈Yw S V,s.a<n+1/\s.b<n+1:=λs h=>hS s (QK.mp h).1;have h1:=st s hs;unfold KE
 by_cases c:V s.a+s.g=V s.b
 .have:=qQ hT (QK.mpr ⟨hs,QW c⟩)
  rw[←c,Int.mul_add]
  lia
 .have l1:=Lf (Yw S V) (n+1) s.a
  have h2:_*(V s.a+s.g+1)<=((n+1:Nat):Int)*V s.b:=Int.mul_le_mul_of_nonneg_left (by lia) (by lia)
  lia
section
variable{cs:w8}{f:Int×Int->Int}{qs:LP}{m:Nat}{ws:LO}
theorem Gs(c):∀(ws)(k),Ka (λq=>c*f q) k ws=c*Ka f k ws
 |[],k=>by show(0)=c*0;lia
 |o::ws,k=>by
  show Kg _ k o+Ka _ _ ws=c*(Kg f k o+Ka f _ ws);rw[Gs c ws _,Int.mul_add];cases o with
  |none=>show 0+_=c*0+_;lia
  |some t=>rfl
theorem IsSt.mul   (h:IsSt cs (λq=>c*f q) qs ws s):∃s',IsSt cs f qs ws s'/\s.a=s'.a/\s.b=s'.b/\s.g=c*s'.g:=by
 cases h with
 |@mv i o o' h hne hq=>
  refine⟨_,.mv h hne hq,rfl,rfl,?_⟩
  have e:∀o , Kg (λq=>c*f q) i o=c*Kg f i o:=λo=>by
   cases o with
   |none=>show(0)=c*0;lia
   |some t=>rfl
  rw[e,e,Int.mul_sub]
 |left h hl=>exact⟨_,.left h hl,rfl,rfl,by simp_all⟩
 |give h=>exact⟨_,.give h,rfl,rfl,by simp_all⟩
theorem jk(hp:K2 cs.length m qs)(hd:K7 cs qs m ws)(sw:VT cs f qs ws){T:List Stp}(hT:T=Yw (ZS cs f qs ws) (prW cs f qs ws)) :
  OkP cs.length m (λa b=>f (a,b)) qs ((cs.length+1:Nat):Int) ((Ux m).map λi:Nat=>ZJ (λq=>((cs.length+1:Nat):Int)*f q) (KE T (prW cs f qs ws) cs.length) qs (i:Int)) ((Ux cs.length).map (KE T (prW cs f qs ws) cs.length)) /\
  Wl cs ((Ux m).map λi:Nat=>ZJ (λq=>((cs.length+1:Nat):Int)*f q) (KE T (prW cs f qs ws) cs.length) qs (i:Int)) ((Ux cs.length).map (KE T (prW cs f qs ws) cs.length))=((cs.length+1:Nat):Int)*Ka f 0 ws:=by
 obtain⟨st,vn⟩:=R7 (V:=prW cs f qs ws) hp hd (Xs hp hd) (Tr hp hd) (λp=>rfl) sw;have hS:∀s∈ZS cs f qs ws,s.a<cs.length+1/\s.b<cs.length+1:=λs hs=>(Xs hp hd s hs).lt hp hd
 obtain⟨ok,cl⟩:=Ft  (V:=KE T _ cs.length) hp hd (λs hs=>by obtain⟨s',h1,h2,h3,h4⟩:=hs.mul;rw[h2,h3,h4,hT];exact jm hS st s' (Tr hp hd s' h1)) (by unfold KE;rw[vn,Ue];lia);refine⟨⟨by lia,ok.la,ok.lp,ok.aa,ok.pp,λq hq=>?_⟩,by rw[cl,Gs]⟩;have:=ok.le q hq;rwa[Int.one_mul]at this
end
noncomputable def Xp(R:YQ):D:=.dict (R.map λx=>(.int (x.1:Nat),.list (x.2.map U2)))
theorem Nc{p:Nat}:Yd (.int (p:Nat))=O (.inl (p:Int)):=rfl
theorem Nb(a p:Nat):decide (Yd (.int (a:Nat))=O (.inl (p:Int)))=(a==p):=by
 rw[Nc];by_cases h:a=p
 .subst h;simp
 lia
theorem WP  {p}:ZN (.int (p:Nat)) (Xp R)=O (Ko R p):=by
 unfold ZN Xp;rw[Nc];dsimp only;rw[Qp (Je.mpr λx hx=>by obtain⟨y,_,rfl⟩:=Qn.mp hx;rfl)]
 congr 1
 rw[List.any_map]
 congr 1
 funext x;exact Nb x.1 p
theorem Gr   (h:Ko R p=w5):VR (Xp R) (.int (p:Nat))=O (.list ((Wd R p).map U2)):=by
 unfold VR Xp;rw[Nc];dsimp only;rw[List.find?_map];have e:((λx:D×D=>decide (Yd x.1=O (.inl (p)))) ∘ λx:Nat×List Stp=>((.int (x.1),.list (x.2.map U2))))=λx=>x.1==p:=by funext x;exact Nb x.1 p
 rw[e];unfold Wd;cases z:R.find? λx=>x.1==p with
 |none=>obtain⟨w,hw⟩:=R6.mp h;have:=List.find?_eq_none.mp z _ hw;simp at this
 |some x=>rfl
theorem qP   {w:List Stp}(h:Ko R p=w6):XQ (R.map λx=>((.int (x.1:Nat),.list (x.2.map U2)):D×D)) (.inl (p:Int)) (.list (w.map U2))=(R++[(p,w)]).map λx=>(.int (x.1:Nat),.list (x.2.map U2)):=by
 unfold XQ
 have e:((R.map λx=>((.int (x.1:Nat),.list (x.2.map U2)):D×D)).any λx=>decide (Yd x.1=O (.inl (p:Int))))=w6:=by
  rw[List.any_map];have:((λx:D×D=>decide (Yd x.1=O (.inl (p)))) ∘ λx:Nat×List Stp=>((.int (x.1:Nat),.list (x.2.map U2))))=λx=>x.1==p:=by funext x;exact Nb x.1 p
  rw[this];exact h
 rw[if_neg (by rw[e];simp),List.map_append];rfl
theorem Fl  {l:yi}(h:l.Nodup)(hl:∀x∈l,x<n):l.length<=n:=by
 have:=Rq n (l.map λk:Nat=>(k)) (EG (λa b e=>by lia) h) λx hx=>by
  obtain⟨k,hk,rfl⟩:=Qn.mp hx;have:=hl k hk
  lia
 simp_all
structure RdK(n:Nat)(R:YQ):Prop where
 nd:(R.map Prod.fst).Nodup
 lt:∀x∈R,x.1<n
theorem Ci    (hs:s.b<n)(k:RdK n R):RdK n (Zm R s):=by
 unfold Zm;by_cases c:(Ko R s.a && !Ko R s.b)=w5
 .rw[Qp c]
  refine⟨?_,λx hx=>?_⟩
  .rw[Qy]
   refine List.nodup_append.mpr ⟨k.nd,by simp,λa ha b hb z=>?_⟩;have hb   :=by simpa using hb
   obtain⟨x,hx,rfl⟩:=Qn.mp ha;have:Ko R s.b=w5:=R6.mpr ⟨x.2,by rw[←hb,←z];exact hx⟩;simp_all
  .rcases QI.mp hx with h|h
   .exact k.lt x h
   simp_all
 .rw[Qw c];exact k
theorem OT  : ∀(X:List Stp)(R),(∀s∈X,s.b<n)->RdK n R->RdK n (X.foldl Zm R)
 |[],R,_,k=>k
 |s::X,R,h,k=>OT X _ (λx hx=>h x (Qi _ hx)) (Ci (h s Qj) k)
theorem Gq   (hT:∀s∈T,s.a<n/\s.b<n)(hq:q<n):∀t,RdK n (ZT T q t)
 |0=>⟨by show [q].Nodup;simp,λx hx=>by cases List.mem_singleton.mp hx;simp_all⟩
 |t+1=>OT T _ (λs hs=>(hT s hs).2) (Gq hT hq t)
theorem Gp    (hT:∀s∈T,s.a<n/\s.b<n)(hq:q<n)(k:RdOk T q R):∀x∈R,x.2.length<n:=λx hx=>by
 have h:=Fl  (k.nd x hx) λy hy=>by
  rcases QE.mp hy with rfl|hy
  .exact hq
  .obtain⟨s,hs,rfl⟩:=Qn.mp hy
   exact(hT s ((k.pth x hx).mem s hs)).2
 rw[Qz,Qb]at h
 lia
theorem Rv(s:Stp):oIx (U2 s) (.int 0)=O (.int (s.a:Nat)):=K0 (j:=0) wZ
theorem Pr(s:Stp):oIx (U2 s) (.int 1)=O (.int (s.b:Nat)):=K0 (j:=1) wZ
theorem Dt(s:Stp):oIx (U2 s) (.int 2)=O (.int s.g):=K0 (j:=2) wZ
section
variable{n:Nat}{T:List Stp}{q:Nat}
theorem qO(hT:∀s∈T,s.a<n/\s.b<n)(hn:n<=100)(hq:q<n):Vq [.int (q:Nat),.int (n:Nat),.list (T.map U2)]=O (Xp (ZT T q n)):=by
 refine KY  rfl ?_;unfold TW
 let S0:Option Sl:=O (.pub (.int (q:Nat)))
 let S1:Option Sl:=O (.pub (.int (n:Nat)))
 let S2:Option Sl:=O (.pub (.list (T.map U2)))
 refine Kh  (Aj (d:=Xp (ZT T q 0)) (K6 (x:=[(.int (q:Nat),.list [])]) wZ (YG wZ)) (Qa wZ) wZ) ?_;apply Za;apply ZR (λt Z=>∃x4 x5,Z=[S0,S1,S2,O (.deep .dic (Xp (ZT T q t))),x4,x5])
 case h1=>exact Wn (UQ (UO wZ) UX) (Wm (by lia) (by lia))
 case h0=>exact⟨_,_,rfl⟩
 case hst=>
  rintro t d Z ht ⟨x4,x5,rfl⟩;refine⟨_,UV (Qa wZ) wZ,?_⟩;unfold L6;apply ZR (λj Z=>∃x4 x5,Z=[S0,S1,S2,O (.deep .dic (Xp ((T.take j).foldl Zm (ZT T q t)))),x4,x5])
  case h1=>exact Zv (UO wZ) ZK
  case h0=>exact⟨_,_,rfl⟩
  case hst=>
   rintro j d Z hj ⟨x4,x5,rfl⟩;rw[Qd]at hj;cases hs:T[j]? with
   |none=>rw[hs]at hj;cases hj
   |some s=>
   rw[hs]at hj;cases hj;have hsT:=Qs hs;have hsub:∀x∈T.take j,x∈T:=λx hx=>Uc hx;have kR:=(Nd (T.take j) (ZT T q t) hsub (Oo T q t).1).1;have kK:=OT (n:=n) (T.take j) (ZT T q t) (λx hx=>(hT x (hsub x hx)).2) (Gq hT hq t)
   have eT:(T.take (j+1)).foldl Zm (ZT T q t)=Zm ((T.take j).foldl Zm (ZT T q t)) s:=by rw[List.take_add_one,hs,List.foldl_append];rfl
   generalize (T.take j).foldl Zm (ZT T q t)=R at kR kK eT;refine⟨_,UV (Qa wZ) wZ,?_⟩;unfold L7
   have hlen:R.length<=n:=by
    have:=Fl (n:=n) kK.nd λx hx=>by obtain⟨y,hy,rfl⟩:=Qn.mp hx;exact kK.lt y hy
    rwa[Qb]at this
   by_cases ca:Ko R s.a=w5
   .by_cases cb:Ko R s.b=w5
    .refine KU (b:=w6) (R3 (RZ (t:=w5) (Ky wZ U0 (Rv s)) wZ (WP.trans (Ub O ca))) (RZ (t:=w5) (Ky wZ U0 (Pr s)) wZ (WP.trans (Ub O cb)))) (λz=>by cases z) λ_=>Ze (Zf ⟨x4,pb (U2 s),?_⟩)
     rw[eT];unfold Zm;rw[if_neg (by rw[ca,cb];simp)];rfl
    .have cb:Ko R s.b=w6:=by simpa using cb
     refine KU (b:=w5) (R3 (RZ (t:=w5) (Ky wZ U0 (Rv s)) wZ (WP.trans (Ub O ca))) (RZ (t:=w6) (Ky wZ U0 (Pr s)) wZ (WP.trans (Ub O cb)))) (λ_=>?_) λz=>by cases z
     have hl:=Gp hT hq kR _ (Om ca);have hl:(Wd R s.a).length<n:=hl;have hadd:U8 (.list ((Wd R s.a).map U2)) (.list [U2 s])=O (.list ((Wd R s.a++[s]).map U2)):=by rw[XH (by rw[Qb,QU];lia),Qy];rfl
     refine YI (Cy (k:=.inl ((s.b:Nat):Int)) (kvs:=R.map λx=>(.int (x.1:Nat),.list (x.2.map U2))) (U9 (Ad wZ (Ky wZ U0 (Rv s)) wZ (Gr ca)) (Zz (UQ (UO wZ) UX) (Qa wZ)) hadd) wZ (Ky wZ U0 (Pr s)) wZ wZ (by rw[Qb];lia) wZ) (Zf ⟨x4,pb (U2 s),?_⟩);rw[qP cb,eT];unfold Zm;rw[Qp (by rw[ca,cb];rfl)];rfl
   .have ca:Ko R s.a=w6:=by simpa using ca
    refine KU (b:=w6) (No (RZ (t:=w6) (Ky wZ U0 (Rv s)) wZ (WP.trans (Ub O ca)))) (λz=>by cases z) λ_=>Ze (Zf ⟨x4,pb (U2 s),?_⟩)
    rw[eT];unfold Zm;rw[if_neg (by rw[ca];simp)];rfl
  case hend=>rintro Z ⟨x4,x5,rfl⟩;refine Zf ⟨x4,x5,?_⟩;rw[Qb,JF];rfl
 case hend=>rintro Z ⟨x4,x5,rfl⟩;refine Zc (KB (Ab rfl rfl) ?_);rw[Y0];simp
noncomputable abbrev Xq(T:List Stp)(n:Nat):w9:=(Ux n).map λq=>Xp (ZT T q n)
theorem v6(hT:∀s∈T,s.a<n/\s.b<n)(hn:n<=100):Vp [.int (n:Nat),.list (T.map U2)]=O (.list (Xq T n)):=by
 refine KY  rfl ?_;refine KB (KS (ZC (Wn (UQ (UO wZ) UX) (Wm (by lia) (by lia))) (Xd (λZ=>∃x,Z=[O _,O _,x]) _ (Xq T n) _ [] ?_ ?_ ⟨w4,rfl⟩ ?_))) wZ
 .rw[Y0];simp
 .rintro i d e hd he Z ⟨x,rfl⟩
  obtain⟨rfl,hi⟩:=Wo hd;have hin:i<n:=by lia
  rw[Qd,QM hin]at he;cases he;rw[JG];exact⟨_,UV (Qa wZ) wZ,rfl,Kj (UQ (UO wZ) (UQ (UO wZ) (UQ (UO wZ) UX))) wZ (qO hT hn hin),_,rfl⟩
 .rw[Qx,Y0];lia
end
theorem Xw{α:Type}{s}{t:M Bool}{g:M D}(f)(p)(e)(I:US->Prop):∀(xs:List α)(Z:US)(es:w9),(∀a∈xs,∀Z,I Z->∃Z1,s (f a) Z=O Z1/\t Z1=.ok (p a) Z1/\(p a=w5->g Z1=.ok (e a) Z1)/\I (KD Z1))->I Z->es.length+xs.length<=1000000->Zb s t g (xs.map f) Z es=O (es++(xs.filter p).map e)
 |[],Z,es,_,_,_=>by rw[List.map_nil,Zb];simp
 |a::xs,Z,es,h,h0,hl=>by
  rw[Qz]at hl;obtain⟨Z1,h1,h2,h3,h4⟩:=h a Qj Z h0;have h':=λb hb=>h b (Qi _ hb);rw[Qt,Zb,h1];dsimp only;rw[h2];dsimp only
  cases c:p a with
  |true=>rw[Qp wZ,h3 c];dsimp only;rw[Qp (by lia),Xw f p e I xs _ _ h' h4 (by rw[Qk,QU];lia),List.filter_cons_of_pos c,Q6];rfl
  |false=>rw[if_neg (by decide),Xw f p e I xs _ _ h' h4 (by lia),List.filter_cons_of_neg (by rw[c];simp)]
theorem qN{S:List Stp}{n:Nat}{V:Nat->Int}(hS:∀s∈S,s.a<n+1/\s.b<n+1)(vn:V n=0)(hn:n<=100)(hl:S.length<=1000):Vr [.list (S.map U2),.list (((Ux n).map V).map int)]=O (.list ((Yw S V).map U2)):=by
 refine KY  rfl ?_;unfold TX;have hadd:U8 (.list (((Ux n).map V).map int)) (.list [.int 0])=O (.list (((Ux (n+1)).map V).map int)):=by rw[XH (by rw[Qb,Qb,Qo,QU];lia),JU,Qy,Qy];show _=O (Uz (_++[int (V n)]));rw[vn]
 refine Kh (KM (U9 (UO wZ) (Zz (UQ U0 UX) (Qa wZ)) hadd) (Qa wZ) wZ) ?_;have hix:∀p,p<n+1->oIx _ (.int (p:Nat))=O (.int (V p)):=λp hp=>P9 hp
 let R:US:=[pb (.list (S.map U2)),pb (.list (((Ux n).map V).map int)),pb (.list (((Ux (n+1)).map V).map int))]
 have hc:Zb (gN 3) (UR oEq (UR U8 (U1 2 (U1 3 (UT (.int 0)))) (U1 3 (UT (.int 2)))) (U1 2 (U1 3 (UT (.int 1))))) (UM 3) (S.map U2) (KD R++Uy 1 w4) []=O ((Yw S V).map U2):=by refine(Xw U2 _ U2 (λZ=>∃x,Z=R++[x]) S _ [] ?_ ⟨w4,rfl⟩ (by rw[Qx];lia)).trans (by rw[QR];rfl);rintro s hs Z ⟨x,rfl⟩;have hs:=hS s hs;exact⟨R++[pb (U2 s)],UV (Qa wZ) wZ,U9 (U9 (Ky wZ (Ky wZ U0 (Rv s)) (hix _ hs.1)) (Ky wZ U0 (Dt s)) Zj) (Ky wZ (Ky wZ U0 (Pr s)) (hix _ hs.2)) XI,λ_=>UO wZ,_,rfl⟩
 exact KB (KS (ZC (Zv (UO wZ) ZK) hc)) wZ
section
variable{cs:w8}{ls:List (List w8)}{ws:LO}{qs:LP}{V:Int->Int->Int}{T:List Stp}{n m:Nat}{P:Nat->Int}
theorem wX(hn:n<=100):Vo [.list (((Ux n).map P).map int),.list (Xq T (n+1))]=O (.list (((Ux n).map (KE T P n)).map int)):=by
 refine KY  rfl ?_;unfold TV
 let S0:Option Sl:=O (.pub (.list (((Ux n).map P).map int)))
 let S1:Option Sl:=O (.pub (.list (Xq T (n+1))))
 let S2:Option Sl:=O (.pub (.int ((n+1:Nat):Int)))
 have hlen:Kk [.list (Xq T (n+1))]=O (.int ((n+1:Nat):Int)):=by rw[Zy,Qb,Qo]
 refine Kh (Z1:=[S0,S1,S2,w4]) (KM (ZP wZ hlen) (Qa wZ) wZ) ?_
 let L:w9:=((Ux (n+1)).map λp=>((ZH T (n+1) p:Nat):Int)).map int
 have hc1:Zb (gN 4) (UT w5) (ZB Kk (UP (U7 Uz (Zo (KW (UM 1)) 1 (gN 5) (Zi ZN 4 (UM 5)) (UM 5))) UN)) (Yt 0 ((n+1:Nat):Int)) (KD [S0,S1,S2,w4]++Uy 1 w4) []=O L:=by
  refine(Xd (λZ=>∃x,Z=[S0,S1,S2,w4,x]) _ L _ [] ?_ ?_ ⟨w4,rfl⟩ ?_).trans (by rw[QR])
  .rw[Y0];show(List.map _ _).length=_;rw[List.length_map,List.length_map,List.length_range];simp
  .rintro i d e hd he Z ⟨x,rfl⟩
   obtain⟨rfl,hi⟩:=Wo hd;have hin:i<n+1:=by lia
   rw[Qd,Qd,QM hin]at he;cases he;rw[JG];refine⟨_,UV (Qa wZ) wZ,rfl,?_,_,rfl⟩;have hin2:Zb (gN 5) (Zi ZN 4 (UM 5)) (UM 5) (Xq T (n+1)) (KD [S0,S1,S2,w4,pb (.int (i:Nat))]++Uy 1 w4) []=O (((Ux (n+1)).filter λq=>Ko (ZT T q (n+1)) i).map λq=>Xp (ZT T q (n+1))):=by refine(Xw (λq=>Xp (ZT T q (n+1))) (λq=>Ko (ZT T q (n+1)) i) (λq=>Xp (ZT T q (n+1))) (λZ=>∃x,Z=[S0,S1,S2,w4,pb (.int (i:Nat)),x]) (Ux (n+1)) _ [] ?_ ⟨w4,rfl⟩ (by rw[Qx,Qo];lia)).trans (by rw[QR]);rintro q hq Z ⟨x,rfl⟩;exact⟨[S0,S1,S2,w4,pb (.int (i:Nat)),pb (Xp (ZT T q (n+1)))],UV (Qa wZ) wZ,Ye wZ (UO wZ) WP,λ_=>UO wZ,_,rfl⟩
   refine Yg (UQ (KS (ZC (Zv (UO wZ) ZK) hin2)) UX) ?_;rw[Zy,Qb];show _=O (int ((ZH T (n+1) i:Nat):Int));unfold ZH;rw[List.countP_eq_length_filter]
  .rw[Qx,Y0];lia
 refine Kh (Z1:=[S0,S1,S2,O (.own L)]) (YJ (ZC (Wn (UQ (UO wZ) UX) (Wm (by lia) (by lia))) hc1) (Qa wZ) wZ) ?_;have hixL:∀p,p<n+1->oIx (.list L) (.int (p:Nat))=O (.int (ZH T (n+1) p:Nat)):=λp hp=>P9 (h:=λp=>((ZH T (n+1) p:Nat):Int)) hp
 have yq:oIx (.list L) (.int (-1))=O (.int (ZH T (n+1) n:Nat)):=by
  refine Hv ?_
  show(((Ux (n+1)).map λp=>((ZH T (n+1) p:Nat):Int)).map int).getLast?=_
  rw[JU,Qy,Qy];simp
 let R:US:=[S0,S1,S2,pb (.list L)]
 have hc2:Zb (gT 2 (gNC (gN 4) (gNC (gN 5) gN0))) (UT w5) (UR K9 (UR U8 (UR KF (UM 2) (UM 5)) (U1 3 (UM 4))) (U1 3 (YC (UT (.int 1))))) (Yc 0 (((Ux n).map P).map int)) (ZZ [S0,S1,S2,O (.own L)]++Uy 2 w4) []=O (((Ux n).map (KE T P n)).map int):=by
  refine(Xd (λZ=>∃x y,Z=[S0,S1,S2,pb (.list L),x,y]) _ (((Ux n).map (KE T P n)).map int) _ [] ?_ ?_ ⟨w4,w4,rfl⟩ ?_).trans (by rw[QR])
  .rw[YH,Qb,Qb,Qb,Qb]
  .rintro i d e hd he Z ⟨x,y,rfl⟩
   obtain⟨z,hz,rfl⟩:=Xa hd;have hin:i<n:=by have:=(Qg.mp hz).1;rwa[Qb,Qb,Qo]at this
   rw[Qd,Qd,QM hin]at he hz;cases he;cases hz;rw[QO];exact⟨_,Kq wZ (UZ (UV (Qa wZ) wZ) (UZ (UV (Qa wZ) wZ) Kr)),rfl,U9 (U9 (U9 (UO wZ) (UO wZ) (V4 (by lia) (by lia))) (Ky wZ (UO wZ) (hixL i (by lia))) Zj) (Ky wZ (RI U0) yq) Xc,_,_,rfl⟩
  .rw[Qx,YH,Qb,Qb,Qo];lia
 exact KB (KS (qf (XJ (UQ (UO wZ) UX) XG) hc2 (j4 _))) wZ
theorem wR(hp:K2 n m qs)(hn:n<=100)(hm:m<=1000)(hq1:qs.length<=500):Vn [.int (m:Nat),.list (qs.map (Zt V)),.list (((Ux n).map P).map int),.list (Xq T (n+1))]=O (Y1 ((n+1:Nat):Int) (W9 m (λq=>((n+1:Nat):Int)*UW V q) (KE T P n) qs) ((Ux n).map (KE T P n))):=by
 refine KY  rfl ?_;unfold TU
 let S0:Option Sl:=O (.pub (.int (m:Nat)))
 let S1:Option Sl:=O (.pub (.list (qs.map (Zt V))))
 let S2:Option Sl:=O (.pub (.list (((Ux n).map P).map int)))
 let S3:Option Sl:=O (.pub (.list (Xq T (n+1))))
 let S4:Option Sl:=O (.pub (.int ((n+1:Nat):Int)))
 let S5:Option Sl:=O (.pub (.list (((Ux n).map (KE T P n)).map int)))
 have hlen:Kk [.list (Xq T (n+1))]=O (.int ((n+1:Nat):Int)):=by rw[Zy,Qb,Qo]
 refine Kh  (KM (ZP wZ hlen) (Qa wZ) wZ) ?_;refine Kh (Z1:=[S0,S1,S2,S3,S4,S5,w4]) (KM (Kj (UQ (UO wZ) (UQ (UO wZ) UX)) wZ (wX hn)) (Qa wZ) wZ) ?_
 have hc:Zb (gT 3 (gNC (gN 7) (gNC (gN 8) (gNC (gN 9) gN0)))) (UT w5) (Kz (UP (UM 7) (UP (UM 8) (UP (UR KF (UM 4) (UM 9)) UN)))) (qs.map (Zt V)) (KD [S0,S1,S2,S3,S4,S5,w4]++Uy 3 w4) []=O (qs.map (Zt λa b=>((n+1:Nat):Int)*V a b)):=by
  refine(Xd (λZ=>∃x y z,Z=[S0,S1,S2,S3,S4,S5,w4,x,y,z]) _ _ _ [] ?_ ?_ ⟨w4,w4,w4,rfl⟩ ?_).trans (by rw[QR])
  .rw[Qb,Qb]
  .rintro i d e hd he Z ⟨x,y,z,rfl⟩
   rw[Qd]at hd he;cases hq:qs[i]? with
   |none=>rw[hq]at hd;cases hd
   |some q=>
   rw[hq]at hd he;cases hd;cases he;exact⟨_,Kq wZ (UZ (UV (Qa wZ) wZ) (UZ (UV (Qa wZ) wZ) (UZ (UV (Qa wZ) wZ) Kr))),rfl,Yi (UQ (UO wZ) (UQ (UO wZ) (UQ (U9 (UO wZ) (UO wZ) (V4 (by lia) (by lia))) UX))) (Qa wZ),_,_,_,rfl⟩
  .rw[Qx,Qb];lia
 refine Kh (KM (Kj (UQ (UO wZ) (UQ (KS (ZC (Zv (UO wZ) ZK) hc)) (UQ (UO wZ) UX))) wZ (LU hp hm _)) (Qa wZ) wZ) ?_;exact KB (Yi (UQ (UO wZ) (UQ (UO wZ) (UQ (UO wZ) UX))) (Qa wZ)) wZ
theorem NZ:∀(us vs:LO),PyData.eqvAll (us.map Kn) (vs.map Kn)=decide (us=vs)
 |[],[]=>rfl
 |[],_::_=>by simp[PyData.eqvAll]
 |_::_,[]=>by simp[PyData.eqvAll]
 |u::us,v::vs=>by
  show(UF _ _&&PyData.eqvAll _ _)=_
  have e:UF (Kn u) (Kn v)=decide (u=v):=by
   cases u with
   |none=>cases v<;>simp[Kn,UF]
   |some a=>
    cases v with
    |none=>simp[Kn,UF]
    |some b=>by_cases h:a=b<;>simp[Kn,UF,h]
  rw[NZ us vs,e];simp_all
theorem qM(us)(L:ym):oIn (Kl us) (.list (L.map Kl))=O (decide (us∈L)):=by
 have hlay:UD (L.map Kl)=w5:=Ta λx hx=>by obtain⟨y,_,rfl⟩:=Qn.mp hx;exact Mc y
 have hd:=qe us
 show(if(Kl us).canLay0=w5/\UD _=w5/\(Kl us).depth<=60 then O _ else w4)=_
 rw[Qp ⟨Mc us,hlay,by lia⟩]
 congr 1
 rw[Jr,List.any_eq_true,QY];constructor
 .rintro⟨y,hy,e⟩
  obtain⟨v,hv,rfl⟩:=Qn.mp hy;have e:PyData.eqvAll (v.map Kn) _=w5:=e;rw[NZ]at e;rw[←Qa e];exact hv
 .intro h
  refine⟨Kl us,Qn.mpr ⟨us,h,rfl⟩,?_⟩;show PyData.eqvAll _ _=w5;rw[NZ];simp
theorem jj(us)(L:ym):∃b,Zw (Kl us) (.list (L.map Kl))=O b/\(b=w6->us∈L):=by refine⟨!decide _,?_,λh=>by simpa using h⟩;unfold Zw;rw[qM];rfl
def Wh(n:Nat)(ws:LO)(r:List Stp)(us:LO):Prop:=∃b,us=(rot b r).foldl (app n) ws
theorem ji(hp:K2 cs.length m qs){f}(hd:K7 cs qs m ws){U}(hT:T=Yw (ZS cs f qs ws) U){x:Nat}{r}(hr:Path T x r x)(hn:(r.map Stp.a).Nodup){us}(h:Wh cs.length ws r us):K7 cs qs m us/\Ka f 0 us=Ka f 0 ws:=by
 obtain⟨b,rfl⟩:=h;have hin   :=λs hs=>by have:=hr.mem s hs;rw[hT]at this;exact Xs hp hd s (QK.mp this).1
 have pr:=Rf b r;obtain⟨h1,h2⟩:=Gw hp hd (λs hs=>hin s (pr.mem_iff.mp hs)) ((pr.map Stp.a).nodup_iff.mpr hn) (((pr.map Stp.b).trans (Mt hr)).trans (pr.map Stp.a).symm);refine⟨h1,?_⟩
 have hg:∀{q p:Nat}{w:List Stp},Path T q w p->U q+Ku w=U p:=λh=>by
  induction h with
  |nil p=>rw[N6];lia
  |@cons s w p hs h ih=>
   rw[hT]at hs;have e1:=Qa (QK.mp hs).2;rw[Tq]
   lia
 have:=hg hr;rw[h2,Fp pr]
 lia
theorem EI   (hs:s∈T)(h:Path T s.b w s.a)(hn:(s.b::w.map Stp.b).Nodup):Path T s.a (s::w) s.a/\((s::w).map Stp.a).Nodup:=by
 refine⟨.cons hs h,?_⟩;have e:=Hx h;have p:((s::w).map Stp.a).Perm (s.b::w.map Stp.b):=by rw[←e];exact(List.perm_append_comm (l₁:=[s.a]))
 exact p.nodup_iff.mpr hn
theorem qL(g:Good cs ls)(hp:K2 cs.length ls.length qs){f:Int×Int->Int}(hd:K7 cs qs ls.length ws){U:Nat->Int}(hT:T=Yw (ZS cs f qs ws) U)(hl:T.length<=1000):∃L:ym,Wt [Kl ws,.list (T.map U2),.list (Xq T (cs.length+1))]=O (.list (L.map Kl)) /\
  ws∈L/\L.length<=1+T.length/\(∀us∈L,K7 cs qs ls.length us/\Ka f 0 us=Ka f 0 ws)/\∀s∈T,VM T s.b s.a->¬(s.w=w4/\s.b=cs.length)->∃us∈L,∃w,Path T s.b w s.a/\(s.b::w.map Stp.b).Nodup/\Wh cs.length ws (s::w) us:=by
 have c6:=g.c6;have l7:=g.l7;have hTs:∀s∈T,IsSt cs f qs ws s:=λs hs=>by rw[hT]at hs;exact Xs hp hd s (QK.mp hs).1
 have y8:∀s∈T,s.a<cs.length+1/\s.b<cs.length+1:=λs hs=>(hTs s hs).lt hp hd
 have main:∃d,Wt [Kl ws,.list (T.map U2),.list (Xq T (cs.length+1))]=O d/\∃L:ym,d=.list (L.map Kl)/\ws∈L/\L.length<=1+T.length/\(∀us∈L,K7 cs qs ls.length us/\Ka f 0 us=Ka f 0 ws)/\∀s∈T,VM T s.b s.a->¬(s.w=w4/\s.b=cs.length)->∃us∈L,∃w,Path T s.b w s.a/\(s.b::w.map Stp.b).Nodup/\Wh cs.length ws (s::w) us:=by
  refine WD  rfl ?_;unfold TR
  let S0:Option Sl:=O (.pub (Kl ws))
  let S1:Option Sl:=O (.pub (.list (T.map U2)))
  let S2:Option Sl:=O (.pub (.list (Xq T (cs.length+1))))
  let S3:Option Sl:=O (.pub (.int (cs.length:Nat)))
  have hlen:Kk [.list (Xq T (cs.length+1))]=O (.int ((cs.length+1:Nat):Int)):=by rw[Zy,Qb,Qo]
  have hsub:K9 (.int ((cs.length+1:Nat):Int)) (.int 1)=O (.int (cs.length:Nat)):=by rw[Xc];congr 2;lia
  refine Kh (Z1:=[S0,S1,S2,S3,w4,w4,w4,w4,w4,w4,w4,w4]) (KM (U9 (ZP wZ hlen) U0 hsub) (Qa wZ) wZ) ?_;have hls:Te [Kl ws]=O (ws.map Kn):=rfl;refine Kh (Z1:=[S0,S1,S2,S3,O (.own ([ws].map Kl)),w4,w4,w4,w4,w4,w4,w4]) (YJ (Tk (UQ (KS (Od wZ hls)) UX) (Qa wZ)) (Qa wZ) wZ) ?_;apply Za;apply ZR (λj Z=>∃(L:ym)(x5 x6 x7 x8 x9 yL yI:Option Sl),Z=[S0,S1,S2,S3,O (.own (L.map Kl)),x5,x6,x7,x8,x9,yL,yI]/\ws∈L/\L.length<=1+j/\(∀us∈L,K7 cs qs ls.length us/\Ka f 0 us=Ka f 0 ws)/\∀s∈T.take j,VM T s.b s.a->¬(s.w=w4/\s.b=cs.length)->∃us∈L,∃w,Path T s.b w s.a/\(s.b::w.map Stp.b).Nodup/\Wh cs.length ws (s::w) us)
  case h1=>exact Zv (UO wZ) ZK
  case h0=>exact⟨[ws],_,_,_,_,_,_,_,rfl,Qu.mpr wZ,Qv _,λus hu=>by cases Qu.mp hu;exact⟨hd,rfl⟩,λs hs=>by rw[List.take_zero]at hs;cases hs⟩
  case hst=>
   rintro j d Z hj ⟨L,x5,x6,x7,x8,x9,yL,yI,rfl,hw,hL,hb,hsh⟩;have yB:j<T.length:=by have:=(Qg.mp hj).1;rwa[Qb]at this
   rw[Qd]at hj;cases hs:T[j]? with
   |none=>rw[hs]at hj;cases hj
   |some s=>
   rw[hs]at hj;cases hj;have hsT:=Qs hs;have hab:=y8 s hsT;refine⟨_,UV (Qa wZ) wZ,?_⟩;unfold L8
   let S5:Option Sl:=O (.pub (U2 s))
   let S6:Option Sl:=O (.pub (.int (s.a:Nat)))
   let S7:Option Sl:=O (.pub (.int (s.b:Nat)))
   let S8:Option Sl:=O (.pub (.int s.g))
   let S9:Option Sl:=O (.pub (YO s.w))
   refine Kh (Z1:=[S0,S1,S2,S3,O (.own (L.map Kl)),S5,S6,S7,S8,S9,yL,yI]) (XA (UO wZ) (Kq wZ (UZ (UV (Qa wZ) wZ) (UZ (UV (Qa wZ) wZ) (UZ (UV (Qa wZ) wZ) (UZ (UV (Qa wZ) wZ) Kr)))))) ?_;have hnon:isNon (YO s.w)=s.w.isNone:=by cases s.w<;>rfl
   let c10:Bool:=s.w.isNone&&decide ((s.b:Int)=(cs.length:Nat))
   refine Kh (Z1:=[S0,S1,S2,S3,O (.own (L.map Kl)),S5,S6,S7,S8,S9,pb (.bool c10),yI]) (KM (PY (t:=s.w.isNone) (u:=decide ((s.b:Int)=(cs.length:Nat))) (by rw[←hnon];exact KS (UO wZ)) λ_=>KS (Ye wZ (UO wZ) XI)) (Qa wZ) wZ) ?_;have hrd:oIx (.list (Xq T (cs.length+1))) (.int (s.b:Nat))=O (Xp (ZT T s.b (cs.length+1))):=K0 (by rw[Qd,QM hab.2];rfl)
   have hnext:∀(L':ym),(∀us∈L,us∈L')->(VM T s.b s.a->¬(s.w=w4/\s.b=cs.length)->∃us∈L',∃w,Path T s.b w s.a/\(s.b::w.map Stp.b).Nodup/\Wh cs.length ws (s::w) us)->∀x∈T.take (j+1),VM T x.b x.a->¬(x.w=w4/\x.b=cs.length)->∃us∈L',∃w,Path T x.b w x.a/\(x.b::w.map Stp.b).Nodup/\Wh cs.length ws (x::w) us:=λL' hsub hn x hx=>by
    rw[List.take_add_one,hs]at hx;rcases QI.mp hx with hx|hx
    .intro h1 h2
     obtain⟨us,h3,h4⟩:=hsh x hx h1 h2;exact⟨us,hsub us h3,h4⟩
    .have:x=s:=by simpa using hx
     subst this;exact hn
   have hkey:=Tp (q:=s.b) (p:=s.a) y8 (JK _);by_cases c:Ko (ZT T s.b (cs.length+1)) s.a=w5/\c10=w6
   .obtain⟨c1,c2⟩:=c
    have kR:=(Oo T s.b (cs.length+1)).1;have hm:=Om c1;have zI:=kR.pth _ hm;have hnw:=kR.nd _ hm;have zX:=Gp y8 hab.2 kR _ hm;generalize hw0:Wd (ZT T s.b (cs.length+1)) s.a=w at hm zI hnw zX;have zI:Path T s.b w s.a:=zI;have hnw:(s.b::w.map Stp.b).Nodup:=hnw;have zX:w.length<cs.length+1:=zX;obtain⟨r1,r2⟩:=EI hsT zI hnw;have hadd:U8 (.list [U2 s]) (.list (w.map U2))=O (.list ((s::w).map U2)):=by rw[XH (by rw[Qb,QU];lia)];rfl
    have hget:=Gr c1;rw[hw0]at hget;obtain⟨b,y0,ak,zj⟩:=EJ (n:=cs.length) (r:=s::w) (by rw[Qz];lia)
    have hall:∀p∈(rot b (s::w)).filterMap (XE cs.length),p.1<ws.length:=λp hpm=>by
     obtain⟨x,hx,e⟩:=Jq.mp hpm;have hxr:x∈s::w:=(Rf b (s::w)).mem_iff.mp hx;cases hTs x (r1.mem x hxr)with
     |@mv i o o' hw' _ _=>cases e;exact(Qg.mp hw').1
     |left _ _=>cases e
     |give _=>cases e
    have zr:=Fq hall;rw[Op]at zr;generalize hus:(rot b (s::w)).foldl (app cs.length) ws=us at zr;have yG:Wh cs.length ws (s::w) us:=⟨b,hus.symm⟩;have aj:=ji hp hd hT r1 r2 yG;refine KU (b:=w5) (R3 (by rw[←c1];exact Ye wZ (Ky wZ (UO wZ) hrd) WP) ((XB (t:=c10) (Wf (UO wZ))).trans (Ub (λb=>Res.ok b _) (by rw[c2];rfl)))) (λ_=>?_) λz=>by cases z
    refine Kh (Z1:=[S0,S1,S2,S3,O (.own (L.map Kl)),S5,S6,S7,S8,S9,pb (.bool c10),pb (Kl us)]) (KM (Kj (UQ (UO wZ) (UQ (Kj (UQ (UO wZ) (UQ (U9 (Zz (UQ (UO wZ) UX) (Qa wZ)) (U9 (Ky wZ (UO wZ) hrd) (UO wZ) hget) hadd) UX)) wZ zj) UX)) wZ zr) (Qa wZ) wZ) ?_;obtain⟨bb,hnin,hnb⟩:=jj us L;refine KU (b:=bb) (NH (UO wZ) wZ hnin) (λ_=>?_) λhb0=>?_
    .have e:(L++[us]).map Kl=L.map Kl++[Kl us]:=by rw[Qy];rfl
     refine YI (WN wZ (UO wZ) wZ (by rw[Qb];lia) wZ) (Zf ⟨L++[us],S5,S6,S7,S8,S9,_,_,by rw[e];rfl,Q9 _ hw,by rw[Qk,QU];lia,λv hv=>?_,?_⟩)
     .rcases QI.mp hv with hv|hv
      .exact hb v hv
      .cases Qu.mp hv;exact aj
     .exact hnext _ (λv hv=>Q9 _ hv) λ_ _=>⟨us,QJ _ (Qu.mpr wZ),w,zI,hnw,yG⟩
    .exact Ze (Zf ⟨L,S5,S6,S7,S8,S9,_,_,rfl,hw,by lia,hb,hnext _ (λv hv=>hv) λ_ _=>⟨us,hnb hb0,w,zI,hnw,yG⟩⟩)
   .have hf:(ZW (Zi ZN 6 (U1 2 (UM 7))) (K4 (Yu (UM 10)))) [S0,S1,S2,S3,O (.own (L.map Kl)),S5,S6,S7,S8,S9,pb (.bool c10),yI]=.ok w6 [S0,S1,S2,S3,O (.own (L.map Kl)),S5,S6,S7,S8,S9,pb (.bool c10),yI]:=by
     cases c1:Ko (ZT T s.b (cs.length+1)) s.a with
     |false=>exact No (by rw[←c1];exact Ye wZ (Ky wZ (UO wZ) hrd) WP)
     |true=>
      have c2:c10=w5:=by
       cases c2:c10 with
       |true=>rfl
       |false=>exact absurd ⟨c1,c2⟩ c
      exact R3 (by rw[←c1];exact Ye wZ (Ky wZ (UO wZ) hrd) WP) ((XB (t:=c10) (Wf (UO wZ))).trans (Ub (λb=>Res.ok b _) (by rw[c2];rfl)))
    refine KU (b:=w6) hf (λz=>by cases z) λ_=>Ze (Zf ⟨L,S5,S6,S7,S8,S9,_,_,rfl,hw,by lia,hb,hnext _ (λv hv=>hv) λh1 h2=>?_⟩)
    refine absurd ⟨hkey.mpr h1,?_⟩ c;cases c2:c10 with
    |false=>rfl
    |true=>obtain⟨d1,d2⟩:=JX.mp c2;exact absurd ⟨by simpa using d1,by have:=of_decide_eq_true d2;lia⟩ h2
  case hend=>rintro Z ⟨L,x5,x6,x7,x8,x9,yL,yI,rfl,hw,hL,hb,hsh⟩;rw[Qb]at hL hsh;rw[JF]at hsh;exact Zc (KB (YY rfl rfl) ⟨_,rfl,L,rfl,hw,hL,hb,hsh⟩)
 obtain⟨d,h1,L,rfl,h2,h3,h4,h5⟩:=main;exact⟨L,h1,h2,h3,h4,h5⟩
structure WebQ(cs:w8)(f:Int×Int->Int)(qs:LP)(m:Nat)(ws:LO)(T:List Stp)(as ps:w8)(L:ym):Prop where
 dl:K7 cs qs m ws
 st:VT cs f qs ws
 tt:T=Yw (ZS cs f qs ws) (prW cs f qs ws)
 ea:as=W9 m (λq=>((cs.length+1:Nat):Int)*f q) (KE T (prW cs f qs ws) cs.length) qs
 ep:ps=(Ux cs.length).map (KE T (prW cs f qs ws) cs.length)
 ok:OkP cs.length m (λa b=>f (a,b)) qs ((cs.length+1:Nat):Int) as ps
 cl:Wl cs as ps=((cs.length+1:Nat):Int)*Ka f 0 ws
 len:L.length<=62
 fst:ws∈L
 best:∀us∈L,K7 cs qs m us/\Ka f 0 us=Ka f 0 ws
 shw:∀s∈T,VM T s.b s.a->¬(s.w=w4/\s.b=cs.length)->∃us∈L,∃w,Path T s.b w s.a/\(s.b::w.map Stp.b).Nodup/\Wh cs.length ws (s::w) us
theorem jh{o:Ord}{old:yh}{ts:w8}(g:Good cs ls)(ga:ZU cs.length ls.length old ts):∃ws T as ps L,Vl [Kp cs ls,KZ o old ts]=O (.tuple [Y1 ((cs.length+1:Nat):Int) as ps,.list (L.map Kl)])/\WebQ cs (UW (Kd ls o old ts)) (U3 0 ls) ls.length ws T as ps L:=by
 have c6:=g.c6;have l7:=g.l7;have hp:=WU g;have hq:=LV g;obtain⟨M,yR,hM,hF⟩:∃M:Int,0<=M/\(∀q∈U3 0 ls,UW (Kd ls o old ts) q<=M)/\ls.length*M<10 ^ 60:=⟨18446744073709551616,by decide,λq hq=>by have:=GB (o:=o) g ga hq;show Kd ls o old ts q.1 q.2<=_;lia,by lia⟩
 obtain⟨d,hbb,ws,rfl,hd,st⟩:=ED (V:=Kd ls o old ts) g hp (by lia) yR hM hF;have hS:∀s∈ZS cs (UW (Kd ls o old ts)) (U3 0 ls) ws,s.a<cs.length+1/\s.b<cs.length+1:=λs hs=>(Xs hp hd s hs).lt hp hd;have vn:=(R7 (V:=prW cs (UW (Kd ls o old ts)) (U3 0 ls) ws) hp hd (Xs hp hd) (Tr hp hd) (λp=>rfl) st).2;have has:YD [Kp cs ls,.list ((U3 0 ls).map (Zt (Kd ls o old ts))),Kl ws]=O (.list ((ZS cs (UW (Kd ls o old ts)) (U3 0 ls) ws).map U2)):=MJ g hd.len (by rw[hd.len];exact hp) (by rw[hd.len];exact hd) (by lia)
 have hdl:=hd.len;have hal:=ko (f:=UW (Kd ls o old ts)) (ws:=ws) (cs:=cs) (qs:=U3 0 ls);have hti:=qN hS vn (by lia) (by lia);generalize hT:Yw (ZS cs (UW (Kd ls o old ts)) (U3 0 ls) ws) (prW cs (UW (Kd ls o old ts)) (U3 0 ls) ws)=T at hti;have y8:T.length<=61:=by rw[←hT];exact QN (Ju _ _) (by lia)
 have hTs:∀s∈T,s.a<cs.length+1/\s.b<cs.length+1:=λs hs=>by rw[←hT]at hs;exact hS s (QK.mp hs).1
 obtain⟨L,hsh,h1,h2,h3,h4⟩:=qL g hp hd hT.symm (by lia);obtain⟨ok,cl⟩:=jk hp hd st hT.symm;have zm:=v6 (n:=cs.length+1) hTs (by lia);refine⟨ws,T,_,_,L,?_,hd,st,hT.symm,rfl,rfl,ok,cl,by lia,h1,h3,h4⟩;refine KY  rfl ?_;unfold TN;refine Kh (KM (Kj (UQ (UO wZ) (UQ (UO wZ) UX)) wZ (MM g ga)) (Qa wZ) wZ) ?_;refine Kh (KM (Kj (UQ (UO wZ) (UQ (UO wZ) UX)) wZ hbb) (Qa wZ) wZ) ?_;refine Kh (KM (Kj (UQ (UO wZ) (UQ (UO wZ) (UQ (UO wZ) UX))) wZ (Fn g hp hd (by lia))) (Qa wZ) wZ) ?_;refine Kh (KM (Kj (UQ (Kj (UQ (UO wZ) (UQ (UO wZ) (UQ (UO wZ) UX))) wZ has) (UQ (UO wZ) UX)) wZ hti) (Qa wZ) wZ) ?_;have yP:Kk [.list (((Ux cs.length).map (prW cs (UW (Kd ls o old ts)) (U3 0 ls) ws)).map int)]=O (.int (cs.length:Nat)):=by rw[Zy,Qb,Qb,Qo]
 have hld:Kk [Kl ws]=O (.int (ls.length:Nat)):=by unfold Kl;rw[Zy,Qb,hd.len]
 refine Kh (KM (Kj (UQ (U9 (ZP wZ yP) U0 Zj) (UQ (UO wZ) UX)) wZ zm) (Qa wZ) wZ) ?_;exact KB (Yi (UQ (Kj (UQ (ZP wZ hld) (UQ (UO wZ) (UQ (UO wZ) (UQ (UO wZ) UX)))) wZ (wR hp (by lia) (by lia) (by lia))) (UQ (Kj (UQ (UO wZ) (UQ (UO wZ) (UQ (UO wZ) UX))) wZ hsh) UX)) (Qa wZ)) wZ
end
noncomputable def YK(f:Int×Int->Int)(qs:LP)(tm:Int)(as ps:w8):LP:=qs.filter λq=>decide (as.getD q.1.toNat 0+ps.getD q.2.toNat 0=tm*f q)
section
variable{cs:w8}{ls:List (List w8)}{o:Ord}{old:yh}{ts:w8}{tm:Int}{as ps:w8}{ws:LO}
theorem Bd{q:Int×Int}{L:LP}:oIn (U4 q) (.list (L.map U4))=O (decide (q∈L)):=by
 have hlq:∀q:Int×Int,(U4 q).canLay0=w5:=λq=>rfl;have hlay:UD (L.map U4)=w5:=Ta λx hx=>by obtain⟨y,_,rfl⟩:=Qn.mp hx;rfl
 show(if(U4 q).canLay0=w5/\UD (L.map U4)=w5/\(U4 q).depth<=60 then O ((L.map U4).any λy=>UF y (U4 q))else w4)=_
 rw[if_pos ⟨rfl,hlay,by show(PyData.tuple [.int q.1,.int q.2]).depth<=60;simp[UE,PyData.depthAll]⟩]
 congr 1
 have e:∀p:Int×Int,UF (U4 p) (U4 q)=decide (p=q):=λp=>by
  show(p.1==q.1&&(p.2==q.2&&w5))=_
  obtain⟨a,b⟩:=p;obtain⟨c,d⟩:=q;by_cases h1:a=c<;>by_cases h2:b=d<;>simp[h1,h2]
 rw[Jr,List.any_eq_true,QY];constructor
 .rintro⟨y,hy,h⟩
  obtain⟨p,hp,rfl⟩:=Qn.mp hy;rw[e]at h;rw[←Qa h];exact hp
 .intro h
  exact⟨U4 q,List.mem_map.mpr ⟨q,h,rfl⟩,by rw[e];simp⟩
end
theorem MF{α:Type}{p q}:∀{l:List α},(∀x∈l,p x=w5->q x=w5)->l.countP q=l.countP p->∀x∈l,q x=w5->p x=w5
 |[],_,_,x,hx,_=>by simp_all
 |a::l,h,e,x,hx,hq=>by
  have h':=λy hy=>h y (Qi _ hy);have le:=List.countP_mono_left h';rw[List.countP_cons,List.countP_cons]at e;have ha:=h a Qj
  cases cp:p a with
  |true=>
   rw[cp,ha cp]at e;rcases QE.mp hx with rfl|hx
   .exact cp
   .exact MF h' (by lia) x hx hq
  |false=>
   rw[cp]at e;cases cq:q a with
   |true=>rw[cq]at e;simp at e;lia
   |false=>
    rw[cq]at e;rcases QE.mp hx with rfl|hx
    .lia
    .exact MF h' (by simpa using e) x hx hq
theorem jg{S:List Stp}{V:Nat->Int}{n:Nat}(hS:∀s∈S,s.a<n+1/\s.b<n+1)(st:∀s∈S,V s.a+s.g<=V s.b){s:Stp}(hs:s∈S)(e:KE (Yw S V) V n s.a+((n+1:Nat):Int)*s.g=KE (Yw S V) V n s.b):s∈Yw S V/\VM (Yw S V) s.b s.a:=by
 have hT:∀s∈Yw S V,s.a<n+1/\s.b<n+1:=λs h=>hS s (QK.mp h).1;have h1:=st s hs;have hab:=hS s hs;have self:Ko _ s.b=w5:=(Tp hT (JK _)).mpr ⟨[],.nil _⟩;have lb:0<ZH (Yw S V) (n+1) s.b:=List.countP_pos_iff.mpr ⟨s.b,QZ.mpr hab.2,self⟩;unfold KE at e
 by_cases c:V s.a+s.g=V s.b
 .have hm:s∈Yw S V:=QK.mpr ⟨hs,QW c⟩
  rw[←c,Int.mul_add]at e;have le:ZH (Yw S V) (n+1) s.b=ZH (Yw S V) (n+1) s.a:=by lia
  refine⟨hm,?_⟩;have:=MF   (l:=Ux (n+1)) (λq _ h=>by obtain⟨w,hw⟩:=(Tp hT (JK _)).mp h;exact(Tp hT (JK _)).mpr ⟨_,hw.append (.cons hm (.nil _))⟩) le s.b (QZ.mpr hab.2) self;exact(Tp hT (JK _)).mp this
 .have l1:=Lf (Yw S V) (n+1) s.a
  have h2:((n+1:Nat):Int)*(V s.a+s.g+1)<=((n+1:Nat):Int)*V s.b:=Int.mul_le_mul_of_nonneg_left (by lia) (by lia)
  lia
section
variable{cs:w8}{f:Int×Int->Int}{qs:LP}{m:Nat}{ws us:LO}{T:List Stp}{as ps:w8}{L:ym}
theorem Fk{α β:Type}{f:α->β}:∀{l:List α},(l.map f).Nodup->∀{x y},x∈l->y∈l->f x=f y->x=y
 |a::l,h,x,y,hx,hy,e=>by
  rw[Qt,JQ]at h;rcases QE.mp hx with h1|h1<;>rcases QE.mp hy with h2|h2
  .simp_all
  .exact absurd (Qn.mpr ⟨y,h2,by rw[←e,h1]⟩) h.1
  .exact absurd (Qn.mpr ⟨x,h1,by rw[e,h2]⟩) h.1
  .exact Fk h.2 h1 h2 e
theorem Fj  {i}:∀(R:List Stp)(d),(∀s∈R,s.w≠O i)->(R.foldl (app n) d)[i]?=d[i]?
 |[],d,_=>rfl
 |s::R,d,h=>by
  rw[Jw,Fj R _ λx hx=>h x (Qi _ hx)];unfold app;cases hw:s.w with
  |none=>rfl
  |some j=>rw[Qr λz=>h s Qj (by rw[hw,z])]
theorem LR  : ∀(R:List Stp)(d),(R.foldl (app n) d).length=d.length
 |[],d=>rfl
 |s::R,d=>by
  rw[Jw,LR R];unfold app;cases s.w with
  |none=>rfl
  |some j=>exact QS
theorem Le  {i}:∀(R:List Stp)(d)(s),s∈R->s.w=O i->(∀x∈R,x.w=O i->x=s)->i<d.length->(R.foldl (app n) d)[i]?=O (ZD n s.b)
 |x::R,d,s,hs,hw,hu,hi=>by
  rw[Jw];by_cases c:s∈R
  .exact Le R _ s c hw (λy hy=>hu y (Qi _ hy)) (by have:=LR (n:=n) [x] d;rw[Jw,List.foldl_nil]at this;lia)
  .have hx:x=s:=by
    rcases QE.mp hs with h|h
    .exact h.symm
    .exact absurd h c
   subst hx;rw[Fj R _ λy hy z=>c (by rw[←hu y (Qi _ hy) z];exact hy)];unfold app;rw[hw];exact QG hi
theorem LQ(hp:K2 cs.length m qs)(hd:K7 cs qs m ws){r}(hr:∀s∈r,IsSt cs f qs ws s)(hn:(r.map Stp.a).Nodup)(h:Wh cs.length ws r us){s}(hs:s∈r){i}(hw:s.w=O i):us[i]?=O (ZD cs.length s.b):=by
 obtain⟨b,rfl⟩:=h;have pr:=Rf b r
 have ai:∀x∈r,∀j,x.w=O j->j<ws.length/\x.a=plF cs.length (ws.getD j w4):=λx hx j e=>by
  cases hr x hx with
  |@mv i o o' h1 _ _=>cases e;exact⟨(Qg.mp h1).1,by rw[N5 h1]⟩
  |left _ _=>cases e
  |give _=>cases e
 refine Le _ ws s (pr.mem_iff.mpr hs) hw (λx hx hxw=>?_) (ai s hs i hw).1;have hx:=pr.mem_iff.mp hx;have e   :=(ai x hx i hxw).2.trans (ai s hs i hw).2.symm;exact Fk hn hx hs e
theorem Ld   (hw:s.w=w4)(hb:s.b=t):∀R:List Stp,s∈R->nIn t R<(R.map Stp.b).count t
 |x::R,hs=>by
  have le:=OY t R;rw[Qt,JT];by_cases c:s∈R
  .have ih:=Ld hw hb R c
   unfold nIn at ih⊢;rw[List.filter_cons];split
   .simp_all
   .lia
  .have hx:x=s:=by
    rcases QE.mp hs with h|h
    .exact h.symm
    .exact absurd h c
   subst hx;unfold nIn at le⊢;rw[List.filter_cons_of_neg (by rw[hw];simp),if_pos (by rw[hb];simp)]
   lia
theorem jf(hp:K2 cs.length m qs)(hd:K7 cs qs m ws){r:List Stp}(hr:∀s∈r,IsSt cs f qs ws s)(hn:(r.map Stp.a).Nodup)(hb:(r.map Stp.b).Perm (r.map Stp.a))(h:Wh cs.length ws r us){s:Stp}(hs:s∈r)(hw:s.w=w4){k:Nat}(hk:k<cs.length)(hsb:s.b=k):((us.count (O (k:Int)):Nat):Int)<cs.getD k 0:=by
 obtain⟨b,rfl⟩:=h;have pr:=Rf b r;have hR   :=λs hs=>hr s (pr.mem_iff.mp hs);have hnR   :=(pr.map Stp.a).nodup_iff.mpr hn;have hbR   :=((pr.map Stp.b).trans hb).trans (pr.map Stp.a).symm
 obtain⟨k1,k2,k3,k4⟩:=R8 hp hd (rot b r) ws hR hnR (λs hs i e=>rfl) wZ hd.wish;rw[k4 k hk];have hc:cs[k]?=O (cs.getD k 0):=by rw[Qh,Qe hk];rfl
 have h0:=hd.cop k _ hc;have h1   :=List.nodup_iff_count.mp hnR k;have h2:=Ld hw hsb (rot b r) (pr.mem_iff.mpr hs);rw[hbR.count_eq]at h2;have hmem:k∈(rot b r).map Stp.a:=List.count_pos_iff.mp (by lia);obtain⟨x,hx,hxt⟩:=Qn.mp hmem;cases hR x hx with
 |@mv i o o' h hne zH=>
  have:1<=Xe k (rot b r):=by unfold Xe;exact List.length_pos_iff.mpr (List.ne_nil_of_mem (List.mem_filter.mpr ⟨hx,by simpa using hxt⟩))
  lia
 |@left u c' h hl=>
  have hxt:u=k:=hxt;subst hxt;rw[h]at hc;cases hc
  lia
 |@give u h=>
  lia
theorem Pw(wq:WebQ cs f qs m ws T as ps L){k}(hk:k<cs.length):ps.getD k 0=KE T (prW cs f qs ws) cs.length k:=by rw[wq.ep,Qh,Qd,QM hk];rfl
theorem ME(hp:K2 cs.length m qs)(wq:WebQ cs f qs m ws T as ps L):KE T (prW cs f qs ws) cs.length cs.length=0:=by have vn:=(R7 (V:=prW cs f qs ws) hp wq.dl (Xs hp wq.dl) (Tr hp wq.dl) (λp=>rfl) wq.st).2;unfold KE;simp_all
theorem Fi(hp:K2 cs.length m qs)(wq:WebQ cs f qs m ws T as ps L):OU cs f ((cs.length+1:Nat):Int) as ps ws:=(Fm hp wq.dl wq.ok).2.mp wq.cl.symm
theorem NY(hp:K2 cs.length m qs)(wq:WebQ cs f qs m ws T as ps L){s:Stp}(hs:IsSt cs f qs ws s)(e:KE T (prW cs f qs ws) cs.length s.a+((cs.length+1:Nat):Int)*s.g=KE T (prW cs f qs ws) cs.length s.b)(hl:¬(s.w=w4/\s.b=cs.length)):∃us∈L,∃r,s∈r/\(∀x∈r,IsSt cs f qs ws x)/\(r.map Stp.a).Nodup/\(r.map Stp.b).Perm (r.map Stp.a)/\Wh cs.length ws r us:=by
 obtain⟨st,vn⟩:=R7  hp wq.dl (Xs hp wq.dl) (Tr hp wq.dl) (λp=>rfl) wq.st;have hS:∀s∈ZS cs f qs ws,s.a<cs.length+1/\s.b<cs.length+1:=λs hs=>(Xs hp wq.dl s hs).lt hp wq.dl;rw[wq.tt]at e
 obtain⟨h1,h2⟩:=jg hS st (Tr hp wq.dl s hs) e;rw[←wq.tt]at h1 h2;obtain⟨us,hu,w,p1,p2,p3⟩:=wq.shw s h1 h2 hl;obtain⟨r1,r2⟩:=EI h1 p1 p2;refine⟨us,hu,s::w,Qj,λx hx=>?_,r2,Mt r1,p3⟩;have:=r1.mem x hx;rw[wq.tt]at this;exact Xs hp wq.dl x (QK.mp this).1
theorem je{n:Nat}{t:Int}(h0:0<=t)(h1:t<n):ZD n t.toNat=O t:=by
 unfold ZD;rw[Qw (by omega)]
 congr 1
 omega
theorem Fh(hp:K2 cs.length m qs)(wq:WebQ cs f qs m ws T as ps L){i:Nat}{t:Int}(hq:((i:Int),t)∈qs)(e:((cs.length+1:Nat):Int)*f ((i:Int),t)=as.getD i 0+ps.getD t.toNat 0):∃us∈L,us[i]?=O (O t):=by
 have hb:=hp.lo _ hq;have yo:i<ws.length:=by rw[wq.dl.len];have:=hb.2.1;omega
 have hw:ws[i]?=O ws[i]:=Qe yo;generalize ws[i]=o at hw;have tw:=Fi hp wq;by_cases c:o=O t
 .exact⟨ws,wq.fst,by rw[hw,c]⟩
 .have hs:IsSt cs f qs ws ⟨plF cs.length o,plF cs.length (O t),Kg f i (O t)-Kg f i o,O i⟩:=.mv hw (λz=>c z.symm) λu e=>by cases e;exact hq
  have hpt:=Pw wq (k:=t.toNat) (by have:=hb.2.2;omega)
  have he:KE T (prW cs f qs ws) cs.length (plF cs.length o)+((cs.length+1:Nat):Int)*(f ((i:Int),t)-Kg f i o)=KE T (prW cs f qs ws) cs.length t.toNat:=by
   rw[←hpt,Int.mul_sub];cases o with
   |none=>have h1:=tw.non i hw;have h2:=ME hp wq;show KE T (prW cs f qs ws) cs.length cs.length+(_-((cs.length+1:Nat):Int)*0)=_;rw[h2,Ue];omega
   |some u=>have h1:=tw.got i u hw;have hu:=hp.lo _ (wq.dl.wish i u hw);have h2:=Pw wq (k:=u.toNat) (by have:=hu.2.2;omega);show KE T (prW cs f qs ws) cs.length u.toNat+(_-((cs.length+1:Nat):Int)*f ((i:Int),u))=_;omega
  obtain⟨us,hu,r,r1,r2,r3,_,r4⟩:=NY hp wq hs he (λz=>by cases z.1);refine⟨us,hu,?_⟩;rw[LQ hp wq.dl r2 r3 r4 r1 wZ];show O (ZD cs.length t.toNat)=_;rw[je hb.2.2.1 hb.2.2.2]
theorem EB(hp:K2 cs.length m qs)(wq:WebQ cs f qs m ws T as ps L){i:Nat}(hi:i<m)(e:as.getD i 0=0):∃us∈L,us[i]?=O w4:=by
 have yo:i<ws.length:=by rw[wq.dl.len];exact hi
 have hw   :=Qe yo;generalize ws[i]=o at hw;have tw:=Fi hp wq;cases o with
 |none=>exact⟨ws,wq.fst,hw⟩
 |some u=>
  have hs:IsSt cs f qs ws ⟨plF cs.length (O u),plF cs.length w4,Kg f i w4-Kg f i (O u),O i⟩:=.mv hw (λz=>by cases z) λu e=>by cases e
  have h1:=tw.got i u hw;have hu:=hp.lo _ (wq.dl.wish i u hw);have h2:=Pw wq (k:=u.toNat) (by lia);have h3:=ME hp wq;have he:KE T (prW cs f qs ws) cs.length u.toNat+((cs.length+1:Nat):Int)*(0-f ((i:Int),u))=KE T (prW cs f qs ws) cs.length cs.length:=by rw[h3,←h2,Int.mul_sub,Ue];omega
  obtain⟨us,hu,r,r1,r2,r3,_,r4⟩:=NY hp wq hs he (λz=>by cases z.1);refine⟨us,hu,?_⟩;rw[LQ hp wq.dl r2 r3 r4 r1 wZ];show O (ZD cs.length cs.length)=_;unfold ZD;rw[Qp wZ]
theorem xH(hp:K2 cs.length m qs)(wq:WebQ cs f qs m ws T as ps L){k}(hk:k<cs.length)(e:ps.getD k 0=0):∃us∈L,((us.count (O (k:Int)):Nat):Int)<cs.getD k 0:=by
 have h2:=Pw wq hk;have h3:=ME hp wq;have he:KE T (prW cs f qs ws) cs.length cs.length+((cs.length+1))*0=KE T (prW cs f qs ws) cs.length k:=by rw[h3,←h2,e];rfl
 obtain⟨us,hu,r,r1,r2,r3,r5,r4⟩:=NY hp wq (.give hk) he (λz=>by lia);exact⟨us,hu,jf hp wq.dl r2 r3 r5 r4 r1 wZ hk wZ⟩
structure Yk(cs:w8)(f:Int×Int->Int)(qs:LP)(m:Nat)(us:LO):Prop where
 dl:K7 cs qs m us
 mx:∀vs,K7 cs qs m vs->Ka f 0 vs<=Ka f 0 us
theorem NX(hp:K2 cs.length m qs)(wq:WebQ cs f qs m ws T as ps L):Yk cs f qs m ws:=⟨wq.dl,λvs hv=>EC hp wq.dl wq.st hv⟩
theorem Ms(hp:K2 cs.length m qs)(wq:WebQ cs f qs m ws T as ps L)(h:Yk cs f qs m us):OU cs f ((cs.length+1:Nat):Int) as ps us:=by refine(Fm hp h.dl wq.ok).2.mp ?_;have h1:=h.mx ws wq.dl;have h2:=(NX hp wq).mx us h.dl;rw[wq.cl,JR h1 h2]
theorem Ol(hp:K2 cs.length m qs)(wq:WebQ cs f qs m ws T as ps L)(h:us∈L):Yk cs f qs m us:=by obtain⟨h1,h2⟩:=wq.best us h;exact⟨h1,λvs hv=>by rw[h2];exact(NX hp wq).mx vs hv⟩
theorem LN(hp:K2 cs.length m qs)(wq:WebQ cs f qs m ws T as ps L){i:Nat}{t:Int}(hq:((i:Int),t)∈qs):as.getD i 0+ps.getD t.toNat 0=((cs.length+1:Nat):Int)*f ((i:Int),t) ↔ ∃us,Yk cs f qs m us/\us[i]?=O (O t):=
 ⟨λe=>let ⟨us,h1,h2⟩:=Fh hp wq hq e.symm;⟨us,Ol hp wq h1,h2⟩,λ⟨us,h1,h2⟩=>((Ms hp wq h1).got i t h2).symm⟩
theorem NW(hp:K2 cs.length m qs)(wq:WebQ cs f qs m ws T as ps L){i}(hi:i<m):as.getD i 0=0 ↔ ∃us,Yk cs f qs m us/\us[i]?=O w4:=
 ⟨λe=>let ⟨us,h1,h2⟩:=EB hp wq hi e;⟨us,Ol hp wq h1,h2⟩,λ⟨us,h1,h2⟩=>(Ms hp wq h1).non i h2⟩
theorem Go(hp:K2 cs.length m qs)(wq:WebQ cs f qs m ws T as ps L){k}(hk:k<cs.length):ps.getD k 0=0 ↔ ∃us,Yk cs f qs m us/\((us.count (O (k:Int)):Nat):Int)<cs.getD k 0:=
 ⟨λe=>let ⟨us,h1,h2⟩:=xH hp wq hk e;⟨us,Ol hp wq h1,h2⟩,λ⟨us,h1,h2⟩=>by
  rcases(Ms hp wq h1).all k hk with z|z
  .exact z
  .lia⟩
end
noncomputable def K3(xs:w8):w8:=((Ux xs.length).filter λi=>decide (0<xs.getD i 0)).map λi:Nat=>(i:Int)
theorem jd{xs:w8}(hl:xs.length<=1000){Z:US}(h:∃x,Z=[x,w4,w4]):Zb (gT 2 (gNC (gN 1) (gNC (gN 2) gN0))) (Zi (oIB λi j=>decide (j<i)) 2 (UT (.int 0))) (UM 1) (Yc 0 (xs.map int)) Z []=O ((K3 xs).map int):=by
 have e:Yc 0 (xs.map int)=(Ux xs.length).map λi=>PyData.tuple [.int (i:Nat),.int (xs.getD i 0)]:=by
  apply Jp;intro i;rw[Oj,Qd,Qd,QO];by_cases c:i<xs.length
  .rw[QM c]
   show Option.map _ (Option.map _ xs[i]?)=O (PyData.tuple [.int (i:Nat),.int (xs.getD i 0)]);rw[Qh,Qe c];rfl
  .rw[QT (by lia),QT  (by rw[Qo];lia)]
   rfl
 rw[e];have h:∃x y z,Z=[x,y,z]:=let ⟨x,e⟩:=h;⟨x,_,_,e⟩
 refine(Xw _ _ (λi:Nat=>int (i:Nat)) (λZ=>∃x y z,Z=[x,y,z]) (Ux xs.length) _ [] ?_ h (by rw[Qx,Qo];lia)).trans (by rw[QR];unfold K3;rw[Jb];rfl);rintro i hi Z ⟨x,y,z,rfl⟩;exact⟨[x,O _,O _],Kq wZ (UZ (UV (Qa wZ) wZ) (UZ (UV (Qa wZ) wZ) Kr)),Ye wZ U0 Ln,λ_=>UO wZ,X8 x,_,_,rfl⟩
section
variable{cs:w8}{ls:List (List w8)}{o:Ord}{old:yh}{ts:w8}{ws:LO}{T:List Stp}{as ps:w8}{L:ym}
noncomputable abbrev Yy(n:Nat)(as ps:w8)(L:ym):D:=.tuple [Y1 ((n+1:Nat):Int) as ps,.list (L.map Kl)]
end
section
variable{cs:w8}{ls:List (List w8)}{o:Ord}{old:yh}{ts:w8}{tm:Int}{as ps:w8}{ws us:LO}{L:ym}{T:List Stp}
theorem wQ(g:Good cs ls)(ga:ZU cs.length ls.length old ts)(htm:0<=tm/\tm<=1000)(hla:as.length=ls.length)(yP:ps.length=cs.length):Vm [Kp cs ls,KZ o old ts,Y1 tm as ps]=O (.list ((YK (UW (Kd ls o old ts)) (U3 0 ls) tm as ps).map U4)):=by
 have hp:=WU g;have h42:=Ng g;refine KY (Z:=[pb (Kp cs ls),pb (KZ o old ts),pb (Y1 tm as ps),w4,w4,w4,w4]) wZ ?_;unfold TQ
 let S0:Option Sl:=O (.pub (Kp cs ls))
 let S1:Option Sl:=O (.pub (KZ o old ts))
 let S2:Option Sl:=O (.pub (Y1 tm as ps))
 let S3:Option Sl:=O (.pub (.int tm))
 let S4:Option Sl:=O (.pub (.list (as.map int)))
 let S5:Option Sl:=O (.pub (.list (ps.map int)))
 let S6:Option Sl:=O (.pub (.list ((U3 0 ls).map (Zt (Kd ls o old ts)))))
 refine Kh (Z1:=[S0,S1,S2,S3,S4,S5,w4]) (XA (UO wZ) (Kq wZ (UZ (UV (Qa wZ) wZ) (UZ (UV (Qa wZ) wZ) (UZ (UV (Qa wZ) wZ) Kr))))) ?_;refine Kh (Z1:=[S0,S1,S2,S3,S4,S5,S6]) (KM (Kj (UQ (UO wZ) (UQ (UO wZ) UX)) wZ (MM g ga)) (Qa wZ) wZ) ?_;refine KB (KS (ZC (Zv (UO wZ) ZK) ((Xw (Zt (Kd ls o old ts)) (λq=>decide (as.getD q.1.toNat 0+ps.getD q.2.toNat 0=tm*UW (Kd ls o old ts) q)) U4 (λZ=>∃x y z,Z=[S0,S1,S2,S3,S4,S5,S6,x,y,z]) (U3 0 ls) _ [] ?_ ⟨w4,w4,w4,rfl⟩ (by rw[Qx];lia)).trans (by rw[QR];rfl)))) wZ;rintro q hqm Z ⟨x,y,z,rfl⟩;obtain⟨a1,a2,a3,a4⟩:=hp.lo q hqm;exact⟨_,Kq wZ (UZ (UV (Qa wZ) wZ) (UZ (UV (Qa wZ) wZ) (UZ (UV (Qa wZ) wZ) Kr))),U9 (U9 (Ky wZ (UO wZ) (Hl a1 (by lia))) (Ky wZ (UO wZ) (Hl a3 (by lia))) Zj) (U9 (UO wZ) (UO wZ) (V4 (by lia) (by lia))) XI,λ_=>Yi (UQ (UO wZ) (UQ (UO wZ) UX)) (Qa wZ),_,_,_,rfl⟩
theorem Eb(g:Good cs ls)(ga:ZU cs.length ls.length old ts)(hla:as.length=ls.length)(yP:ps.length=cs.length):XY [Kp cs ls,KZ o old ts,Yy cs.length as ps L]=O (.list ((YK (UW (Kd ls o old ts)) (U3 0 ls) ((cs.length+1:Nat):Int) as ps).map U4)):=by have c6:=g.c6;refine KY (Z:=[pb (Kp cs ls),pb (KZ o old ts),pb (Yy cs.length as ps L)]) wZ ?_;unfold TM;refine Kh (WH (Kj (UQ (UO wZ) (UQ (UO wZ) UX)) wZ (Li g ga))) ?_;exact KB (Kj (UQ (UO wZ) (UQ (UO wZ) (UQ (Ky wZ U0 (K0 (j:=0) wZ)) UX))) wZ (wQ g ga (by lia) hla yP)) wZ
noncomputable def Wb(f:Int×Int->Int)(qs:LP)(tm:Int)(as ps:w8)(L:ym):LP:=(YK f qs tm as ps).filter λq=>L.all λus=>decide (us.getD q.1.toNat w4=O q.2)
theorem Pl{f:Int×Int->Int}{qs:LP}{q:Int×Int}(h:q∈YK f qs tm as ps):q∈qs:=(QK.mp h).1
theorem Bc(g:Good cs ls)(ga:ZU cs.length ls.length old ts)(hla:as.length=ls.length)(yP:ps.length=cs.length)(hL:∀us∈L,us.length=ls.length)(hLl:L.length<=100):Vk [Kp cs ls,KZ o old ts,Yy cs.length as ps L]=O (.list ((Wb (UW (Kd ls o old ts)) (U3 0 ls) ((cs.length+1:Nat):Int) as ps L).map U4)):=by
 have hp:=WU g;have h42:=Ng g;refine KY (Z:=[pb (Kp cs ls),pb (KZ o old ts),pb (Yy cs.length as ps L),w4]) wZ ?_;unfold TL
 let S0:Option Sl:=O (.pub (Kp cs ls))
 let S1:Option Sl:=O (.pub (KZ o old ts))
 let S2:Option Sl:=O (.pub (Yy cs.length as ps L))
 let W:=YK (UW (Kd ls o old ts)) (U3 0 ls) ((cs.length+1:Nat):Int) as ps
 let S3:Option Sl:=O (.pub (.list (W.map U4)))
 have hW:W.length<=42:=QN (Ju _ _) h42;refine Kh (Z1:=[S0,S1,S2,S3]) (KM (Kj (UQ (UO wZ) (UQ (UO wZ) (UQ (UO wZ) UX))) wZ (Eb g ga hla yP)) (Qa wZ) wZ) ?_;have hw1:oIx (Yy cs.length as ps L) (.int 1)=O (.list (L.map Kl)):=K0 (j:=1) wZ;refine KB (KS (ZC (Zv (UO wZ) ZK) ((Xw U4 (λq=>L.all λus=>decide (us.getD q.1.toNat w4=O q.2)) U4 (λZ=>∃x y,Z=[S0,S1,S2,S3,x,y]) W _ [] ?_ ⟨w4,w4,rfl⟩ (by rw[Qx];lia)).trans (by rw[QR];rfl)))) wZ;rintro q hqm Z ⟨x,y,rfl⟩;obtain⟨a1,a2,a3,a4⟩:=hp.lo q (Pl hqm);refine⟨_,Kq wZ (UZ (UV (Qa wZ) wZ) (UZ (UV (Qa wZ) wZ) Kr)),Wf (Yg (UQ (KS (ZC (Zv (Ky wZ U0 hw1) ZK) ((Xw Kl (λ_=>w5) (λus=>UA (decide (us.getD q.1.toNat w4=O q.2))) (λZ=>∃x,Z=[S0,S1,S2,S3,pb (.int q.1),pb (.int q.2),x]) L _ [] ?_ ⟨w4,rfl⟩ (by rw[Qx];lia)).trans (by rw[QR,Jo.mpr (λ_ _=>rfl)])))) UX) ?_),λ_=>Yi (UQ (UO wZ) (UQ (UO wZ) UX)) (Qa wZ),_,_,rfl⟩
 .rintro us hu Z ⟨x,rfl⟩
  exact⟨_,UV (Qa wZ) wZ,rfl,λ_=>KS (U9 (Ky wZ (UO wZ) (P1 a1 (by have:=hL us hu;lia))) (UO wZ) (OW (b:=O q.2))),_,rfl⟩
 .rw[show(L.map λus=>UA (decide (us.getD q.1.toNat w4=O q.2)))=(L.map λus=>decide (us.getD q.1.toNat w4=O q.2)).map UA by rw[Jb];rfl,HE,List.all_map]
  rfl
theorem Fg{xs:w8}(hl:xs.length<=1000):X6 [.list (xs.map int)]=O (.list ((K3 xs).map int)):=by refine KY (Z:=[pb (.list (xs.map int))]) wZ ?_;unfold Sw;exact KB (KS (ZC (XJ (UQ (UO wZ) UX) XG) (jd hl ⟨_,rfl⟩))) wZ
theorem xG(hl:as.length<=1000):Vj [Yy cs.length as ps L]=O (.list ((K3 as).map int)):=by refine KY (Z:=[pb (Yy cs.length as ps L),w4,w4,w4,w4,w4]) wZ ?_;unfold TK;refine Kh (XA (UO wZ) (Kq wZ (UZ (UV (Qa wZ) wZ) (UZ (UV (Qa wZ) wZ) Kr)))) ?_;refine Kh (XA (UO wZ) (Kq wZ (UZ (UV (Qa wZ) wZ) (UZ (UV (Qa wZ) wZ) (UZ (UV (Qa wZ) wZ) Kr))))) ?_;exact KB (Kj (UQ (UO wZ) UX) wZ (Fg hl)) wZ
theorem qK(hl:ps.length<=1000):Vi [Yy cs.length as ps L]=O (.list ((K3 ps).map int)):=by refine KY (Z:=[pb (Yy cs.length as ps L),w4,w4,w4,w4,w4]) wZ ?_;unfold TJ;refine Kh (XA (UO wZ) (Kq wZ (UZ (UV (Qa wZ) wZ) (UZ (UV (Qa wZ) wZ) Kr)))) ?_;refine Kh (XA (UO wZ) (Kq wZ (UZ (UV (Qa wZ) wZ) (UZ (UV (Qa wZ) wZ) (UZ (UV (Qa wZ) wZ) Kr))))) ?_;exact KB (Kj (UQ (UO wZ) UX) wZ (Fg hl)) wZ
end
section
variable{cs:w8}{ls:List (List w8)}{o:Ord}{old:yh}{ts:w8}{tm:Int}{as ps:w8}{ws us:LO}{L:ym}{T:List Stp}{f:Int×Int->Int}{qs:LP}{m:Nat}
theorem Gn(hp:K2 cs.length m qs){q:Int×Int}(h:q∈qs):((q.1.toNat:Int),q.2)=q:=by obtain⟨a,b⟩:=q;have:=(hp.lo _ h).1;rw[Int.toNat_of_nonneg this]
theorem V8(hp:K2 cs.length m qs)(wq:WebQ cs f qs m ws T as ps L){q:Int×Int}(h:q∈qs):q∈YK f qs ((cs.length+1:Nat):Int) as ps ↔ ∃us,Yk cs f qs m us/\us[q.1.toNat]?=O (O q.2):=by have e:=Gn hp h;have k:=LN hp wq (i:=q.1.toNat) (t:=q.2) (by rw[e];exact h);rw[e]at k;rw[←k];unfold YK;rw[QK,QY];exact⟨λz=>z.2,λz=>⟨h,z⟩⟩
theorem Gm{i:Nat}{t:Int}:us.getD i w4=O t ↔ us[i]?=O (O t):=by
 rw[Qh];cases us[i]? with
 |none=>simp
 |some x=>simp
theorem Re(hp:K2 cs.length m qs)(wq:WebQ cs f qs m ws T as ps L){q:Int×Int}(h:q∈qs):q∈Wb f qs ((cs.length+1:Nat):Int) as ps L ↔ ∀us,Yk cs f qs m us->us[q.1.toNat]?=O (O q.2):=by
 have e:=Gn hp h;obtain⟨l1,l2,_,_⟩:=hp.lo q h;unfold Wb;rw[QK,Je];constructor
 .rintro⟨_,ha⟩ us hu
  have ha:∀vs∈L,vs[q.1.toNat]?=O (O q.2):=λvs hv=>Gm.mp (Qa (ha vs hv));have hl:q.1.toNat<us.length:=by rw[hu.dl.len];lia
  have hg:us[q.1.toNat]?=O us[q.1.toNat]:=Qe hl;cases hx:us[q.1.toNat]with
  |none=>rw[hx]at hg;obtain⟨vs,hv,z⟩:=EB hp wq (i:=q.1.toNat) (by lia) ((NW hp wq (by lia)).mpr ⟨us,hu,hg⟩);rw[ha vs hv]at z;cases z
  |some t=>rw[hx]at hg;have hq:=hu.dl.wish _ _ hg;obtain⟨vs,hv,z⟩:=Fh hp wq hq ((LN hp wq hq).mpr ⟨us,hu,hg⟩).symm;rw[ha vs hv]at z;cases z;exact hg
 .intro ha
  have hm:=NX hp wq;exact⟨(V8 hp wq h).mpr ⟨ws,hm,ha ws hm⟩,λvs hv=>QW (Gm.mpr (ha vs (Ol hp wq hv)))⟩
theorem LM{xs:w8}{x:Int}:x∈K3 xs ↔ ∃i:Nat,x=i/\i<xs.length/\0<xs.getD i 0:=by
 unfold K3;rw[List.mem_map];constructor
 .rintro⟨i,hi,rfl⟩
  obtain⟨h1,h2⟩:=QK.mp hi;exact⟨i,rfl,QZ.mp h1,Qa h2⟩
 .rintro⟨i,rfl,h1,h2⟩
  exact⟨i,QK.mpr ⟨QZ.mpr h1,QW h2⟩,rfl⟩
theorem LK{xs:w8}(h:∀a∈xs,0<=a)(i:Nat):0<=xs.getD i 0:=by
 rw[Qh];cases hx:xs[i]? with
 |none=>exact Ja 0
 |some a=>exact h a (Qs hx)
theorem EA(hp:K2 cs.length m qs)(wq:WebQ cs f qs m ws T as ps L){x:Int}:x∈K3 as ↔ ∃i:Nat,x=i/\i<m/\∀us,Yk cs f qs m us->us[i]?≠O w4:=by
 rw[LM,wq.ok.la];refine⟨λ⟨i,e,h1,h2⟩=>⟨i,e,h1,λus hu z=>?_⟩,λ⟨i,e,h1,h2⟩=>⟨i,e,h1,?_⟩⟩
 .have:=(NW hp wq h1).mpr ⟨us,hu,z⟩
  lia
 .have h0:=LK wq.ok.aa i
  by_cases z:as.getD i 0=0
  .obtain⟨us,hu,k⟩:=(NW hp wq h1).mp z
   exact(h2 us hu k).elim
  .lia
theorem Gk(hp:K2 cs.length m qs)(wq:WebQ cs f qs m ws T as ps L){x:Int}:x∈K3 ps ↔ ∃i:Nat,x=i/\i<cs.length/\∀us,Yk cs f qs m us->¬((us.count (O (i:Int)):Nat):Int)<cs.getD i 0:=by
 rw[LM,wq.ok.lp];refine⟨λ⟨i,e,h1,h2⟩=>⟨i,e,h1,λus hu z=>?_⟩,λ⟨i,e,h1,h2⟩=>⟨i,e,h1,?_⟩⟩
 .have:=(Go hp wq h1).mpr ⟨us,hu,z⟩
  lia
 .have h0:=LK wq.ok.pp i
  by_cases z:ps.getD i 0=0
  .obtain⟨us,hu,k⟩:=(Go hp wq h1).mp z
   exact(h2 us hu k).elim
  .lia
theorem v5{f2:Int×Int->Int}{za:LO}{T2:List Stp}{yT ps2:w8}{L2:ym}(hp:K2 cs.length m qs)(wq:WebQ cs f qs m ws T as ps L)(w2:WebQ cs f2 qs m za T2 yT ps2 L2)(h:∀us,Yk cs f2 qs m us->Yk cs f qs m us) :
  (∀q∈YK f2 qs ((cs.length+1:Nat):Int) yT ps2,q∈YK f qs ((cs.length+1:Nat):Int) as ps)/\(∀q∈Wb f qs ((cs.length+1:Nat):Int) as ps L,q∈Wb f2 qs ((cs.length+1:Nat):Int) yT ps2 L2)/\(∀x∈K3 as,x∈K3 yT)/\∀x∈K3 ps,x∈K3 ps2:=by
 refine⟨λq hq=>?_,λq hq=>?_,λx hx=>?_,λx hx=>?_⟩
 .have hm:=Pl hq
  obtain⟨us,hu,z⟩:=(V8 hp w2 hm).mp hq;exact(V8 hp wq hm).mpr ⟨us,h us hu,z⟩
 .have hm:=Pl (QK.mp hq).1
  exact(Re hp w2 hm).mpr λus hu=>(Re hp wq hm).mp hq us (h us hu)
 .obtain⟨i,e,h1,h2⟩:=(EA hp wq).mp hx
  exact(EA hp w2).mpr ⟨i,e,h1,λus hu=>h2 us (h us hu)⟩
 .obtain⟨i,e,h1,h2⟩:=(Gk hp wq).mp hx
  exact(Gk hp w2).mpr ⟨i,e,h1,λus hu=>h2 us (h us hu)⟩
end
theorem Lc:∀(xs ys:w8),xs.length=ys.length->HT.Xm xs ys=w6->HT.Xm ys xs=w6->xs=ys
 |[],[],_,_,_=>rfl
 |[],_::_,h,_,_=>by cases h
 |_::_,[],h,_,_=>by cases h
 |x::xs,y::ys,h,h1,h2=>by
  unfold HT.Xm at h1 h2
  have e:x=y:=by
   rcases Int.lt_trichotomy x y with z|z|z
   .rw[Qw (by omega),QW z]at h1;cases h1
   .exact z
   .rw[Qw (by omega),QW z]at h2;cases h2
  subst e;simp at h1 h2;rw[Lc xs ys (by simpa using h) h1 h2]
theorem Na:∀{xs ys r s:w8},xs.length=ys.length->HT.Xm (xs++r) (ys++s)=w6->HT.Xm xs ys=w6/\(xs=ys->HT.Xm r s=w6)
 |[],[],r,s,_,h=>⟨rfl,λ_=>h⟩
 |[],_::_,_,_,h,_=>by cases h
 |_::_,[],_,_,h,_=>by cases h
 |x::xs,y::ys,r,s,hl,h=>by
  have h:HT.Xm (x::(xs++r)) (y::(ys++s))=w6:=h;rw[HT.OE]at h;rw[HT.OE];by_cases e:x=y
  .rw[Qp e]at h
   rw[Qp e];obtain⟨h1,h2⟩:=Na (xs:=xs) (ys:=ys) (by simpa using hl) h;exact⟨h1,λq=>h2 (List.cons.inj q).2⟩
  .rw[Qw e]at h
   rw[Qw e];exact⟨h,λq=>absurd (List.cons.inj q).1 e⟩
section
variable{cs:w8}{ls:List (List w8)}{ws us:LO}{o:Ord}{old:yh}{ts:w8}
theorem ga0{n m:Nat}:ZU n m w4 []:=⟨λws h=>(by cases h),λws t h=>(by cases h),List.nodup_nil,λa h=>(by cases h)⟩
noncomputable abbrev whW(ls:List (List w8))(o:Ord)(old:yh)(ts:w8)(ws:LO):Int:=KQ (KJ (K8 ls o old ts) 0 ls ws)
structure OptQ(cs:w8)(ls:List (List w8))(o:Ord)(old:yh)(ts:w8)(ws:LO):Prop where
 dl:Deal cs ls ws
 mx:∀us,Deal cs ls us->whW ls o old ts us<=whW ls o old ts ws
theorem P8(g:Good cs ls)(ga:ZU cs.length ls.length old ts):∃ws d,XX [Kp cs ls,KZ o old ts]=O (.tuple [Kl ws,d])/\OptQ cs ls o old ts ws:=by obtain⟨ws,hbd,hdq,hst⟩:=wS (o:=o) g ga;have dl:=Mi hdq;refine⟨ws,_,hbd,dl,λus du=>?_⟩;have:=EC (WU g) hdq hst (N4 du);rw[Tj ls us ls 0 (λj rs h=>by rw[QO,Qh,h];rfl) du.len,Tj ls ws ls 0 (λj rs h=>by rw[QO,Qh,h];rfl) dl.len]at this;exact this
noncomputable def Tv(ls:List (List w8))(o:Ord)(old:yh)(ts:w8)(ws:LO):w8:=Yp o (Kw (lng ls) (U6 ls ws))++[(Zd old ws:Int)]++ts.map (Zx ls ws)
theorem Gj(g:Good cs ls)(dw:Deal cs ls ws)(du:Deal cs ls us)(ga:ZU cs.length ls.length old ts)(h:whW ls o old ts us<=whW ls o old ts ws):HT.Xm (Tv ls o old ts ws) (Tv ls o old ts us)=w6:=by have hb:=Mk (o:=o) g du dw ga;have h:KQ (KJ (K8 ls o old ts) 0 ls us)<=KQ (KJ (K8 ls o old ts) 0 ls ws):=h;rw[QQ (by omega)]at hb;have hk:=qX (o:=o) g du dw ga;rw[hb]at hk;exact hk
theorem Gi(g:Good cs ls)(ga:ZU cs.length ls.length old ts)(h1:OptQ cs ls o w4 [] us)(h2:OptQ cs ls o old ts ws):Kw (lng ls) (U6 ls ws)=Kw (lng ls) (U6 ls us)/\Zd old us<=Zd old ws:=by
 have k1:=Gj g h1.dl h2.dl ga0 (h1.mx ws h2.dl);have k2:=Gj g h2.dl h1.dl ga (h2.mx us h1.dl);have hl:(Yp o (Kw (lng ls) (U6 ls us))).length=(Yp o (Kw (lng ls) (U6 ls ws))).length:=GY (by rw[VZ,VZ]);unfold Tv at k1 k2;rw[Q6,Q6]at k1 k2;have c1:=(Na hl k1).1;obtain⟨c2,c3⟩:=Na hl.symm k2;have e:=Lc _ _ hl.symm c2 c1;refine⟨qT e,?_⟩;have c4:=c3 e;have c4:HT.Xm ((Zd old ws:Int)::ts.map (Zx ls ws)) ((Zd old us:Int)::ts.map (Zx ls us))=w6:=c4;rw[HT.OE]at c4;by_cases z:(Zd old ws:Int)=Zd old us
 .omega
 .rw[Qw z]at c4
  have:=Jk c4;omega
end
theorem jc{xs ys:w8}(hp:xs.Perm ys)(hy:ys.Pairwise (· <= ·)):YE xs=ys:=
 ((Wg xs).trans hp).eq_of_pairwise (le:=(· <= ·)) (λa b _ _ h1 h2=>JR h1 h2) (Oy xs) hy
section
variable{cs:w8}{ls:List (List w8)}{ws us:LO}{o:Ord}{old:yh}{ts:w8}
theorem xF(g:Good cs ls)(d1:Deal cs ls ws)(d2:Deal cs ls us)(e:Kw (lng ls) (U6 ls ws)=Kw (lng ls) (U6 ls us)):whW ls o w4 [] ws=whW ls o w4 [] us:=by
 have h1:=Mk (o:=o) g d1 d2 ga0;have h2:=Mk (o:=o) g d2 d1 ga0;rw[e]at h1 h2;have h:decide (whW ls o w4 [] us<whW ls o w4 [] ws)=decide (whW ls o w4 [] ws<whW ls o w4 [] us):=h1.symm.trans h2;by_cases z:whW ls o w4 [] us<whW ls o w4 [] ws
 .rw[QW z]at h
  have:=Qa h.symm
  lia
 .rw[QQ z]at h
  have:=Jk h.symm
  lia
theorem Gh(h:Yk cs (UW (Kd ls o old ts)) (U3 0 ls) ls.length us):OptQ cs ls o old ts us:=by have du:=Mi h.dl;refine⟨du,λvs dv=>?_⟩;have:=h.mx vs (N4 dv);rw[Tj ls us ls 0 (λj rs h=>by rw[QO,Qh,h];rfl) du.len,Tj ls vs ls 0 (λj rs h=>by rw[QO,Qh,h];rfl) dv.len]at this;exact this
theorem NV(h:OptQ cs ls o old ts us):Yk cs (UW (Kd ls o old ts)) (U3 0 ls) ls.length us:=by refine⟨N4 h.dl,λvs hv=>?_⟩;have dv:=Mi hv;rw[Tj ls us ls 0 (λj rs h=>by rw[QO,Qh,h];rfl) h.dl.len,Tj ls vs ls 0 (λj rs h=>by rw[QO,Qh,h];rfl) dv.len];exact h.mx vs dv
theorem xE(g:Good cs ls)(ga:ZU cs.length ls.length old ts)(h:Yk cs (UW (Kd ls o old ts)) (U3 0 ls) ls.length us):Yk cs (UW (Kd ls o w4 [])) (U3 0 ls) ls.length us:=by obtain⟨w0,_,_,h0⟩:=P8 (o:=o) g ga0;have hu:=Gh h;have e:=xF (o:=o) g hu.dl h0.dl (Gi g ga h0 hu).1;exact NV ⟨hu.dl,λvs dv=>by rw[e];exact h0.mx vs dv⟩
theorem LJ{p:Prop}[Decidable p](h:¬p):(!decide p)=w5:=by rw[QQ h];rfl
noncomputable def Ki(x:Int)(rs:List w8):List w8:=rs.map λr=>r.filter λt=>!decide (t=x)
theorem qJ{t x:Int}(h:t≠x)(rs:List w8):KP t (Ki x rs)=KP t rs:=by
 unfold KP Ki;rw[List.findIdx_map,Qb];have:((λr:w8=>r.contains t) ∘ λr:w8=>r.filter λt=>!decide (t=x))=λr=>r.contains t:=by funext r;rw[Function.comp,Jr,List.contains_iff_mem,List.contains_iff_mem,QK];exact⟨λz=>z.1,λz=>⟨z,by rw[QQ h];rfl⟩⟩
 rw[this]
theorem Mh(x:Int)(rs:List w8):(Ki x rs).flatten=rs.flatten.filter λt=>!decide (t=x):=by unfold Ki;rw[List.filter_flatten]
theorem vR(p:Int->Bool)(l:w8):YE (l.filter p)=(YE l).filter p:=
 jc (((Wg l).filter p).symm) ((Oy l).filter p)
theorem P7{x:Int}:∀{ls:List (List w8)}{a k:Nat}{rs:List w8},ls[a]?=O rs->U3 k (ls.set a (Ki x rs))=(U3 k ls).filter λq=>!decide (q=(((k+a:Nat):Int),x))
 |[],_,_,_,h=>by cases h
 |r0::ls,0,k,rs,h=>by
  cases h
  show(YE (Ki x r0).flatten).map _++U3 (k+1) ls=((YE r0.flatten).map _++U3 (k+1) ls).filter _
  rw[List.filter_append,List.filter_map,Mh,vR]
  congr 1
  .congr 1
   refine List.filter_congr λt _=>?_
   by_cases e:t=x
   .subst e;simp
   .rw[Function.comp,QQ e,QQ (λz=>e (Prod.mk.inj z).2)]
  .refine(Jo.mpr λq hq=>LJ λz=>?_).symm
   have:=Ob ls (k+1) q hq;rw[z]at this;have:((k+1:Nat):Int)<=((k+0:Nat):Int):=this
   lia
 |r0::ls,a+1,k,rs,h=>by
  show(YE r0.flatten).map _++U3 (k+1) (ls.set a (Ki x rs))=((YE r0.flatten).map _++U3 (k+1) ls).filter _
  rw[List.filter_append,P7 (ls:=ls) (a:=a) (k:=k+1) (by simpa using h),show k+1+a=k+(a+1)by lia]
  congr 1
  refine(Jo.mpr λq hq=>LJ λz=>?_).symm;obtain⟨t,_,rfl⟩:=Qn.mp hq;have:(k:Int)=((k+(a+1):Nat):Int):=(Prod.mk.inj z).1
  lia
structure Idle(cs:w8)(ls:List (List w8))(a:Nat)(x:Int)(rs:List w8):Prop where
 at':ls[a]?=O rs
 two:∀r∈rs,x∈r->1<r.length
variable{a:Nat}{x:Int}{rs:List w8}
theorem P6(h:ls[a]?=O rs)(i:Nat):(ls.set a (Ki x rs))[i]?=(ls[i]?).map λr=>if i=a then Ki x r else r:=by
 by_cases e:a=i
 .subst e
  rw[QG (Qg.mp h).1,h];simp
 .rw[Qr e]
  cases ls[i]? with
  |none=>rfl
  |some r=>simp[Ne.symm e]
theorem LI(h:ls[a]?=O rs):lng (ls.set a (Ki x rs))=lng ls:=by
 unfold lng
 congr 2
 refine Jp λi=>?_;rw[Qd,Qd,P6 h]
 cases ls[i]? with
 |none=>rfl
 |some r=>
  dsimp only[Option.map];by_cases e:i=a
  .rw[Qp e];unfold Ki;rw[Qb]
  .rw[Qw e]
theorem Gg(g:Good cs ls)(h:Idle cs ls a x rs):Good cs (ls.set a (Ki x rs)) where
 c1:=g.c1
 c6:=g.c6
 c7:=g.c7
 l1:=by rw[QS];exact g.l1
 l7:=by rw[QS];exact g.l7
 rk:=λr hr=>by
  rcases List.mem_or_eq_of_mem_set hr with hr|rfl
  .exact g.rk r hr
  have gr:=g.rk rs (Qs h.at');refine⟨by unfold Ki;rw[Qb];exact gr.few,λr hr=>?_,λr hr t ht=>?_,?_⟩
  .obtain⟨r0,h0,rfl⟩:=Qn.mp hr
   intro e;have hall:∀t∈r0,t=x:=λt ht=>by have:=List.filter_eq_nil_iff.mp e t ht;simpa using this
   by_cases hx:x∈r0
   .have h2:=h.two r0 h0 hx
    have nd:r0.Nodup:=(List.pairwise_flatten.mp gr.once).1 r0 h0
    have:r0.length<=1:=by
     match r0,hall,nd with
     |[],_,_=>exact JM _
     |[_],_,_=>exact Qv _
     |p::q::r,hall,nd=>have e1:=hall p Qj;have e2:=hall q (Qi _ Qj);subst e1;subst e2;exact absurd Qj (JQ.mp nd).1
    lia
   .obtain⟨t,ht⟩:=List.exists_mem_of_ne_nil r0 (gr.some r0 h0)
    exact hx (hall t ht ▸ ht)
  .obtain⟨r0,h0,rfl⟩:=Qn.mp hr
   exact gr.there r0 h0 t (QK.mp ht).1
  .rw[Mh]
   exact gr.once.filter _
end
theorem Ez{f h:Int×Int->Int}:∀(ws:LO)(k:Nat),(∀(i:Nat) t,ws[i]?=O (O t)->f (((k+i:Nat):Int),t)=h (((k+i:Nat):Int),t))->Ka f k ws=Ka h k ws
 |[],_,_=>rfl
 |o::r,k,e=>by
  have h1:=Ez r (k+1) λi t z=>by
   have w:k+(i+1)=k+1+i:=by lia
   exact w ▸ e (i+1) t (by simpa using z)
  have h2:Kg f k o=Kg h k o:=by
   cases o with
   |none=>rfl
   |some t=>exact e 0 t wZ
  show Kg f k o+Ka f (k+1) r=Kg h k o+Ka h (k+1) r;rw[h1,h2]
section
variable{cs:w8}{ls:List (List w8)}{ws us:LO}{o:Ord}{a m:Nat}{x:Int}{rs:List w8}
theorem Ge(h:ls[a]?=O rs){i:Nat}{r':List w8}{t:Int}(h1:(ls.set a (Ki x rs))[i]?=O r')(h3:t∈r'.flatten):∃r0,ls[i]?=O r0/\KP t r'=KP t r0:=by
 rw[P6 h]at h1;cases hr:ls[i]? with
 |none=>rw[hr]at h1;cases h1
 |some r0=>
 rw[hr]at h1;have e:r'=if i=a then Ki x r0 else r0:=(Q3 h1).symm
 refine⟨r0,rfl,?_⟩;rw[e];by_cases z:i=a
 .rw[Qp z]
  refine qJ (λw=>?_) r0;rw[e,Qp z,Mh]at h3;have:=(QK.mp h3).2;rw[QW w]at this;cases this
 .rw[Qw z]
theorem qI(h:ls[a]?=O rs){q:Int×Int}(hq:q∈U3 0 (ls.set a (Ki x rs))):UW (Kd (ls.set a (Ki x rs)) o w4 []) q=UW (Kd ls o w4 []) q:=by
 obtain⟨i,r',h1,h2,h3⟩:=W0 hq;obtain⟨r0,hr,zU⟩:=Ge h h1 h3;show K8 _ o w4 [] q.1.toNat ((ls.set a (Ki x rs)).getD q.1.toNat []) q.2=K8 ls o w4 [] q.1.toNat (ls.getD q.1.toNat []) q.2;have hi:q.1.toNat=i:=by lia
 rw[hi,Qh,Qh,h1,hr];show K8 _ o w4 [] i r' q.2=K8 ls o w4 [] i r0 q.2;unfold K8;rw[zU,LI h,QS]
theorem OV(h:ls[a]?=O rs){q:Int×Int}:q∈U3 0 (ls.set a (Ki x rs)) ↔ q∈U3 0 ls/\q≠((a:Int),x):=by rw[P7 h,QK,QO,Bool.not_eq_true',decide_eq_false_iff_not]
theorem P5(h:ls[a]?=O rs)(d:K7 cs (U3 0 (ls.set a (Ki x rs))) m us):Ka (UW (Kd (ls.set a (Ki x rs)) o w4 [])) 0 us=Ka (UW (Kd ls o w4 [])) 0 us:=
 Ez us 0 λi t z=>by rw[QO];exact qI h (d.wish i t z)
theorem Ff(h:ls[a]?=O rs)(d:K7 cs (U3 0 (ls.set a (Ki x rs))) m us):K7 cs (U3 0 ls) m us:=⟨d.len,λi t z=>((OV h).mp (d.wish i t z)).1,d.cop⟩
theorem Gd(h:ls[a]?=O rs)(d:K7 cs (U3 0 ls) m us)(n:us[a]?≠O (O x)):K7 cs (U3 0 (ls.set a (Ki x rs))) m us:=⟨d.len,λi t z=>(OV h).mpr ⟨d.wish i t z,λe=>by
 obtain⟨e1,e2⟩:=Prod.mk.inj e;have e1:i=a:=by lia
 subst e1;subst e2;exact n z⟩,d.cop⟩
theorem qH(g:Good cs ls)(h:ls[a]?=O rs)(no:∀us,Yk cs (UW (Kd ls o w4 [])) (U3 0 ls) ls.length us->us[a]?≠O (O x)):Yk cs (UW (Kd (ls.set a (Ki x rs)) o w4 [])) (U3 0 (ls.set a (Ki x rs))) ls.length us ↔ Yk cs (UW (Kd ls o w4 [])) (U3 0 ls) ls.length us:=by
 constructor
 .intro hu
  obtain⟨w0,_,_,h0⟩:=P8 (o:=o) g ga0;have h0:=NV h0;have d0:=Gd h h0.dl (no w0 h0);have h1:=hu.mx w0 d0;rw[P5 h d0,P5 h hu.dl]at h1;exact⟨Ff h hu.dl,λvs hv=>JL (h0.mx vs hv) h1⟩
 .intro hu
  have du:=Gd h hu.dl (no us hu);refine⟨du,λvs hv=>?_⟩;rw[P5 h hv,P5 h du];exact hu.mx vs (Ff h hv)
theorem Ea{α:Type}{l A B:List α}{p q:α->Bool}(hA:A=l.filter p)(hB:B=l.filter q)(h:∀x∈l,x∈A ↔ x∈B):A=B:=by
 subst hA;subst hB;refine List.filter_congr λx hx=>?_;have k:=h x hx;rw[QK,QK]at k;rw[Jr]
 exact⟨λz=>(k.mp ⟨hx,z⟩).2,λz=>(k.mpr ⟨hx,z⟩).2⟩
theorem Bb(g:Good cs ls)(h:Idle cs ls a x rs){T T2:List Stp}{as ps yT ps2:w8}{za:LO}{L L2:ym}(wq:WebQ cs (UW (Kd ls o w4 [])) (U3 0 ls) ls.length ws T as ps L)(w2:WebQ cs (UW (Kd (ls.set a (Ki x rs)) o w4 [])) (U3 0 (ls.set a (Ki x rs))) (ls.set a (Ki x rs)).length za T2 yT ps2 L2)(hn:((a:Int),x)∉YK (UW (Kd ls o w4 [])) (U3 0 ls) ((cs.length+1:Nat):Int) as ps) :
  YK (UW (Kd (ls.set a (Ki x rs)) o w4 [])) (U3 0 (ls.set a (Ki x rs))) ((cs.length+1:Nat):Int) yT ps2=YK (UW (Kd ls o w4 [])) (U3 0 ls) ((cs.length+1:Nat):Int) as ps /\
  Wb (UW (Kd (ls.set a (Ki x rs)) o w4 [])) (U3 0 (ls.set a (Ki x rs))) ((cs.length+1:Nat):Int) yT ps2 L2=Wb (UW (Kd ls o w4 [])) (U3 0 ls) ((cs.length+1:Nat):Int) as ps L /\
  ∀us,Yk cs (UW (Kd (ls.set a (Ki x rs)) o w4 [])) (U3 0 (ls.set a (Ki x rs))) ls.length us ↔ Yk cs (UW (Kd ls o w4 [])) (U3 0 ls) ls.length us:=by
 have hp:=WU g;have zn:=WU (Gg g h);rw[QS]at w2 zn;have no:∀us,Yk cs (UW (Kd ls o w4 [])) (U3 0 ls) ls.length us->us[a]?≠O (O x):=λus hu z=>hn ((V8 hp wq (hu.dl.wish a x z)).mpr ⟨us,hu,by rw[QP];exact z⟩)
 have md:=λus=>qH (us:=us) g h.at' no;have iq:=λq=>OV (x:=x) (q:=q) h.at'
 refine⟨Ea (l:=U3 0 ls) (p:=_) (q:=_) (by unfold YK;rw[P7 h.at',List.filter_filter]) wZ λq hq=>?_,Ea (l:=U3 0 ls) (p:=_) (q:=_) (by unfold Wb YK;rw[P7 h.at',List.filter_filter,List.filter_filter]) (by unfold Wb YK;rw[List.filter_filter]) λq hq=>?_,md⟩
 .constructor
  .intro z
   obtain⟨us,hu,k⟩:=(V8 zn w2 (Pl z)).mp z;exact(V8 hp wq hq).mpr ⟨us,(md us).mp hu,k⟩
  .intro z
   have z2:q∈U3 0 (ls.set a (Ki x rs)):=(iq q).mpr ⟨hq,λe=>hn (e ▸ z)⟩;obtain⟨us,hu,k⟩:=(V8 hp wq hq).mp z;exact(V8 zn w2 z2).mpr ⟨us,(md us).mpr hu,k⟩
 .constructor
  .intro z
   have z2:=Pl (QK.mp z).1;exact(Re hp wq hq).mpr λus hu=>(Re zn w2 z2).mp z us ((md us).mpr hu)
  .intro z
   have z2:q∈U3 0 (ls.set a (Ki x rs)):=(iq q).mpr ⟨hq,λe=>hn (e ▸ (QK.mp z).1)⟩;exact(Re zn w2 z2).mpr λus hu=>(Re hp wq hq).mp z us ((md us).mp hu)
theorem qG(h:ls[a]?=O rs)(d:Deal cs (ls.set a (Ki x rs)) us):U6 (ls.set a (Ki x rs)) us=U6 ls us:=by
 unfold U6;refine Jp λi=>?_;rw[List.getElem?_zipWith,List.getElem?_zipWith]
 cases hu:us[i]? with
 |none=>cases (ls.set a (Ki x rs))[i]?<;>cases ls[i]?<;>rfl
 |some w=>
 cases h1:(ls.set a (Ki x rs))[i]? with
 |none=>
  rw[P6 h]at h1;cases hl:ls[i]? with
  |none=>rfl
  |some r=>rw[hl]at h1;cases h1
 |some r'=>
 cases w with
 |none=>
  rw[P6 h]at h1;cases hl:ls[i]? with
  |none=>rw[hl]at h1;cases h1
  |some r=>rfl
 |some t=>obtain⟨r0,hr,e⟩:=Ge h h1 (d.wish i t r' hu h1);rw[hr];show O ((KP t r':Nat):Int)=O ((KP t r0:Nat):Int);rw[e]
end
theorem Ba{xs:w8}:oNe (.list (xs.map int)) (.list (xs.map int))=O w6:=by have lay:PyData.canLay0 (.list (xs.map int))=w5:=Md xs;have dep:=GH xs;have dep:UE (.list (xs.map int))<=2:=dep;unfold oNe;rw[Qp ⟨lay,lay,by lia⟩,Me _ lay];rfl
theorem LX{q:Int×Int}{A:LP}:Zw (U4 q) (.list (A.map U4))=O (!decide (q∈A)):=by unfold Zw;rw[Bd];rfl
theorem Mg(A:LP):PyData.canLay0 (.list (A.map U4))=w5:=Ta λx hx=>by obtain⟨q,_,rfl⟩:=Qn.mp hx;rfl
theorem Mf(A:LP):(Uz (A.map U4)).depth<=3:=RY (F0 λx hx=>by obtain⟨q,_,rfl⟩:=List.mem_map.mp hx;unfold U4;simp[UE,PyData.depthAll])
noncomputable abbrev Wa(A B:LP)(C E:w8):D:=.list [.list (A.map U4),.list (B.map U4),.list (C.map int),.list (E.map int)]
theorem vQ{A B A2 B2:LP}{C E C2 E2:w8}(h1:∀q∈A2,q∈A)(h2:∀q∈B,q∈B2)(h3:∀x∈C,x∈C2)(h4:∀x∈E,x∈E2)(l1:A2.length<=1000)(l2:B.length<=1000)(l3:C.length<=1000)(l4:E.length<=1000):Vd [Wa A B C E,Wa A2 B2 C2 E2]=O (.bool w5):=by
 refine KY (Z:=[pb (Wa A B C E),pb (Wa A2 B2 C2 E2),w4]) wZ ?_;unfold TB
 let S0:Option Sl:=O (.pub (Wa A B C E))
 let S1:Option Sl:=O (.pub (Wa A2 B2 C2 E2))
 have ne:oNe (.list []) (.list [])=O w6:=rfl;have nin:∀{Q R:LP},(∀q∈Q,q∈R)->∀x∈Q.map U4,Zw x (.list (R.map U4))=O w6:=λh x hx=>by obtain⟨q,hq,rfl⟩:=Qn.mp hx;rw[LX,QW (h q hq)];rfl
 have nii:∀{Q R:w8},(∀q∈Q,q∈R)->∀x∈Q.map int,Zw x (.list (R.map int))=O w6:=λh x hx=>by obtain⟨q,hq,rfl⟩:=Qn.mp hx;rw[Fa,List.contains_iff_mem.mpr (h q hq)];rfl
 apply Za;refine KU (b:=w6) (Z1:=[S0,S1,w4]) (U9 (KS (ZC (ds:=A2.map U4) (es:=[]) (Zv (Ky wZ U0 (K0 (j:=0) wZ)) ZK) ?_)) (Zz UX (Qa wZ)) ne) (λz=>by cases z) λ_=>Ze (Zc ?_)
 .have:=Xw (s:=gN 3) (t:=Zi Zw 3 (U1 0 (UT (.int 0)))) (g:=UM 3) (λd:D=>d) (λ_=>w6) (λd:D=>d) (λZ=>∃x,Z=[S0,S1,w4,x]) (A2.map U4) [S0,S1,w4,w4] [] (λd hd Z hI=>by
   obtain⟨x,rfl⟩:=hI;exact⟨_,UV (Qa wZ) wZ,Ye wZ (Ky wZ U0 (K0 (j:=0) wZ)) (nin h1 d hd),λz=>(by cases z),_,rfl⟩) ⟨w4,rfl⟩ (by rw[Qx,Qb];lia)
  rw[List.map_id']at this;refine this.trans ?_;rw[List.filter_eq_nil_iff.mpr (λ_ _ z=>by cases z)];rfl
 apply Za;apply ZR (λ_ Z=>∃x2,Z=[S0,S1,x2])
 case h1=>exact Np (UQ U0 (UQ U0 UX)) (NN (by decide) (by decide) (by decide) (by decide))
 case h0=>exact⟨_,rfl⟩
 case hst=>
  rintro i d Z hi ⟨x2,rfl⟩;obtain⟨rfl,hlt⟩:=Wo hi;refine⟨_,UV (Qa wZ) wZ,?_⟩;unfold L1
  obtain⟨X,Y,e1,e2,hn,hX⟩:∃X Y:w9,oIx (Wa A B C E) (.int (1+(i:Int)))=O (.list X)/\oIx (Wa A2 B2 C2 E2) (.int (1+(i:Int)))=O (.list Y)/\(∀x∈X,Zw x (.list Y)=O w6)/\X.length<=1000:=by
   have hi3:i=0∨i=1∨i=2:=by lia
   rcases hi3 with rfl|rfl|rfl
   .exact⟨_,_,K0 (j:=1) wZ,K0 (j:=1) wZ,nin h2,by rw[Qb];exact l2⟩
   .exact⟨_,_,K0 (j:=2) wZ,K0 (j:=2) wZ,nii h3,by rw[Qb];exact l3⟩
   .exact⟨_,_,K0 (j:=3) wZ,K0 (j:=3) wZ,nii h4,by rw[Qb];exact l4⟩
  let S2:Option Sl:=O (.pub (.int (1+(i:Int))))
  refine KU (b:=w6) (Z1:=[S0,S1,S2]) (U9 (KS (ZC (ds:=X) (es:=[]) (Zv (Ky wZ (UO wZ) e1) ZK) ?_)) (Zz UX (Qa wZ)) ne) (λz=>by cases z) λ_=>Ze (Zf ⟨_,rfl⟩)
  have:=Xw (s:=gN 3) (t:=Zi Zw 3 (U1 1 (UM 2))) (g:=UM 3) (λd:D=>d) (λ_=>w6) (λd:D=>d) (λZ=>∃x,Z=[S0,S1,S2,x]) X [S0,S1,S2,w4] [] (λd hd Z hI=>by obtain⟨x,rfl⟩:=hI;exact⟨_,UV (Qa wZ) wZ,Ye wZ (Ky wZ (UO wZ) e2) (hn d hd),λz=>(by cases z),_,rfl⟩) ⟨w4,rfl⟩ (by rw[Qx];lia);rw[List.map_id']at this;refine this.trans ?_;rw[List.filter_eq_nil_iff.mpr (λ_ _ z=>by cases z)];rfl
 case hend=>rintro Z ⟨x2,rfl⟩;exact Zc (KB U0 rfl)
section
variable{cs:w8}{ls:List (List w8)}{o:Ord}{old:yh}{ts:w8}
theorem O9(g:Good cs ls)(ga:ZU cs.length ls.length old ts):∃ws T as ps L,XV [Kp cs ls,KZ o old ts]=O (Wa (YK (UW (Kd ls o old ts)) (U3 0 ls) ((cs.length+1:Nat):Int) as ps) (Wb (UW (Kd ls o old ts)) (U3 0 ls) ((cs.length+1:Nat):Int) as ps L) (K3 as) (K3 ps))/\WebQ cs (UW (Kd ls o old ts)) (U3 0 ls) ls.length ws T as ps L:=by have c6:=g.c6;have l7:=g.l7;obtain⟨ws,T,as,ps,L,hweb,wq⟩:=jh (o:=o) g ga;have hla:=wq.ok.la;have yP:=wq.ok.lp;have hl:=wq.len;refine⟨ws,T,as,ps,L,?_,wq⟩;refine KY (Z:=[pb (Kp cs ls),pb (KZ o old ts),w4]) wZ ?_;unfold TC;refine Kh (KM (Kj (UQ (UO wZ) (UQ (UO wZ) UX)) wZ hweb) (Qa wZ) wZ) ?_;exact KB (Zz (UQ (Kj (UQ (UO wZ) (UQ (UO wZ) (UQ (UO wZ) UX))) wZ (Eb (L:=L) g ga hla yP)) (UQ (Kj (UQ (UO wZ) (UQ (UO wZ) (UQ (UO wZ) UX))) wZ (Bc g ga hla yP (λus hu=>(wq.best us hu).1.len) (by lia))) (UQ (Kj (UQ (UO wZ) UX) wZ (xG (ps:=ps) (L:=L) (by lia))) (UQ (Kj (UQ (UO wZ) UX) wZ (qK (as:=as) (L:=L) (by lia))) UX)))) (Qa wZ)) wZ
theorem qF{t:Int}{rs:List w8}(h:t∈rs.flatten):∃r,rs[KP t rs-1]?=O r/\t∈r/\1<=KP t rs/\KP t rs<=rs.length:=by
 have hz:=OD h;unfold KP at hz⊢;by_cases c:rs.findIdx (λr=>r.contains t)<rs.length
 .rw[Qp c]
  exact⟨rs[rs.findIdx λr=>r.contains t],by rw[Nat.add_sub_cancel];exact Qe c,List.contains_iff_mem.mp (List.findIdx_getElem (w:=c)),by lia,c⟩
 .rw[Qw c]at hz
  exact(hz wZ).elim
theorem qE{n:Nat}{rs:List w8}(g:V9 n rs){t:Int}{r r':w8}(h:r∈rs)(h':r'∈rs)(m:t∈r)(m':t∈r'):r=r':=by
 obtain⟨i,hi,rfl⟩:=Ud.mp h;obtain⟨j,hj,rfl⟩:=Ud.mp h';have pw:=List.pairwise_iff_getElem.mp (List.pairwise_flatten.mp g.once).2;rcases Nat.lt_trichotomy i j with z|z|z
 .exact(pw i j hi hj z t m t m' wZ).elim
 .subst z;rfl
 .exact(pw j i hj hi z t m' t m wZ).elim
def MV(cs:w8)(ls:List (List w8))(A:LP)(q:Int×Int):Prop:=∃(a:Nat)(rs:List w8),q.1=a/\Idle cs ls a q.2 rs/\q∉A
theorem xD(g:Good cs ls){A:LP}{dg:Int}(hdg:0<=dg):∃r,Vc [Kp cs ls,.list (A.map U4),.int dg]=O r/\(r=.none ∨ ∃(a:Nat)(x:Int)(rs:List w8),r=Kp cs (ls.set a (Ki x rs))/\Idle cs ls a x rs/\((a:Int),x)∉A):=by
 have l7:=g.l7;refine WD (Z:=[pb (Kp cs ls),pb (.list (A.map U4)),pb (.int dg),w4,w4,w4,w4,w4]) wZ ?_;unfold Tz
 let S0:Option Sl:=O (.pub (Kp cs ls))
 let S1:Option Sl:=O (.pub (.list (A.map U4)))
 let S2:Option Sl:=O (.pub (.int dg))
 refine Kh (Z1:=[S0,S1,S2,O (.own []),w4,w4,w4,w4]) (YJ (Tk UX (Qa wZ)) (Qa wZ) wZ) ?_;apply Za;apply ZR (λi Z=>∃(I:LP)(x4 x5 x6:Option Sl),Z=[S0,S1,S2,O (.own (I.map U4)),x4,x5,x6,w4]/\(∀q∈I,MV cs ls A q)/\I.length<=6*i)
 case h1=>exact Wn (UQ (Yg (UQ (Ky wZ U0 Wi) UX) Zy) UX) (Wm (by rw[Qb];lia) (by lia))
 case h0=>exact⟨[],_,_,_,rfl,λq h=>(by cases h),by decide⟩
 case hst=>
  rintro i d Z hi ⟨I,x4,x5,x6,rfl,hI,ap⟩;obtain⟨rfl,hlt⟩:=Wo hi;rw[Qb]at hlt;have yo:i<ls.length:=by lia
  have hls:ls[i]?=O ls[i]:=Qe yo;have gr:=g.rk _ (Qs hls);have hfl:=Oc gr;have c6:=g.c6;refine⟨_,UV (Qa wZ) wZ,?_⟩;rw[JG];unfold L4
  let S4:Option Sl:=O (.pub (.int (i:Nat)))
  apply ZR (λj Z=>∃(I:LP)(x5 x6:Option Sl),Z=[S0,S1,S2,O (.own (I.map U4)),S4,x5,x6,w4]/\(∀q∈I,MV cs ls A q)/\I.length<=6*i+j)
  case h1=>exact Zv (Kj (UQ (UO wZ) (UQ (UO wZ) UX)) wZ (ki (cs:=cs) hls (by lia))) ZK
  case h0=>exact⟨I,_,_,rfl,hI,by lia⟩
  case hst=>
   rintro j d Z hj ⟨I,x5,x6,rfl,hI,ap⟩;rw[Qd]at hj;cases hz:(YE ls[i].flatten)[j]? with
   |none=>rw[hz]at hj;cases hj
   |some t=>
   rw[hz]at hj;cases hj;have htf:t∈ls[i].flatten:=(Wg _).mem_iff.mp (Qs hz)
   have yB:j<6:=by
    have h1:=(Qg.mp hz).1;rw[(Wg _).length_eq]at h1
    lia
   obtain⟨r,hr,htr,k1,k2⟩:=qF htf;refine⟨_,UV (Qa wZ) wZ,?_⟩;unfold L5
   let S5:Option Sl:=O (.pub (.int t))
   let S6:Option Sl:=O (.pub (Zn r))
   have e1:oIx (.list (ls.map KR)) (.int (i:Nat))=O (KR ls[i]):=K0 (by rw[Qd,hls];rfl);have e2:oIx (KR ls[i]) (.int ((KP t ls[i]:Nat)-1))=O (Zn r):=Lr (by lia) (by rw[show((KP t ls[i]:Nat)-1:Int).toNat=KP t ls[i]-1 by lia,Qd,hr];rfl);refine Kh (Z1:=[S0,S1,S2,O (.own (I.map U4)),S4,S5,S6,w4]) (KM (U9 (U9 (Ky wZ U0 Wi) (UO wZ) e1) (U9 (Kj (UQ (UO wZ) (UQ (UO wZ) (UQ (UO wZ) UX))) wZ (vU (cs:=cs) hls t)) U0 Xc) e2) (Qa wZ) wZ) ?_;refine KU (Z1:=[S0,S1,S2,O (.own (I.map U4)),S4,S5,S6,w4]) (b:=!decide (((i:Int),t)∈A)&&decide (1<((r.map int).length:Int))) (Lq (U9 (Yi (UQ (UO wZ) (UQ (UO wZ) UX)) (Qa wZ)) (UO wZ) (LX (q:=((i:Int),t)))) λ_=>U9 (ZP wZ Zy) U0 Ln) (λh=>?_) λ_=>Ze (Zf ⟨I,_,_,rfl,hI,by lia⟩)
   obtain⟨h1,h2⟩:=JX.mp h;have h1:((i:Int),t)∉A:=λz=>by rw[QW z]at h1;cases h1
   have h2:=Qa h2;rw[Qb]at h2;refine YI (WN wZ (Yi (UQ (UO wZ) (UQ (UO wZ) UX)) (Qa wZ)) wZ (by rw[Qb];lia) wZ) (Zf ⟨I++[((i:Int),t)],_,_,by rw[Qy];rfl,λq hq=>?_,by rw[Qk,QU];lia⟩);rcases QI.mp hq with hq|hq
   .exact hI q hq
   .rw[Qu.mp hq]
    exact⟨i,ls[i],rfl,⟨hls,λr' hr' hm=>by rw[qE gr hr' (Qs hr) hm htr];lia⟩,h1⟩
  case hend=>rintro Z ⟨I,x5,x6,rfl,hI,ap⟩;rw[Qb,(Wg _).length_eq]at ap;exact Zf ⟨I,_,_,_,rfl,hI,by lia⟩
 case hend=>
 rintro Z ⟨I,x4,x5,x6,rfl,hI,ap⟩;rw[Y0,Qb,show((ls.length:Int)-0).toNat=ls.length by lia]at ap;refine Zc ?_;apply Za;cases I with
 |nil=>exact KU (b:=w5) (NM wZ (Zz UX (Qa wZ)) wZ (by rfl)) (λ_=>KB U0 (V3 ⟨_,rfl,.inl wZ⟩)) λz=>by cases z
 |cons q0 I0=>
 let I:=q0::I0
 have heq:oEq (.list (I.map U4)) (.list [])=O w6:=by have lay:UD (I.map U4)=w5:=Mg I;have dep:=Mf I;unfold oEq;rw[Qp ⟨lay,rfl,by lia⟩];rfl
 refine KU (b:=w6) (Z1:=[S0,S1,S2,O (.own (I.map U4)),x4,x5,x6,w4]) (NM wZ (Zz UX (Qa wZ)) wZ heq) (λz=>by cases z) λ_=>Ze (Zc ?_)
 have hpos:(0:Int)<((I.map U4).length:Int):=by rw[Qb];show(0:Int)<((I0.length+1:Nat):Int);lia
 let k:=dg % ((I.map U4).length:Int)
 have hk0:0<=k:=Int.emod_nonneg _ (by lia);have z8:k<((I.map U4).length:Int):=Int.emod_lt_of_pos _ hpos;rw[Qb]at z8;have hkI:k.toNat<I.length:=by lia
 have hq:I[k.toNat]?=O I[k.toNat]:=Qe hkI;obtain⟨a,rs,ea,hid,hnA⟩:=hI I[k.toNat] (JE hkI)
 let x:=I[k.toNat].2
 have hqe:I[k.toNat]=((a:Int),x):=Prod.ext ea wZ;have hix:oIx (.list (I.map U4)) (.int k)=O (U4 ((a:Int),x)):=Lr hk0 (by rw[Qd,hq,hqe];rfl)
 let S3:Option Sl:=O (.own (I.map U4))
 let S4:Option Sl:=O (.pub (.int (a:Nat)))
 let S5:Option Sl:=O (.pub (.int x))
 have gr:=g.rk rs (Qs hid.at');have hal:a<ls.length:=(Qg.mp hid.at').1;refine Kh (Z1:=[S0,S1,S2,S3,S4,S5,x6,w4]) (XA (RJ wZ (U9 (UO wZ) (HI wZ) (V5 hpos)) wZ hix) (Kq wZ (UZ (UV (Qa wZ) wZ) (UZ (UV (Qa wZ) wZ) Kr)))) ?_
 have hfew:∀rs∈ls,rs.length<=5/\∀r∈rs,r.length<=6:=λrs hrs=>⟨(g.rk rs hrs).few,λr hr=>by
  have h1:=Oc (g.rk rs hrs);have h2:r.length<=rs.flatten.length:=(List.sublist_flatten_of_mem hr).length_le;have:=g.c6
  lia⟩
 refine Kh (Z1:=[S0,S1,S2,S3,S4,S5,x6,O (.own (ls.map KR))]) (YJ (ZC (Zv (Ky wZ U0 Wi) ZK) ((Xw KR (λ_=>w5) KR (λZ=>∃y6 y,Z=[S0,S1,S2,w4,S4,S5,y6,w4,y]) ls _ [] ?_ ⟨_,w4,rfl⟩ (by rw[Qx];lia)).trans (by rw[QR,Jo.mpr (λ_ _=>rfl)]))) (Qa wZ) wZ) ?_
 .rintro rs0 hr0 Z ⟨y6,y,rfl⟩
  refine⟨_,UV (Qa wZ) wZ,rfl,λ_=>KS (ZC (Zv (UO wZ) ZK) ((Xw Zn (λ_=>w5) Zn (λZ=>∃y6 y,Z=[S0,S1,S2,w4,S4,S5,y6,w4,pb (KR rs0),y]) rs0 _ [] ?_ ⟨_,w4,rfl⟩ (by have:=(hfew rs0 hr0).1;rw[Qx];lia)).trans (by rw[QR,Jo.mpr (λ_ _=>rfl)]))),_,_,rfl⟩;rintro r hr Z ⟨y6,y,rfl⟩;exact⟨_,UV (Qa wZ) wZ,rfl,λ_=>KS (Od wZ wZ),_,_,rfl⟩
 have hia:oIx (.list (ls.map KR)) (.int (a:Nat))=O (KR rs):=K0 (by rw[Qd,hid.at'];rfl);refine Kh (Z1:=[S0,S1,S2,S3,S4,S5,x6,O (.own ((ls.set a (Ki x rs)).map KR))]) (R1 (k:=(a:Int)) (d:=KR (Ki x rs)) (KS (ZC (Zv (RJ wZ (UO wZ) wZ hia) ZK) ((Xw Zn (λ_=>w5) (λr=>Zn (r.filter λt=>!decide (t=x))) (λZ=>∃y6 y,Z=[S0,S1,S2,w4,S4,S5,y6,w4,y]) rs _ [] ?_ ⟨_,w4,rfl⟩ (by have:=gr.few;rw[Qx];lia)).trans (by rw[QR,Jo.mpr (λ_ _=>rfl)];unfold Ki;rw[Jb];rfl)))) wZ (UO wZ) wZ ⟨by lia,by rw[Qb];lia⟩ (by rw[QP,List.map_set];rfl)) ?_
 .rintro r hr Z ⟨y6,y,rfl⟩
  refine⟨_,UV (Qa wZ) wZ,rfl,λ_=>KS (ZC (Zv (UO wZ) ZK) ((Xw int (λt=>!decide (t=x)) int (λZ=>∃y6 y,Z=[S0,S1,S2,w4,S4,S5,y6,w4,pb (Zn r),y]) r _ [] ?_ ⟨_,w4,rfl⟩ (by have:=(hfew rs (Qs hid.at')).2 r hr;rw[Qx];lia)).trans (by rw[QR]))),_,_,rfl⟩;rintro t ht Z ⟨y6,y,rfl⟩;exact⟨_,UV (Qa wZ) wZ,Ye wZ (UO wZ) PX,λ_=>UO wZ,_,_,rfl⟩
 exact KB (Yi (UQ (Ky wZ U0 Tc) (UQ (YY wZ wZ) UX)) (Qa wZ)) ⟨_,rfl,.inr ⟨a,x,rs,rfl,hid,by rw[←hqe];exact hnA⟩⟩
end
theorem jb{A B:LP}:PyData.depthAll [.list (A.map U4),.list (B.map U4)]<=3:=Pi λy hy=>by
 rcases QE.mp hy with rfl|hy
 .exact Mf A
 .rw[Qu.mp hy];exact Mf B
theorem ja:∀ns:w8,ns.length<=63->Vb [.list (ns.map int)]=O (.bool w5):=by
 intro ns hns;refine KY (Z:=[pb (.list (ns.map int)),w4,w4,w4,w4,w4,w4,w4,w4]) wZ ?_;unfold Tx;obtain⟨r,hr,cs,ls,rfl,g,_,_,_⟩:=wD 4 5 4 (ns:=ns) (by lia) 0;obtain⟨v8,hv8⟩:=MK ns 8 (by lia);have h42:=Ng g
 let S0:Option Sl:=O (.pub (.list (ns.map int)))
 let S1:Option Sl:=O (.pub (Kp cs ls))
 refine Kh (Z1:=[S0,S1,w4,w4,w4,w4,w4,w4,w4]) (KM (Kj (UQ (UO wZ) (UQ U0 (UQ U0 (UQ U0 (UQ U0 UX))))) wZ hr) (Qa wZ) wZ) ?_
 have hadd:U8 (.list [.int v8]) (.list (DL.cutD (ns.map int) (O 9) (O 10)))=O (.list (.int v8::DL.cutD (ns.map int) (O 9) (O 10))):=by
  rw[XH]
  .rfl
  .unfold DL.cutD
   rw[Q2,Jm,Qb,QU]
   lia
 apply Za;apply ZR (λ_ Z=>∃x2 x3 x4 x5 x6 x7 x8,Z=[S0,S1,x2,x3,x4,x5,x6,x7,x8])
 case h1=>exact XJ (UQ (U9 (Zz (UQ (Kj (UQ (UO wZ) (UQ U0 UX)) wZ hv8) UX) (Qa wZ)) (WC (UO wZ) (Y8 U0) (Y8 U0) V1) hadd) UX) XG
 case h0=>exact⟨_,_,_,_,_,_,_,rfl⟩
 case hst=>
  rintro i d Z hi ⟨x2,x3,x4,x5,x6,x7,x8,rfl⟩;obtain⟨x,hx,rfl⟩:=Xa hi
  obtain⟨c,rfl⟩:∃c:Int,x=.int c:=by
   rcases QE.mp (Qs hx)with h|h
   .exact⟨_,h⟩
   .unfold DL.cutD at h
    obtain⟨c,_,rfl⟩:=Qn.mp (List.mem_of_mem_drop (Uc h));exact⟨c,rfl⟩
  refine⟨_,Kq wZ (UZ (UV (Qa wZ) wZ) (UZ (UV (Qa wZ) wZ) Kr)),?_⟩;rw[QO];unfold LZ;obtain⟨r,ha,o,old,ts,rfl,ga⟩:=j9 g c (20+(i:Int))
  let S2:Option Sl:=O (.pub (.int (i:Nat)))
  let S3:Option Sl:=O (.pub (.int c))
  let S4:Option Sl:=O (.pub (KZ o old ts))
  let S5:Option Sl:=O (.pub (KZ o w4 []))
  refine Kh (Z1:=[S0,S1,S2,S3,S4,x5,x6,x7,x8]) (KM (Kj (UQ (UO wZ) (UQ (UO wZ) (UQ (U9 U0 (UO wZ) Zj) UX))) wZ ha) (Qa wZ) wZ) ?_;refine Kh (Z1:=[S0,S1,S2,S3,S4,S5,x6,x7,x8]) (KM (Yi (UQ (Ky wZ U0 (K0 (j:=0) wZ)) (UQ U0 (UQ (Zz UX (Qa wZ)) UX))) (Qa wZ)) (Qa wZ) wZ) ?_;obtain⟨ws,T,as,ps,L,hrd,wq⟩:=O9 (o:=o) g ga0;obtain⟨za,T2,yT,ps2,L2,hrd2,w2⟩:=O9 (o:=o) g ga;have hp:=WU g
  let A:=YK (UW (Kd ls o w4 [])) (U3 0 ls) ((cs.length+1:Nat):Int) as ps
  let B:=Wb (UW (Kd ls o w4 [])) (U3 0 ls) ((cs.length+1:Nat):Int) as ps L
  have fA:∀{f:Int×Int->Int}{as ps:w8},(YK f (U3 0 ls) ((cs.length+1:Nat):Int) as ps).length<=42:=QN (Ju _ _) h42;have fB:B.length<=42:=QN (Ju _ _) fA;have posl:∀xs:w8,(K3 xs).length<=xs.length:=λxs=>by unfold K3;rw[Qb];have:=Ju (λi=>decide (0<xs.getD i 0)) (Ux xs.length);rwa[Qo]at this
  have l7:=g.l7;have c6:=g.c6;have la:=posl as;have lp:=posl ps;rw[wq.ok.la]at la;rw[wq.ok.lp]at lp
  let S6:Option Sl:=O (.pub (Wa A B (K3 as) (K3 ps)))
  refine Kh (Z1:=[S0,S1,S2,S3,S4,S5,S6,x7,x8]) (KM (Kj (UQ (UO wZ) (UQ (UO wZ) UX)) wZ hrd) (Qa wZ) wZ) ?_;obtain⟨n1,n2,n3,n4⟩:=v5 hp wq w2 λus hu=>xE g ga hu
  apply Za;refine KU (b:=w6) (Z1:=[S0,S1,S2,S3,S4,S5,S6,x7,x8]) (XB (t:=w5) (Wf (Kj (UQ (UO wZ) (UQ (Kj (UQ (UO wZ) (UQ (UO wZ) UX)) wZ hrd2) UX)) wZ (vQ n1 n2 n3 n4 (QN fA (by decide)) (by lia) (by lia) (by lia))))) (λz=>by cases z) λ_=>Ze (Zc ?_)
  obtain⟨r,hn,dg,rfl,hdl,hdb⟩:=OB c (60+(i:Int)) (sizes:=[61]) (λx hx=>by rw[Qu.mp hx];decide) (by decide);have hd0:∃d0:Int,dg[0]?=O d0:=⟨_,Qe (by rw[hdl];decide)⟩
  obtain⟨d0,hd0⟩:=hd0;have hd1:=hdb 0 d0 61 hd0 wZ;have hi0:oIx (.list (dg.map int)) (.int 0)=O (.int d0):=K0 (j:=0) (by rw[Qd,hd0];rfl);obtain⟨r,hw,ah⟩:=xD g (A:=A) hd1.1
  let S7:Option Sl:=O (.pub r)
  refine Kh (Z1:=[S0,S1,S2,S3,S4,S5,S6,S7,x8]) (KM (Kj (UQ (UO rfl) (UQ (Ky rfl U0 (K0 (j:=0) rfl)) (UQ (U9 (Kj (UQ (UO rfl) (UQ (U9 U0 (UO rfl) Zj) (UQ (Zz (UQ U0 UX) (Qa rfl)) UX))) rfl hn) U0 hi0) UX))) rfl hw) (Qa rfl) rfl) ?_;rcases ah with rfl|⟨a,x,rs,rfl,hid,hnA⟩
  .exact KU (b:=w6) (Z1:=[S0,S1,S2,S3,S4,S5,S6,S7,x8]) (by rfl) (λz=>by cases z) λ_=>Ze (Zf ⟨_,_,_,_,_,_,_,rfl⟩)
  refine KU (b:=w5) (Z1:=[S0,S1,S2,S3,S4,S5,S6,S7,x8]) (by rfl) (λ_=>?_) λz=>by cases z
  have g':=Gg g hid;have ga0':∀m,ZU cs.length m w4 []:=λm=>ga0
  obtain⟨ws3,T3,as3,ps3,L3,hrd3,w3⟩:=O9 (o:=o) g' ga0;obtain⟨e1,e2,e3⟩:=Bb g hid wq w3 hnA;have sl:Yz (Wa A B (K3 as) (K3 ps)) w4 (O 2)=O (.list [.list (A.map U4),.list (B.map U4)]):=rfl;have sl3:Yz (Wa (YK (UW (Kd (ls.set a (Ki x rs)) o w4 [])) (U3 0 (ls.set a (Ki x rs))) ((cs.length+1:Nat):Int) as3 ps3) (Wb (UW (Kd (ls.set a (Ki x rs)) o w4 [])) (U3 0 (ls.set a (Ki x rs))) ((cs.length+1:Nat):Int) as3 ps3 L3) (K3 as3) (K3 ps3)) w4 (O 2)=O (.list [.list (A.map U4),.list (B.map U4)]):=by rw[e1,e2];rfl
  have hne:oNe (.list [.list (A.map U4),.list (B.map U4)]) (.list [.list (A.map U4),.list (B.map U4)])=O w6:=Az (Ta λy hy=>by
   rcases QE.mp hy with rfl|hy
   .exact Mg A
   .rw[Qu.mp hy];exact Mg B) (by
   have h:=RY (jb (A:=A) (B:=B))
   lia)
  apply Za;refine KU (b:=w6) (Z1:=[S0,S1,S2,S3,S4,S5,S6,S7,x8]) (U9 (WC (Kj (UQ (UO wZ) (UQ (UO wZ) UX)) wZ hrd3) U0 (Y8 U0) sl3) (WC (UO wZ) U0 (Y8 U0) sl) hne) (λz=>by cases z) λ_=>Ze (Zc ?_)
  obtain⟨u1,d1,hb1,q1⟩:=P8 (o:=o) g ga0;obtain⟨u2,d2,hb2,q2⟩:=P8 (o:=o) g' ga0;have q2m:Yk cs (UW (Kd (ls.set a (Ki x rs)) o w4 [])) (U3 0 (ls.set a (Ki x rs))) ls.length u2:=by have:=NV q2;rwa[QS]at this
  have q3:=Gh ((e3 u2).mp q2m);have ec:=(Gi g ga0 q1 q3).1;have hix:∀(us:LO)(d:D),oIx (.tuple [Kl us,d]) (.int 0)=O (Kl us):=λus d=>K0 (j:=0) wZ;have c1:=EL g q1.dl.len;have c2:=EL g' q2.dl.len;rw[LI hid.at',qG hid.at' q2.dl,ec]at c2;refine Kh (Z1:=[S0,S1,S2,S3,S4,S5,S6,S7,pb (Kl u1)]) (KM (U9 (Kj (UQ (UO wZ) (UQ (UO wZ) UX)) wZ hb1) U0 (hix _ _)) (Qa wZ) wZ) ?_;exact KU (b:=w6) (U9 (Kj (UQ (UO wZ) (UQ (U9 (Kj (UQ (UO wZ) (UQ (UO wZ) UX)) wZ hb2) U0 (hix _ _)) UX)) wZ c2) (Kj (UQ (UO wZ) (UQ (UO wZ) UX)) wZ c1) Ba) (λz=>by cases z) λ_=>Ze (Zf ⟨_,_,_,_,_,_,_,rfl⟩)
 case hend=>rintro Z ⟨x2,x3,x4,x5,x6,x7,x8,rfl⟩;exact Zc (KB U0 rfl)
end W
open PySem PySem.W PyProof.Rows
set_option maxRecDepth 100000 in
set_option maxHeartbeats 0 in
theorem PySem.Challenge.cw_wishdeal_k62_whole_narrower_aims_holds : PySem.Challenge.rw_wishdeal_k62_whole_narrower_aims.Holds := by
 w_on;o_law
 refine holds_open (q:=W.q0) (loose:=[]) (Xt:=λs=>xlAt W.q0 [] s&&recOk [] s) (XP:=XL W.q0 []) (Yf:=Hook.obs .none) (Ya:=Hook.val .none) (YP:=Hook.says .none) (N:=5582) (d:=W.d_ci) (kwd:=[])
  W.Cf (Hook.of .none) (Hook.keeps .none) (λs e=>xl_of s (JX.mp e).1) XL.keeps (by rfl) (by rfl) (by rfl)
  (λs e=>recFacts_of (JX.mp e).2) (by rfl) (by assumption) (by decide +kernel) ⟨rfl,rfl,rfl,rfl,rfl,by decide +kernel⟩ ?hw (W.walk W.ja)
 case hw=>w_witness2


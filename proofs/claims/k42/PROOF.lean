import PyProof.Rows.All
import Wide.All
import OpenK.AllK
import Wide.FinOn
import Lean
import PyProof.EqAt
import PyProof.EqKinds
import PyProof.TupleCall
import PyProof.EnumMake
import PyProof.ZipIter
import PyProof.ExcClass2
import PyProof.ExcInit
import PyProof.ExcBaseAll.ValueError
import PyProof.FString2
import PyProof.ExcArgsOwn
import PyProof.InstStoreFacts
import ObjForm.Fk.InstStore
import ObjForm.Fk.InstLoad
import PyProof.StationsW
import PyProof.RulesAs
import PyProof.NsDelKeeps
import OpenK.KMore
import PyProof.IsiBase
import OpenK.KNot
import PyProof.Rows.RuleN_isinstance
import PyProof.NeData
import PyProof.P3In
import PyProof.StrWalks
import PyProof.ConsumeWalk
import PyProof.SliceStr2
import PyProof.MeetsStr
import KE.KItem
import KE.KUnpack
import KE.KRevSl
import PyProof.Rows.SetFrom
import PyProof.SetRoads
import PyProof.Rows.Range3
import PyProof.CallType
import PyProof.Rows.CallKwBuiltin
import PyProof.Rows.MinMaxN
import PyProof.SumWalkG
import PyProof.Rows.SeqMore
import PyProof.Rows.SortWalk
import PyProof.Rows.SumAny
import PyProof.Rows.SeqMore2
import KE.KSortTup
import PyProof.Rows.SortShellK
import PyProof.ReprRoads
import PyProof.ReprBulk
import PyProof.CallFns
import PyProof.NeKinds
import PyProof.Rows.StrJoinMade
import PyProof.StrCalls
import KE.KIntText
import PyProof.ReprDict
import PyProof.DictIter
import PyProof.Rows.DictUnroll
import PyProof.MeetsStr2
import PyProof.Rows.StrNews
import PyProof.StrLawsChain
import PyProof.Rows.StrItems
import PyProof.SeqRoads2
import PySem.Challenge.RW_wishdeal_k42_best_of_all_small
set_option compiler.extract_closed false
set_option Elab.async false
set_option linter.all false
set_option maxRecDepth 100000
set_option maxHeartbeats 4000000
open Option renaming some→O,none→xg
open Bool renaming true→xi,false→xj
theorem xf.{u}{α:Sort u}{a:α}:a=a:=rfl
abbrev xm:=List Int
abbrev xq:=Option Int
abbrev xx:=List Nat
abbrev xy:=Option Bool
theorem Qa:type_of% @of_decide_eq_true:=@of_decide_eq_true
theorem Qo:type_of% @if_pos:=@if_pos
theorem Qv:type_of% @if_neg:=@if_neg
theorem QI:type_of% @decide_eq_false:=@decide_eq_false
theorem QT:type_of% @decide_eq_true:=@decide_eq_true
theorem Q8:type_of% @decide_eq_true_eq:=@decide_eq_true_eq
theorem Ji:type_of% @of_decide_eq_false:=@of_decide_eq_false
theorem Uy:type_of% @if_false:=@if_false
open List renaming length_map→Qb,getElem?_map→Qd,getElem?_eq_getElem→Qf,getElem?_eq_some_iff→Qg,mem_cons_of_mem→Qi,getD_eq_getElem?_getD→Qj,mem_cons_self→Qk,length_append→Qm,mem_map→Qp,length_range→Qq,mem_of_getElem?→Qr,getElem?_append_right→Qt,map_cons→Qu,getElem?_append_left→Qw,getElem?_set_ne→Qx,map_append→Qy,getElem?_replicate→QA,length_cons→QC,getElem?_eq_none→QE,length_replicate→QF,length_nil→QG,mem_append_right→QH,size_toArray→QJ,getElem?_set_self→QK,mem_cons→QL,flatten_cons→QP,drop_eq_getElem_cons→QQ,length_take→QS,mem_append→QU,map_map→QW,mem_singleton→QZ,replicate_succ→Q0,lookup_cons→Q2,getElem?_range→Q3,mem_range→Q7,mem_append_left→Q9,append_assoc→Ja,length_singleton→Jb,length_reverse→Jc,sum_cons→Jd,append_nil→Je,length_set→Jf,nil_append→Jn,length_drop→Jo,all_eq_true→Jp,length_filterMap_le→Jq,mem_filterMap→Jr,ext_getElem?→Jy,count_cons→JB,pairwise_cons→JC,take_succ→JI,filterMap_cons→JK,map_congr_left→JL,getElem_mem→JP,getElem_map→JQ,map_replicate→JR,take_length→JS,length_zip→JT,sum_append→JV,getElem?_zip_eq_some→J0,range_succ→J4,length_pos_iff→J7,filter_eq_self→J8,take_zero→J9,getElem?_cons_succ→Ua,getElem_range→Ud,drop_eq_nil_of_le→Ue,mem_replicate→Uf,foldl_cons→Ug,getElem?_zipWith→Ui,getElem?_reverse→Uj,take_append_drop→Uk,mem_iff_getElem→Um,map_nil→Uo,length_zipWith→Us,mem_flatten→Uv,mem_filter→Uw,nodup_cons→Ux,range→UK,replicate→UL,Pairwise→UV
open PySem renaming wpAny_bind→Qe,wpAny_pure→Qn,wpAny_loadPart_at→QM,wpAny_mono→QO,wpAny_truthy_bool→QX,codeAny_builtin→Jk,mem_of_lookup→Jl,wpAny_isSubtype_exc→Ju,wpAny_standAt→Jv,wpAny_holding→Jw,wpAny_passesOwn→Jz,wpAny_pyIter_list→JF,plainId_quiet→JJ,Value→UA,Shared→UB,Program→UC,Addr→UD,FuncData→UE,Expr→UF,sizeLine→UG,wpAny→UH,starEach→UI,compareOp→UJ,assignEach→UX,foldedSetIterable→UY
open PySem.Heap renaming lt_size→Qh,get?_push_of_some→Ql,get?_push_size→QB,get?_update_other→Q4,size_push→JE
open Nat renaming le_refl→Qs,lt_of_lt_of_le→Qz,ne_of_lt→QN,le_trans→QR,zero_add→Q6,le_of_not_lt→Jg,ne_of_gt→Js,lt_irrefl→JA,not_lt_zero→JU,le_succ→JW,add_sub_cancel→JY,lt_succ_iff_lt_or_eq→J6,zero_le→Uc,lt_succ_of_lt→Ul,lt_succ_self→Up,add_zero→Ur,le_of_lt→Uu
open Int renaming toNat_natCast→QD,le_refl→QY,mul_le_mul_of_nonneg_right→Jt,le_trans→J5,le_antisymm→Uh,zero_add→Uq,not_lt→Uz
open Option.some renaming inj→Q5
open Bool renaming and_eq_true→Jh,eq_iff_iff→JN,false_ne_true→JO,false_eq_true→JX
open Array renaming getD_eq_getD_getElem?→Jj,length_toList→Jx,getElem?_eq_getElem→JZ
open PySem.Around renaming under_plainId→Jm
open PySem.W.Fast renaming te1987589406359920131→JD
open PyProof.Rows renaming callWith_type1→JG
open PySem.F renaming plain_max_loop→JH
open PySem.W renaming kia_one→JM
open Option renaming getD_some→Ub
open Array.Perm renaming refl→Ut
open PySem.PyData renaming list→UM,bool→UN,str→UO,strOk→UP,canLayAll0→UQ,depth→UR,eqv→US,shown→UW
open PySem.PassesOwn renaming never→UT
open PySem.Str renaming ofString→UU
abbrev xo:=List UA
abbrev xp:=List UF
abbrev xr:=Option UA
abbrev xw:=List UD
abbrev xz:=Option UD
abbrev L3:=List (List xm)
abbrev LO:=List xq
abbrev xA:=Option LO
abbrev LP:=List (Int×Int)
open PySem.W (Frag)
open PySem.PyData (int)
open List (replicate)
namespace DL
open PySem PySem.Spec PySem.W PyProof.Rows
def topRunT(tb:String->Option Builtin)(p:UC)(w:World)(m:Nat)(ann:xr):Nat->SharedT->Thread->Option SharedT
 |0,_,_=>xg
 |n+1,s,t=>match through t,stepOk m ann t with
  |true,_=>O s
  |false,xj=>xg
  |false,xi=>match stepT (denote tb) p w s t with
   |some x=>topRunT tb p w m ann n x.1 x.2
   |none=>xg
theorem GP{tb:String->Option Builtin}{p:UC}{w:World}{m:Nat}{ann:xr}:∀{n:Nat}{s s':SharedT}{t:Thread},topRunT tb p w m ann n s t=O s'->topRun tb p w m ann n s.abs t=O s'.abs
 |0,_,_,_,h=>by cases h
 |n+1,s,s',t,h=>by
  rw[topRunT]at h;rw[topRun];cases ht:through t with
  |true=>rw[ht]at h;cases h;rfl
  |false=>
   rw[ht]at h;cases hk:stepOk m ann t with
   |false=>rw[hk]at h;cases h
   |true=>
    rw[hk]at h;dsimp only at h⊢;cases hs:stepT (denote tb) p w s t with
    |none=>rw[hs]at h;cases h
    |some x=>rw[hs]at h;rw[stepT_spec hs];exact GP h
def btOf(l:List Obj):BT:=(l.foldl (λ(x:BT×Nat) o=>(x.1.ins x.2 o,x.2+1)) (.nil,0)).1
noncomputable def T0 (w:World) (os:OsState):SharedT:=⟨btOf (boot_heap w.params).objs.toList,11,(boot_heap w.params).life,#[],boot_drawn,boot_toks,os⟩
theorem Ax(w:World)(os:OsState):(T0 w os).abs=⟨boot_heap w.params,#[],boot_drawn,boot_toks,os⟩:=by kernel_rfl
theorem jU(w:World):((boot_heap w.params).isNs mainGlobals&&(#[]:Array GenState).size==0,(boot_heap w.params).objs.size,(boot_heap w.params).nsMap mainGlobals "__annotations__")=(xi,11,O (.ref 6)):=by kernel_rfl
noncomputable abbrev Eg (p q:UC) (loose:List Str) (Xt:UB->Bool) (w:World) (t:SharedT):=
 ((staticsOk (importedModules p.main.body) (boot_heap w.params) t.abs.heap&&namesBound p t.abs.heap&&gensDone t.abs&&laidKept (boot_heap w.params) t.abs.heap),openSeen q loose (importedModules p.main.body) Xt xi t.abs)
theorem C5{p q:UC}{loose:List Str}{Xt:UB->Bool}{N M:Nat}(e:opening p=plainProg p.main.scope.names)(hN:Nat.ble 600 N=xi)(f:∀s,fenceModules? p s=O s)(le:Nat.ble M N=xi)
  (run:∀(w:World)(os:OsState),(topRunT treeTable p w 11 (O (.ref 6)) M (T0 w os) (topStub p)).map (Eg p q loose Xt w)=O (xi,openGood q loose)):LeftO p q loose Xt (Hook.obs .none) (Hook.val .none) N:=λw=>by
 obtain⟨⟨h,gs,d,k,os⟩,e0,e'⟩:=Option.map_eq_some_iff.mp (boot_open e hN f w);have e':(h,gs,d,k)=(boot_heap w.params,#[],boot_drawn,boot_toks):=e';obtain⟨rfl,rfl,rfl,rfl⟩:h=boot_heap w.params/\gs=#[]/\d=boot_drawn/\k=boot_toks:=by simpa only[Prod.mk.injEq]using e'
 obtain⟨t,ht,l⟩:=Option.map_eq_some_iff.mp (run w os);have hr:=GP ht;rw[Ax]at hr;have r:=topRun_mono (N-M) _ _ _ _ hr;rw[show M+(N-M)=N by have:=Nat.le_of_ble_eq_true le;omega]at r;obtain⟨l1,l2⟩:=Prod.mk.inj l;have z:=jU w;obtain⟨z1,z2,z3⟩:_/\_/\_:=by simpa only[Prod.mk.injEq]using z
 have tf:topFrom treeTable p w N ⟨boot_heap w.params,#[],boot_drawn,boot_toks,os⟩=O t.abs:=by
  unfold topFrom;dsimp only;rw[z1,z2,z3,r]
  show(match staticsOk (importedModules p.main.body) (boot_heap w.params) t.abs.heap&&namesBound p t.abs.heap&&gensDone t.abs&&laidKept (boot_heap w.params) t.abs.heap with|true=>O t.abs|false=>xg)=_
  rw[l1]
 unfold openEnds;rw[e0]
 show(topFrom treeTable p w N _).map _=_
 rw[tf];exact congrArg O (Prod.ext l2 xf)
end DL
open PySem in
lay_quick PySem.Challenge.pw_wishdeal_k42_best_of_all_small DL.topRunT PySem.W.openGood PySem.W.staticsOk PySem.W.namesBound PySem.W.laidKept PySem.W.xlAt
namespace W
open PySem PySem.Spec DL
noncomputable abbrev p0:UC:=PySem.Challenge.pw_wishdeal_k42_best_of_all_small
noncomputable def XQ:xx:=[1,2,4,5,6,8,9,10,11,12,13,14,15,16,17,18,19,21,23,24,25,27,28,29,31,32,33,34,35,37,39,40,41,42,43,44,45,46,47,48,49,50,51,53,54,56,57,58,59,60,61,62,63,64,65,66,67,68,69]
noncomputable def ixL:xx:=[1,2,12,13,14,15,16,17,18,19,21,24,25,27,28,29,31,32,33,34,35,37,39,40,41,42,43,44,45,46,47,48,49,50,51,53,54,56,57,58,59,60,61,62,63,64,65,66,67,68,69]
noncomputable abbrev q0:UC:=PySem.W.view p0 XQ
theorem EI:∀(w:World)(os:OsState),(PySem.W.Fast.tw10708255244068714335 PySem.W.Fast.tw14364793385576792824 PySem.W.Fast.tw12102805156412171023 w 11 (O (.ref 6)) 2513 (T0 w os) (PySem.W.topStub PySem.W.Fast.tw12102805156412171023)).map (λt=>((PySem.W.Fast.tw13471830651028734593 (PySem.W.Fast.tw5923862056798008813 (Program.main PySem.W.Fast.tw12102805156412171023).body) (PySem.W.boot_heap w.params) t.abs.heap&&PySem.W.Fast.tw4683006035507612052 PySem.W.Fast.tw12102805156412171023 t.abs.heap&&PySem.W.gensDone t.abs&&PySem.W.Fast.tw16898566250750103049 (PySem.W.boot_heap w.params) t.abs.heap),PySem.W.Fast.tw4187177175401517315 (PySem.W.view PySem.W.Fast.tw12102805156412171023 XQ) [] (PySem.W.Fast.tw5923862056798008813 (Program.main PySem.W.Fast.tw12102805156412171023).body) (λs=>PySem.W.Fast.tw4757257242682413121 (PySem.W.view PySem.W.Fast.tw12102805156412171023 XQ) [] s&&PySem.W.recOk [] s) xi t.abs))=O (xi,PySem.W.Fast.tw3486900944545009338 (PySem.W.view PySem.W.Fast.tw12102805156412171023 XQ) []):=by intro w os;kernel_rfl
theorem EH:PySem.W.LeftO p0 q0 [] (λs=>PySem.W.xlAt q0 [] s&&PySem.W.recOk [] s) (PySem.W.Hook.obs .none) (PySem.W.Hook.val .none) 4926:=by
 refine C5 (M:=2513) (by kernel_rfl) xf (λs=>by kernel_rfl) xf λw os=>?_
 have h:=EI w os;rw[←PySem.W.Fast.te10708255244068714335,←PySem.W.Fast.te14364793385576792824,←PySem.W.Fast.te4187177175401517315,←PySem.W.Fast.te5923862056798008813,←PySem.W.Fast.te13471830651028734593,←PySem.W.Fast.te4683006035507612052,←PySem.W.Fast.te16898566250750103049,←PySem.W.Fast.te4757257242682413121,←PySem.W.Fast.te3486900944545009338,←PySem.W.Fast.te12102805156412171023]at h;exact h
end W
namespace L2
open PySem PySem.Spec PyProof.Rows
abbrev Key:=Sum Int Str
noncomputable def NS:Key->UA->Bool
 |.inl k,v=>Value.isInt k v
 |.inr x,v=>Value.isStrOf x v
noncomputable def keyH(w:World):Key->Int
 |.inl k=>hashInt k
 |.inr x=>hashStr w x
theorem WF:∀{k:Key}{v:UA},NS k v=xi->(∃i t,k=Sum.inl i/\v=Value.int i t)∨(∃x t,k=Sum.inr x/\v=Value.str x t)
 |.inl i,v,h=>by obtain⟨t,e⟩:=Value.isInt_shape (k:=i) (v:=v) h;exact .inl ⟨i,t,rfl,e⟩
 |.inr x,v,h=>by obtain⟨t,e⟩:=Value.isStrOf_shape (x:=x) (v:=v) h;exact .inr ⟨x,t,rfl,e⟩
theorem EU(a b:Int):decide ((Sum.inl a:Key)=Sum.inl b)=(a==b):=by
 by_cases e:a=b
 .subst e;simp
 .have h:¬(Sum.inl a:Key)=Sum.inl b:=λq=>e (Sum.inl.inj q)
  rw[QI h];exact(beq_eq_false_iff_ne.mpr e).symm
theorem ET(a b:Str):decide ((Sum.inr a:Key)=Sum.inr b)=decide (a=b):=by
 by_cases e:a=b
 .subst e;simp
 .have h:¬(Sum.inr a:Key)=Sum.inr b:=λq=>e (Sum.inr.inj q)
  rw[QI h,QI e]
theorem ES(a:Int)(b:Str):decide ((Sum.inl a:Key)=Sum.inr b)=xj:=QI (λq=>nomatch q)
theorem ER(a:Str)(b:Int):decide ((Sum.inr a:Key)=Sum.inl b)=xj:=QI (λq=>nomatch q)
noncomputable def Oz(prog:UC)(w:World):PySem.KeyKind prog w Key where
 is:=NS
 hash:=keyH w
 inj:=λv a b ha hb=>by
  rcases WF ha with ⟨i,t,rfl,rfl⟩|⟨x,t,rfl,rfl⟩
  .rcases WF hb with ⟨j,u,rfl,e⟩|⟨y,u,rfl,e⟩
   .injection e with e1 _;rw[e1]
   .exact nomatch e
  .rcases WF hb with ⟨j,u,rfl,e⟩|⟨y,u,rfl,e⟩
   .exact nomatch e
   .injection e with e1 _;rw[e1]
 byValue:=λk v h=>by rcases WF h with ⟨i,t,rfl,rfl⟩|⟨x,t,rfl,rfl⟩<;>rfl
 pyHash:=λhv h=>by
  rcases WF hv with ⟨i,t,rfl,rfl⟩|⟨x,t,rfl,rfl⟩
  .exact wpAny_pyHash_int h
  .exact wpAny_pyHash_str h
 eqBool:=λhu hv h=>by
  rcases WF hu with ⟨i,t,rfl,rfl⟩|⟨x,t,rfl,rfl⟩
  .rcases WF hv with ⟨j,u,rfl,rfl⟩|⟨y,u,rfl,rfl⟩
   .rw[EU]at h;exact wpAny_eqBool_int h
   .rw[ES]at h;exact SeqAt.EqAt.int_str i t y u _ _ _ _ h
  .rcases WF hv with ⟨j,u,rfl,rfl⟩|⟨y,u,rfl,rfl⟩
   .rw[ER]at h;exact SeqAt.EqAt.str_int x t j u _ _ _ _ h
   .rw[ET]at h;exact wpAny_eqBool_str h
 «strs»:=λk x t v h=>by
  rcases WF h with ⟨i,u,rfl,e⟩|⟨y,u,rfl,e⟩
  .exact nomatch e
  .injection e with e1 _
   subst e1;cases v<;>rfl
inductive V where
 |non|bl (b:Bool)|int (i:Int)|str (x:Str)|byt (b:Array UInt8)|flt (b:UInt64)|ref (a:UD)|ty (n:String)
 deriving DecidableEq
noncomputable def RelV:V->UA->Prop
 |.non,u=>u=Value.none
 |.bl b,u=>u=Value.bool b
 |.int i,u=>∃t,u=Value.int i t
 |.str x,u=>∃t,u=Value.str x t
 |.byt b,u=>∃t,u=Value.bytes b t
 |.flt b,u=>∃t,u=Value.float b t
 |.ref a,u=>u=Value.ref a
 |.ty n,u=>u=Value.type n
noncomputable abbrev Vals:List V->xo->Prop:=Paired RelV
theorem Vals.length{xs:List V}{us:xo}(r:Vals xs us):xs.length=us.length:=Paired.length r
theorem Vals.get:∀{xs:List V}{us:xo}{i:Nat}{x:V},Vals xs us->xs[i]?=O x->∃u,us[i]?=O u/\RelV x u
 |_,_,_,_,.nil,e=>by simp at e
 |_,_,0,_,.cons r _,e=>by simp at e;subst e;exact⟨_,rfl,r⟩
 |_,_,i+1,x,.cons _ t,e=>by obtain⟨u,h1,h2⟩:=Vals.get (i:=i) (x:=x) t (by simpa using e);exact⟨u,by simpa using h1,h2⟩
theorem Vals.set{x:V}{u:UA}(r:RelV x u):∀{xs:List V}{us:xo}(i:Nat),Vals xs us->Vals (xs.set i x) (us.set i u)
 |_,_,_,.nil=>.nil
 |_,_,0,.cons _ t=>.cons r t
 |_,_,i+1,.cons q t=>.cons q (Vals.set r i t)
theorem Vals.append:∀{xs ys:List V}{us ws:xo},Vals xs us->Vals ys ws->Vals (xs++ys) (us++ws)
 |_,_,_,_,.nil,s=>s
 |_,_,_,_,.cons r t,s=>.cons r (Vals.append t s)
theorem Vals.take:∀{xs:List V}{us:xo}(n:Nat),Vals xs us->Vals (xs.take n) (us.take n)
 |_,_,0,_=>.nil
 |_,_,_+1,.nil=>.nil
 |_,_,n+1,.cons r t=>.cons r (Vals.take n t)
theorem Vals.drop:∀{xs:List V}{us:xo}(n:Nat),Vals xs us->Vals (xs.drop n) (us.drop n)
 |_,_,0,r=>r
 |_,_,_+1,.nil=>.nil
 |_,_,n+1,.cons _ t=>Vals.drop n t
noncomputable def Sm:Option V->xr->Prop
 |some v,O u=>RelV v u
 |none,xg=>True
 |_,_=>False
noncomputable def KV{κ:Type}:List (κ×V)->List (κ×UA)->Prop:=Paired λ(p:κ×V) (q:κ×UA)=>p.1=q.1/\RelV p.2 q.2
noncomputable def kV:Key->V
 |.inl i=>.int i
 |.inr x=>.str x
inductive HO where
  |lst (xs:List V)
  |tup (xs:List V)
  |dK (kvs:List (Key×V))|dT (kvs:List (List Key×V))
  |set (S:Int->Bool) (n:Nat)
  |ins (C dx:UD) (fs:List (Str×V))
  |own (x:UD)
  |xd (fs:List (Str×V))
  |met (f x:UD)
  |rng (lo hi:Int)
  |frz (o:Obj) (u:HO)
  |tbl (ps:Array UA)
  |ext (φ:Heap->Prop)
abbrev Hp:=UD->Option HO
noncomputable def upd(H:Hp)(a:UD)(o:HO):Hp:=λb=>if b=a then O o else H b
theorem ZU{H:Hp}{a:UD}{o:HO}:upd H a o a=O o:=by unfold upd;rw[Qo xf]
theorem Zh{H:Hp}{a b:UD}{o:HO}(h:b≠a):upd H a o b=H b:=by unfold upd;rw[Qv h]
theorem Xn{H:Hp}{a b:UD}{o:HO}(h:H a=O o)(h':H b=xg):a≠b:=by intro e;subst e;rw[h]at h';cases h'
section
variable(P:UC)(w:World)
noncomputable def Yy(H:Hp)(h:Heap)(a:UD):HO->Prop
 |.lst xs=>xs.length<=UG/\∃(its:xo)(n:Nat),Vals xs its/\h.get? a=O {cls:=.type "list", data:=.seq its.toArray n}
 |.tup xs=>xs.length<=UG/\∃its:xo,Vals xs its/\IsTup h a its.toArray
 |.dK kvs=>kvs.length<=UG/\(a==sysModules)=xj/\∃vs,KV kvs vs/\h.DictOf (Oz P w) a vs
 |.dT kvs=>kvs.length<=UG/\(a==sysModules)=xj/\∃xs:List (List Key×UD×UA),
   Paired (λ(p:List Key×V) (q:List Key×UD×UA)=>p.1=q.1/\H q.2.1=O (.tup (p.1.map kV))/\RelV p.2 q.2.2) kvs xs /\
   ∃o es ep,h.get? a=O o/\o.ExactDict/\o.data=.dict es ep/\es.toList=xs.map (entryOfKey (tupleKind (Oz P w)))/\(xs.map (·.1)).Nodup
 |.set S n=>h.SetOf (intKind P w) a S n
 |.ins C dx fs=>H dx=O (.own a)/\fs.length<=1000/\dx≠a/\h.get? a=O (PySem.W.instObj C dx) /\
   ∃mA,h.Ns1 dx mA/\(∀f,Sm (fs.lookup f) (mA f))/\PySem.Within mA (fs.map (·.1))
 |.own _=>∃o,h.get? a=O o
 |.xd fs=>∃mA,h.Ns1 a mA/\∀f,Sm (fs.lookup f) (mA f)
 |.rng lo hi=>∃t u v,h.get? a=O {cls:=.type "range", data:=.fields #[.int lo t,.int hi u,.int 1 v]}
 |.frz o u=>h.get? a=O o/\Yy H h a u
 |.tbl ps=>h.get? a=O {cls:=.none,data:=.fields ps}
 |.met f x=>h.get? a=O (PySem.W.methodObj (.ref f) (.ref x))
 |.ext φ=>φ h/\(∃o,h.get? a=O o)/\∀h1 h2:Heap,φ h1->(∀o,h1.get? a=O o->h2.get? a=O o)->φ h2
def HOk(H:Hp)(h:Heap):Prop:=∀a o,H a=O o->Yy P w H h a o
end
section
variable{P:UC}{w:World}{H H':Hp}{h h':Heap}{a:UD}{o:HO}
theorem Yy.lt(x:Yy P w H h a o):a<h.objs.size:=by
 cases o with
 |lst xs=>obtain⟨_,_,_,_,e⟩:=x;exact Qh e
 |tup xs=>obtain⟨_,_,_,p⟩:=x;exact p.lt
 |dK kvs=>obtain⟨_,_,_,_,o,_,_,e,_⟩:=x;exact Qh e
 |dT kvs=>obtain⟨_,_,_,_,o,_,_,e,_⟩:=x;exact Qh e
 |set S n=>obtain⟨o,_,_,_,e,_⟩:=x;exact Qh e
 |ins C dx fs=>obtain⟨_,_,_,e,_⟩:=x;exact Qh e
 |own y=>obtain⟨_,e⟩:=x;exact Qh e
 |xd fs=>obtain⟨_,⟨_,_,_,e,_⟩,_⟩:=x;exact Qh e
 |rng lo hi=>obtain⟨_,_,_,e⟩:=x;exact Qh e
 |frz ob u=>obtain⟨e,_⟩:=x;exact Qh e
 |tbl ps=>exact Qh (show h.get? a=O _ from x)
 |met f y=>exact Qh (show h.get? a=O _ from x)
 |ext φ=>obtain⟨_,⟨_,e⟩,_⟩:=x;exact Qh e
theorem Paired.mapP{α β:Type}{F G:α->β->Prop}:∀{l₁:List α}{l₂:List β},Paired F l₁ l₂->(∀a b,F a b->G a b)->Paired G l₁ l₂
 |_,_,.nil,_=>.nil
 |_,_,.cons r t,f=>.cons (f _ _ r) (Paired.mapP t f)
theorem Yy.stay(x:Yy P w H h a o)(k:∀b u,(b=a∨H b=O (.own a))->h.get? b=O u->h'.get? b=O u)
  (ho:∀b,H b=O (.own a)->H' b=O (.own a)) (ht:∀b xs,H b=O (.tup xs)->H' b=O (.tup xs)):Yy P w H' h' a o:=by
 induction o with
 |lst xs=>obtain⟨z,its,n,r,e⟩:=x;exact⟨z,its,n,r,k _ _ (.inl xf) e⟩
 |tup xs=>obtain⟨z,its,r,ob,e,c⟩:=x;exact⟨z,its,r,ob,k _ _ (.inl xf) e,c⟩
 |dK kvs=>obtain⟨z,y,vs,r,ob,es,ep,e,c⟩:=x;exact⟨z,y,vs,r,ob,es,ep,k _ _ (.inl xf) e,c⟩
 |dT kvs=>obtain⟨z,y,xs,r,ob,es,ep,e,c⟩:=x;exact⟨z,y,xs,Paired.mapP r λp q z=>⟨z.1,ht _ _ z.2.1,z.2.2⟩,ob,es,ep,k _ _ (.inl xf) e,c⟩
 |set S n=>obtain⟨ob,es,ep,t,e,c⟩:=x;exact⟨ob,es,ep,t,k _ _ (.inl xf) e,c⟩
 |ins C dx fs=>obtain⟨d,z,ne,e,mA,⟨od,es,ep,e2,c⟩,r⟩:=x;exact⟨ho _ d,z,ne,k _ _ (.inl xf) e,mA,⟨od,es,ep,k _ _ (.inr d) e2,c⟩,r⟩
 |own y=>obtain⟨ob,e⟩:=x;exact⟨ob,k _ _ (.inl xf) e⟩
 |xd fs=>obtain⟨mA,⟨od,es,ep,e,c⟩,r⟩:=x;exact⟨mA,⟨od,es,ep,k _ _ (.inl xf) e,c⟩,r⟩
 |rng lo hi=>obtain⟨t,u,v,e⟩:=x;exact⟨t,u,v,k _ _ (.inl xf) e⟩
 |frz ob u ih=>obtain⟨e,q⟩:=x;exact⟨k _ _ (.inl xf) e,ih q⟩
 |tbl ps=>have e:h.get? a=O {cls:=.none,data:=.fields ps}:=x;show h'.get? a=O {cls:=.none,data:=.fields ps};exact k a _ (.inl xf) e
 |met f y=>have e:h.get? a=O (PySem.W.methodObj (.ref f) (.ref y)):=x;show h'.get? a=O (PySem.W.methodObj (.ref f) (.ref y));exact k a _ (.inl xf) e
 |ext φ=>obtain⟨p,⟨o,e⟩,st⟩:=x;exact⟨st _ _ p λo q=>k _ _ (.inl xf) q,⟨o,k _ _ (.inl xf) e⟩,st⟩
theorem HOk.lt(x:HOk P w H h)(e:H a=O o):a<h.objs.size:=(x a o e).lt
theorem HOk.fresh(x:HOk P w H h)(e:h.objs.size<=a):H a=xg:=by
 cases q:H a with
 |none=>rfl
 |some u=>exact absurd (Qz (x.lt q) e) (JA _)
theorem HOk.kept(x:HOk P w H h)(k:∀b u,h.get? b=O u->h'.get? b=O u):HOk P w H h':=λa o e=>
 (x a o e).stay (λb u _ q=>k b u q) (λ_ q=>q) λ_ _ q=>q
theorem HOk.laid(x:HOk P w H h)(k:∀b u,h.get? b=O u->h'.get? b=O u)(hp:h.objs.size<=a)(new:Yy P w (upd H a o) h' a o):HOk P w (upd H a o) h':=λb u e=>by
 have hn:=x.fresh hp;by_cases hb:b=a
 .subst hb;rw[ZU]at e;cases e;exact new
 .rw[Zh hb]at e
  exact(x b u e).stay (λc v _ q=>k c v q) (λc q=>by rw[Zh (Xn q hn)];exact q) λc xs q=>by rw[Zh (Xn q hn)];exact q
end
def Rd(H:Hp)(a:UD)(u:HO):Prop:=H a=O u ∨ ∃o,H a=O (.frz o u)
theorem Rd.ok{P:UC}{w:World}{H:Hp}{h:Heap}{a:UD}{u:HO}(r:Rd H a u)(x:HOk P w H h):Yy P w H h a u:=by
 rcases r with r|⟨o,r⟩
 .exact x a u r
 .obtain⟨_,q⟩:=x a _ r
  exact q
noncomputable def Mut:Option HO->Prop
 |some (.lst _)=>True
 |some (.dK _)=>True
 |some (.dT _)=>True
 |some (.set _ _)=>True
 |some (.ins _ _ _)=>True
 |some (.ext _)=>True
 |_=>False
section
variable{P:UC}{w:World}{H:Hp}{h h':Heap}{x e:UD}{o':HO}
theorem HOk.write(ok:HOk P w H h)(mu:Mut (H x))(he:e=x∨H e=O (.own x))(k:∀b u,b≠e->h.get? b=O u->h'.get? b=O u)(v6:∃u,h'.get? e=O u)
  (new:Yy P w (upd H x o') h' x o'):HOk P w (upd H x o') h':=λb u q=>by
 have nown:∀c y,H c=O (.own y)->c≠x:=λc y r z=>by subst z;rw[r]at mu;exact mu
 have ntup:∀c xs,H c=O (.tup xs)->c≠x:=λc xs r z=>by subst z;rw[r]at mu;exact mu
 by_cases hb:b=x
 .subst hb;rw[ZU]at q;cases q;exact new
 .rw[Zh hb]at q
  by_cases xH:b=e
  .have q':H b=O (.own x):=by
    rcases he with z|z
    .exact absurd (xH.trans z) hb
    .rw[xH];exact z
   rw[q]at q';cases q';obtain⟨v,hv⟩:=v6;exact⟨v,by rw[xH];exact hv⟩
  .refine(ok b u q).stay (λc v hc r=>k c v ?_ r) (λc r=>by rw[Zh (nown c b r)];exact r) λc xs r=>by rw[Zh (ntup c xs r)];exact r
   rcases hc with rfl|hc
   .exact xH
   .rintro rfl
    rcases he with z|z
    .exact nown c b hc z
    .rw[hc]at z;cases z;exact hb xf
end
structure Un(fs ex:xw)(H H':Hp)(h h':Heap):Prop where
 keep:∀b o,h.get? b=O o->H b=xg->b∉fs->b∉ex->h'.get? b=O o
 slot:∀b o,h.get? b=O o->H b=xg->b∈fs->b∉ex->∃sl,h'.get? b=O {o with slots:=sl}
 free:∀b o,h.get? b=O o->H b=xg->b∉ex->H' b=xg
 there:∀b o,h.get? b=O o->b∉ex->∃o',h'.get? b=O o'
 tups:∀b xs,H b=O (.tup xs)->H' b=O (.tup xs)
 frzs:∀b o u,H b=O (.frz o u)->H' b=O (.frz o u)
 tbls:∀b ps,H b=O (.tbl ps)->∃more,H' b=O (.tbl (ps++more))
section
variable{fs fs' ex ex':xw}{H H1 H2:Hp}{h h1 h2 h':Heap}{a x e:UD}{o:HO}
theorem Un.any(u:Un fs ex H H1 h h1){b:UD}{ob:Obj}(q:h.get? b=O ob)(n:H b=xg)(hx:b∉ex):∃sl,h1.get? b=O {ob with slots:=sl}:=by
 by_cases hb:b∈fs
 .exact u.slot b ob q n hb hx
 .exact⟨ob.slots,u.keep b ob q n hb hx⟩
theorem Un.kept(k:∀b u,h.get? b=O u->h'.get? b=O u):Un fs ex H H h h':=
 ⟨λb ob q _ _ _=>k b ob q,λb ob q _ _ _=>⟨ob.slots,k b ob q⟩,λ_ _ _ n _=>n,λb ob q _=>⟨ob,k b ob q⟩,λ_ _ q=>q,λ_ _ _ q=>q,λ_ ps q=>⟨#[],by rw[q];simp⟩⟩
theorem Un.refl:Un fs ex H H h h:=Un.kept λ_ _ q=>q
theorem Un.laid(k:∀b u,h.get? b=O u->h'.get? b=O u)(hp:h.objs.size<=a)(hn:H a=xg):Un fs ex H (upd H a o) h h' where
 keep:=λb u q _ _ _=>k b u q
 slot:=λb u q _ _ _=>⟨u.slots,k b u q⟩
 free:=λb u q n _=>by rw[Zh (QN (Qz (Qh q) hp))];exact n
 there:=λb u q _=>⟨u,k b u q⟩
 tups:=λb xs q=>by rw[Zh (Xn q hn)];exact q
 frzs:=λb u xs q=>by rw[Zh (Xn q hn)];exact q
 tbls:=λb ps q=>⟨#[],by rw[Zh (Xn q hn),q];simp⟩
theorem Un.write(mu:Mut (H x))(he:e=x∨H e=O (.own x))(k:∀b u,b≠e->h.get? b=O u->h'.get? b=O u)(v6:∃u,h'.get? e=O u):Un fs ex H (upd H x o) h h':=by
 have hx:∀b,H b=xg->b≠x:=λb n z=>by subst z;rw[n]at mu;exact mu
 have hb:∀b,H b=xg->b≠e:=λb n z=>by
  subst z;rcases he with r|r
  .exact hx b n r
  .rw[n]at r;cases r
 have hm:∀b u,H b=O u->¬Mut (O u)->b≠x:=λb u q nm z=>by subst z;rw[q]at mu;exact nm mu
 refine⟨λb u q n _ _=>k b u (hb b n) q,λb u q n _ _=>⟨u.slots,k b u (hb b n) q⟩,λb u q n _=>by rw[Zh (hx b n)];exact n,λb u q _=>?_,
  λb xs q=>by rw[Zh (hm b _ q λz=>z)];exact q,λb u xs q=>by rw[Zh (hm b _ q λz=>z)];exact q,λb ps q=>⟨#[],by rw[Zh (hm b _ q λz=>z),q];simp⟩⟩
 by_cases xH:b=e
 .subst xH;exact v6
 .exact⟨u,k b u xH q⟩
end
noncomputable def trk(h:Heap)(H:Hp):xw:=(UK h.objs.size).filter λa=>(H a).isSome
noncomputable def YL(h:Heap)(H:Hp):Heap:=PySem.W.hideAll h (trk h H)
theorem jT(h:Heap)(H:Hp):(YL h H).objs.size=h.objs.size:=PySem.W.hideAll_size _ _
theorem Aw{h:Heap}{H:Hp}{b:UD}{o:Obj}(e:h.get? b=O o)(n:H b=xg):(YL h H).get? b=O o:=
 PySem.W.hideAll_get _ e λhm=>by have q:(H b).isSome=xi:=(Uw.mp hm).2;rw[n]at q;simp at q
theorem C4{h:Heap}{H:Hp}{b:UD}{o:Obj}(e:(YL h H).get? b=O o):h.get? b=O o/\H b=xg:=by
 have e':h.get? b=O o:=PySem.W.of_hideAll (trk h H) e;refine⟨e',?_⟩;cases q:H b with
 |none=>rfl
 |some x=>have hm:b∈trk h H:=List.mem_filter.mpr ⟨List.mem_range.mpr (Heap.lt_size e'),by simp[q]⟩;have z:(YL h H).get? b=xg:=PySem.W.hideAll_none (trk h H) hm;rw[z]at e;cases e
structure Mod(K:Frag)(mg:Str->xr)(base:Heap):Prop where
 kin:K.In base
 glob:base.Ns mainGlobals mg
 blt:∃mb,base.Ns builtinsNs mb/\∀x:Str,x ≠ "__name__" -> mb x=bootBuiltins x
 nolimit:base.NoLimit
structure Cx where
 prog:UC
 w:World
 K:Frag
 mg:Str->xr
 base:Heap
 A:Around
 N:List Str
 s₀:UB
 H₀:Hp
 env:Env
 outer:List Env
 stack:List Env
 ex:xw
 fn:Str->Bool
 calm:Bool
 pn:List (UD×Obj)
 xe:UA->UB->Prop
noncomputable def frs(l:List Env):xw:=l.filterMap (·.frame)
noncomputable abbrev Cx.fs(X:Cx):xw:=frs X.outer
def Vis(sc:Scope)(x:Str):Prop:=sc.names.lookup x=O .local∨sc.names.lookup x=O .cell∨sc.names.lookup x=O .free
def Loc(sc:Scope)(x:Str):Prop:=sc.names.lookup x=O .local∨sc.names.lookup x=O .cell
def Look(env:Env)(h:Heap)(m:Str->xr)(x:Str)(u:UA):Prop:=
 (env.kindOf x=O .local/\m x=O u)∨((env.kindOf x=O .cell∨env.kindOf x=O .free)/\∃c,env.cells.lookup x=O c/\h.IsCell c (O u))
structure Cx.Ok(X:Cx):Prop where
 mod:Mod X.K X.mg X.base
 kind:X.env.scope.kind=.function
 glob:X.env.globals=mainGlobals
 blt:X.env.builtins=builtinsNs
 above:X.s₀.heap.objs.size<=X.env.locals
 inj:∀x y c,X.env.cells.lookup x=O c->X.env.cells.lookup y=O c->x=y
 has:∀x,(X.env.kindOf x=O .cell∨X.env.kindOf x=O .free)->∃c,X.env.cells.lookup x=O c
 cab:∀x c,X.fn x=xi->X.env.cells.lookup x=O c->X.s₀.heap.objs.size<=c
 hd:X.calm=xi->X.A.handled=xg
 frames:X.A.frames=O X.stack
 stk:X.stack=X.outer∨(X.stack=X.env::X.outer/\X.env.frame=O X.env.locals)
 exf:∀b∈X.ex,b≠X.env.locals/\∀x c,X.env.cells.lookup x=O c->c≠b
 bs:∀b o,X.base.get? b=O o->X.s₀.heap.get? b=O o/\X.H₀ b=xg
 bsz:X.base.objs.size<=X.s₀.heap.objs.size
 noex:∀b o,X.base.get? b=O o->b∉X.ex
 exfs:∀b∈X.ex,b∉X.fs
 funs:X.s₀.heap.FunFrames X.base X.outer
 frf:∀b∈X.fs,X.H₀ b=xg
structure Inv(X:Cx)(pins:List (UD×Obj))(σ:List (Option V))(H:Hp)(s:UB):Prop where
 ok:X.Ok
 os:s.os=X.s₀.os
 bare:AllBare s.gens
 base:Un X.fs X.ex X.H₀ H X.s₀.heap s.heap
 loc:∃m,s.heap.Ns X.env.locals m/\∀(i:Nat)(x:Str)(v:V),X.N[i]?=O x->σ[i]?=O (O v)->Vis X.env.scope x->∃u,RelV v u/\Look X.env s.heap m x u
 cell:∀x c,X.env.cells.lookup x=O c->∃v,s.heap.IsCell c v
 free:H X.env.locals=xg
 freeC:∀x c,X.env.cells.lookup x=O c->H c=xg
 pin:∀p∈X.pn++pins,s.heap.get? p.1=O p.2/\H p.1=xg/\p.1≠X.env.locals/\p.1∉X.fs/\∀v,p.2.data≠.cell v
 hok:HOk X.prog X.w H s.heap
 len:σ.length=X.N.length
section
variable{X:Cx}{pins:List (UD×Obj)}{σ:List (Option V)}{H H':Hp}{s:UB}{h':Heap}
theorem Cx.Ok.nofr(ok:X.Ok){b:UD}{o:Obj}(e:X.base.get? b=O o):b∉X.fs:=λhb=>by have:=(ok.funs.mem hb).1;rw[e]at this;cases this
theorem Inv.bs(I:Inv X pins σ H s):∀b o,X.base.get? b=O o->s.heap.get? b=O o/\H b=xg:=λb o e=>
 ⟨I.base.keep b o (I.ok.bs b o e).1 (I.ok.bs b o e).2 (I.ok.nofr e) (I.ok.noex b o e),I.base.free b o (I.ok.bs b o e).1 (I.ok.bs b o e).2 (I.ok.noex b o e)⟩
theorem Inv.bk(I:Inv X pins σ H s):∀b o,X.base.get? b=O o->s.heap.get? b=O o:=λb o e=>(I.bs b o e).1
theorem Inv.mod(I:Inv X pins σ H s):Mod X.K X.mg X.base:=I.ok.mod
theorem Inv.kIn(I:Inv X pins σ H s):X.K.In s.heap:=I.ok.mod.kin.keeps I.bk
theorem Inv.lt(I:Inv X pins σ H s):X.env.locals<s.heap.objs.size:=let ⟨_,hn,_⟩:=I.loc;hn.lt
theorem Inv.sz(I:Inv X pins σ H s):X.s₀.heap.objs.size<=s.heap.objs.size:=QR I.ok.above (Uu I.lt)
theorem Inv.nofs(I:Inv X pins σ H s){a:UD}(h:s.heap.objs.size<=a):a∉X.fs:=λhb=>by obtain⟨_,o,ho,_⟩:=I.ok.funs.mem hb;exact absurd (Qz (Qh ho) (QR I.sz h)) (JA _)
theorem Inv.cne(I:Inv X pins σ H s):∀x c,X.env.cells.lookup x=O c->c≠X.env.locals:=λx c e z=>by obtain⟨v,o,ho,hd⟩:=I.cell x c e;obtain⟨m,⟨o',es,ep,ho',hd',_⟩,_⟩:=I.loc;rw[z,ho']at ho;cases ho;rw[hd']at hd;cases hd
theorem Inv.funs(I:Inv X pins σ H s):s.heap.FunFrames X.base X.outer:=by
 have all:∀(l:List Env),(∀b∈frs l,b∈X.fs)->X.s₀.heap.FunFrames X.base l->s.heap.FunFrames X.base l:=by
  intro l;induction l with
  |nil=>intro _ _;trivial
  |cons env r ih=>
   intro hs hl;obtain⟨hk,⟨L,o,hf,hn,ho,hd⟩,hr⟩:=hl;have hL:L∈X.fs:=hs L (by unfold frs;rw[JK,hf];exact Qk);obtain⟨sl,e⟩:=I.base.slot L o ho (I.ok.frf L hL) hL λz=>I.ok.exfs L z hL
   exact⟨hk,⟨L,_,hf,hn,e,hd⟩,ih (λb hb=>hs b (by unfold frs;rw[JK,hf];exact Qi _ hb)) hr⟩
 exact all X.outer (λ_ hb=>hb) I.ok.funs
theorem Inv.stack(I:Inv X pins σ H s):s.heap.FunFrames X.base X.stack:=by
 rcases I.ok.stk with e|⟨e,hf⟩
 .rw[e];exact I.funs
 .rw[e]
  obtain⟨m,hn,_⟩:=I.loc;refine .cons (by rw[I.ok.kind];decide) hf hn ?_ I.funs;exact Heap.get?_none_of_le (QR I.ok.bsz I.ok.above)
theorem Inv.stkSub(I:Inv X pins σ H s):∀b∈frs X.stack,b∈X.env.locals::X.fs:=λb hb=>by
 rcases I.ok.stk with e|⟨e,hf⟩
 .rw[e]at hb;exact Qi _ hb
 .rw[e]at hb
  unfold frs at hb;rw[JK,hf]at hb;exact hb
theorem Inv.stkFree(I:Inv X pins σ H s):∀b∈frs X.stack,H b=xg:=λb hb=>by
 rcases QL.mp (I.stkSub b hb)with e|hb
 .rw[e];exact I.free
 .obtain⟨_,o,ho,_⟩:=I.ok.funs.mem hb
  exact I.base.free b o ho (I.ok.frf b hb) λz=>I.ok.exfs b z hb
theorem Inv.step{g':Array GenState}{t':Nat}{d':Drawn}{ch:xw}(I:Inv X pins σ H s)
  (hch:∀b∈ch,(b∈X.ex∨X.s₀.heap.objs.size<=b)/\b≠X.env.locals/\(∀x c,X.env.cells.lookup x=O c->c≠b)/\∀p∈X.pn++pins,p.1≠b)
  (keep:∀b o,b≠X.env.locals->b∉X.fs->b∉ch->s.heap.get? b=O o->H b=xg->h'.get? b=O o)
  (slot:∀b o,b≠X.env.locals->b∈X.fs->b∉ch->s.heap.get? b=O o->H b=xg->∃sl,h'.get? b=O {o with slots:=sl}) (free:∀b o,b∉ch->s.heap.get? b=O o->H b=xg->H' b=xg)
  (there:∀b o,b∉ch->s.heap.get? b=O o->∃o',h'.get? b=O o')
  (tups:∀b xs,H b=O (.tup xs)->H' b=O (.tup xs)) (frzs:∀b o u,H b=O (.frz o u)->H' b=O (.frz o u)) (tbls:∀b ps,H b=O (.tbl ps)->∃more,H' b=O (.tbl (ps++more)))
  (ns:∀m,s.heap.Ns X.env.locals m->h'.Ns X.env.locals m) (hok:HOk X.prog X.w H' h') (hg:AllBare g') :
  Inv X pins σ H' {s with heap:=h',gens:=g',drawn:=d',toks:=t'}:=by
 have neL:∀b o,X.s₀.heap.get? b=O o->b≠X.env.locals:=λb o e=>QN (Qz (Qh e) I.ok.above)
 have neC:∀b o,X.s₀.heap.get? b=O o->b∉X.ex->b∉ch:=λb o e hx hb=>by
  rcases(hch b hb).1 with z|z
  .exact hx z
  .exact absurd (Qz (Qh e) z) (JA _)
 have cellK:∀x c,X.env.cells.lookup x=O c->∀v,s.heap.IsCell c v->h'.IsCell c v:=λx c e v ⟨o,ho,hd⟩=>by
  have nch:c∉ch:=λz=>(hch c z).2.2.1 x c e xf
  by_cases hc:c∈X.fs
  .obtain⟨sl,q⟩:=slot c o (I.cne x c e) hc nch ho (I.freeC x c e)
   exact⟨_,q,hd⟩
  .exact⟨o,keep c o (I.cne x c e) hc nch ho (I.freeC x c e),hd⟩
 refine⟨I.ok,I.os,hg,⟨λb o e n hb hx=>?_,λb o e n hb hx=>?_,λb o e n hx=>?_,λb o e hx=>?_,λb xs e=>tups b xs (I.base.tups b xs e),λb o xs e=>frzs b o xs (I.base.frzs b o xs e),λb ps e=>?_⟩,?_,λx c e=>?_,?_,λx c e=>?_,λp hp=>?_,hok,I.len⟩
 .exact keep b o (neL b o e) hb (neC b o e hx) (I.base.keep b o e n hb hx) (I.base.free b o e n hx)
 .obtain⟨sl,e1⟩:=I.base.slot b o e n hb hx
  obtain⟨xM,e2⟩:=slot b _ (neL b o e) hb (neC b o e hx) e1 (I.base.free b o e n hx);exact⟨xM,e2⟩
 .obtain⟨o',e1⟩:=I.base.there b o e hx
  exact free b o' (neC b o e hx) e1 (I.base.free b o e n hx)
 .obtain⟨o',e1⟩:=I.base.there b o e hx
  exact there b o' (neC b o e hx) e1
 .obtain⟨m1,e1⟩:=I.base.tbls b ps e
  obtain⟨m2,e2⟩:=tbls b _ e1;exact⟨m1++m2,by rw[e2,Array.append_assoc]⟩
 .obtain⟨m,hn,hl⟩:=I.loc
  refine⟨m,ns m hn,λi x v e1 e2 e3=>?_⟩;obtain⟨u,r,l⟩:=hl i x v e1 e2 e3;refine⟨u,r,?_⟩;rcases l with l|⟨k,c,e,z⟩
  .exact .inl l
  .exact .inr ⟨k,c,e,cellK x c e _ z⟩
 .obtain⟨v,z⟩:=I.cell x c e
  exact⟨v,cellK x c e v z⟩
 .obtain⟨m,⟨o,_,_,ho,_⟩,_⟩:=I.loc
  exact free _ o (λz=>(hch _ z).2.1 xf) ho I.free
 .obtain⟨v,o,ho,hd⟩:=I.cell x c e
  exact free c o (λz=>(hch c z).2.2.1 x c e xf) ho (I.freeC x c e)
 .obtain⟨e,n,ne,nf,d⟩:=I.pin p hp
  have nch:p.1∉ch:=λz=>(hch p.1 z).2.2.2 p hp xf
  exact⟨keep p.1 p.2 ne nf nch e n,free p.1 p.2 nch e n,ne,nf,d⟩
theorem Inv.un{t':Nat}(I:Inv X pins σ H s)(u:Un X.fs [] H H' s.heap h')(hok:HOk X.prog X.w H' h'):Inv X pins σ H' {s with heap:=h',toks:=t'}:=by obtain⟨m,⟨o,es,ep,ho,r⟩,_⟩:=id I.loc;obtain⟨sl,hL⟩:=u.any ho I.free (by simp);exact I.step (g':=s.gens) (d':=s.drawn) (ch:=[]) (λ_ z=>nomatch z) (λb o _ hb _ e n=>u.keep b o e n hb (by simp)) (λb o _ hb _ e n=>u.slot b o e n hb (by simp)) (λb o _ e n=>u.free b o e n (by simp)) (λb o _ e=>u.there b o e (by simp)) u.tups u.frzs u.tbls (λm' hm=>by obtain⟨o',es',ep',ho',r'⟩:=hm;rw[ho]at ho';cases ho';exact⟨_,es',ep',hL,r'⟩) hok I.bare
theorem Inv.call{g':Array GenState}{t':Nat}{d':Drawn}{ch:xw}(I:Inv X pins σ H s)(u:Un (frs X.stack) ch H H' s.heap h')(hok:HOk X.prog X.w H' h')(hg:AllBare g')
  (hch:∀b∈ch,(b∈X.ex∨X.s₀.heap.objs.size<=b)/\b≠X.env.locals/\(∀x c,X.env.cells.lookup x=O c->c≠b)/\∀p∈X.pn++pins,p.1≠b) :
  Inv X pins σ H' {s with heap:=h',gens:=g',drawn:=d',toks:=t'}:=by
 obtain⟨m,⟨o,es,ep,ho,r⟩,_⟩:=id I.loc;obtain⟨sl,hL⟩:=u.any ho I.free λz=>(hch _ z).2.1 xf
 exact I.step (ch:=ch) hch (λb o hL hb hc e n=>u.keep b o e n (λz=>(QL.mp (I.stkSub b z)).elim hL hb) hc) (λb o _ _ hc e n=>u.any e n hc) (λb o hc e n=>u.free b o e n hc) (λb o hc e=>u.there b o e hc) u.tups u.frzs u.tbls (λm' hm=>by obtain⟨o',es',ep',ho',r'⟩:=hm;rw[ho]at ho';cases ho';exact⟨_,es',ep',hL,r'⟩) hok hg
theorem Inv.turned{t':Nat}{it:UD}(I:Inv X pins σ H s)(k:∀b o,b≠it->s.heap.get? b=O o->h'.get? b=O o)(hn:H it=xg)(hL:it≠X.env.locals)
  (h1:it∈X.ex∨X.s₀.heap.objs.size<=it) (h2:∀x c,X.env.cells.lookup x=O c->c≠it) (h3:∀p∈X.pn++pins,p.1≠it):Inv X pins σ H {s with heap:=h',toks:=t'}:=by
 have nit:∀b u,H b=O u->b≠it:=λb u e z=>by rw[z,hn]at e;cases e
 refine I.step (g':=s.gens) (d':=s.drawn) (ch:=[it]) (λb hb=>?_) (λb o _ _ hc e _=>k b o (λz=>hc (by simp[z])) e) (λb o _ _ hc e _=>⟨o.slots,k b o (λz=>hc (by simp[z])) e⟩) (λ_ _ _ _ n=>n)
  (λb o hc e=>⟨o,k b o (λz=>hc (by simp[z])) e⟩) (λ_ _ e=>e) (λ_ _ _ e=>e) (λb ps e=>⟨#[],by rw[e];simp⟩) (λm hm=>?_) (λb u e=>?_) I.bare
 .have e:b=it:=by simpa using hb
  subst e;exact⟨h1,hL,h2,h3⟩
 .obtain⟨o,es,ep,ho,r⟩:=hm
  exact⟨o,es,ep,k _ o (Ne.symm hL) ho,r⟩
 .refine(I.hok b u e).stay (λc v hc q=>k c v ?_ q) (λ_ q=>q) λ_ _ q=>q
  rcases hc with z|z
  .rw[z];exact nit b u e
  .exact nit c _ z
theorem Inv.tok(I:Inv X pins σ H s)(t:Nat):Inv X pins σ H {s with toks:=t}:=I.un (h':=s.heap) (t':=t) Un.refl I.hok
theorem Inv.kept{t':Nat}(I:Inv X pins σ H s)(k:∀b u,s.heap.get? b=O u->h'.get? b=O u):Inv X pins σ H {s with heap:=h',toks:=t'}:=I.un (Un.kept k) (I.hok.kept k)
theorem Inv.laid{a:UD}{o:HO}{t':Nat}(I:Inv X pins σ H s)(k:∀b u,s.heap.get? b=O u->h'.get? b=O u)(hp:s.heap.objs.size<=a)(new:Yy X.prog X.w (upd H a o) h' a o) :
  Inv X pins σ (upd H a o) {s with heap:=h',toks:=t'}:=I.un (Un.laid k hp (I.hok.fresh hp)) (I.hok.laid k hp new)
theorem Inv.write{x e:UD}{o:HO}{t':Nat}(I:Inv X pins σ H s)(mu:Mut (H x))(he:e=x∨H e=O (.own x))(k:∀b u,b≠e->s.heap.get? b=O u->h'.get? b=O u)(v6:∃u,h'.get? e=O u)
  (new:Yy X.prog X.w (upd H x o) h' x o):Inv X pins σ (upd H x o) {s with heap:=h',toks:=t'}:=I.un (Un.write mu he k v6) (I.hok.write mu he k v6 new)
theorem Inv.pins_of{pins':List (UD×Obj)}(I:Inv X pins σ H s)(h:∀p∈pins',s.heap.get? p.1=O p.2/\H p.1=xg/\p.1≠X.env.locals/\p.1∉X.fs/\∀v,p.2.data≠.cell v):Inv X pins' σ H s:=
 ⟨I.ok,I.os,I.bare,I.base,I.loc,I.cell,I.free,I.freeC,λp hp=>(QU.mp hp).elim (λz=>I.pin p (Q9 _ z)) (h p),I.hok,I.len⟩
theorem LI{N:List Str}(hN:N.Nodup){i j:Nat}{x:Str}(a:N[i]?=O x)(b:N[j]?=O x):i=j:=by obtain⟨h1,e1⟩:=Qg.mp a;obtain⟨h2,e2⟩:=Qg.mp b;exact(List.getElem_inj hN).mp (e1.trans e2.symm)
theorem Nb{M:Model}{A:Around}{E:UA->UB->Prop}{i:Nat}{x:Str}{v:V}{u:UA}{Q:Unit->UB->Prop}(I:Inv X pins σ H s)(hN:X.N.Nodup)(hi:X.N[i]?=O x)(hx:Loc X.env.scope x)(r:RelV v u)
  (h:∀s',Inv X pins (σ.set i (O v)) H s'->(∃a,Heap.SameBut a s.heap s'.heap/\(a=X.env.locals∨X.env.cells.lookup x=O a))->Q () s') (hf:X.fn x=xi∨X.env.scope.names.lookup x=O .local:=by first|exact .inl rfl|exact .inr rfl|assumption):UH M A (storeName X.env x u) Q E s:=by
 obtain⟨m,hn,hl⟩:=id I.loc;have hcls:(X.env.scope.kind==.class || (X.env.scope.kind==.module&&X.env.locals != X.env.globals))=xj:=by rw[I.ok.kind];rfl
 have hiσ:i<σ.length:=by rw[I.len];exact(Qg.mp hi).1
 have cne:=I.cne
 have tracked:∀{a:UD}{h':Heap},(∃o,s.heap.get? a=O o/\H a=xg)->Heap.SameBut a s.heap h'->HOk X.prog X.w H h':=λ{a h'} ha hs b ob e=>by
  obtain⟨_,_,hfree⟩:=ha;refine(I.hok b ob e).stay (λc w' hc q=>(hs.2 c ?_).trans q) (λ_ q=>q) λ_ _ q=>q
  rintro rfl;rcases hc with rfl|hc
  .rw[hfree]at e;cases e
  .rw[hfree]at hc;cases hc
 rcases hx with hk|hk
 .refine wpAny_storeName_local hk hn (λh' hn' hs=>?_) hcls
  obtain⟨oL,_,_,hoL,_⟩:=id hn;refine h _ ⟨I.ok,I.os,I.bare,⟨λb o e n hb hx=>?_,λb o e n hb hx=>?_,I.base.free,λb o e hx=>?_,I.base.tups,I.base.frzs,I.base.tbls⟩,⟨_,hn',λj y v' e1 e2 e3=>?_⟩,λy c e=>?_,I.free,I.freeC,λp hp=>?_,tracked ⟨oL,hoL,I.free⟩ hs,by simpa using I.len⟩ ⟨_,hs,.inl xf⟩
  .exact(hs.2 b (QN (Qz (Qh e) I.ok.above))).trans (I.base.keep b o e n hb hx)
  .obtain⟨sl,e1⟩:=I.base.slot b o e n hb hx
   exact⟨sl,(hs.2 b (QN (Qz (Qh e) I.ok.above))).trans e1⟩
  .obtain⟨o',e1⟩:=I.base.there b o e hx
   exact⟨o',(hs.2 b (QN (Qz (Qh e) I.ok.above))).trans e1⟩
  .by_cases hj:j=i
   .subst hj
    rw[hi]at e1;cases e1;rw[QK hiσ]at e2;cases e2;exact⟨u,r,.inl ⟨hk,by simp⟩⟩
   .rw[Qx (Ne.symm hj)]at e2
    obtain⟨u',r',q⟩:=hl j y v' e1 e2 e3;refine⟨u',r',?_⟩;rcases q with ⟨k,e⟩|⟨k,c,e,z⟩
    .refine .inl ⟨k,?_⟩
     have:y≠x:=λe=>hj (LI hN e1 (e ▸ hi))
     simp[this,e]
    .exact .inr ⟨k,c,e,z.sameBut hs (cne y c e)⟩
  .obtain⟨w',z⟩:=I.cell y c e
   exact⟨w',z.sameBut hs (cne y c e)⟩
  .obtain⟨e,n,ne,nf,d⟩:=I.pin p hp
   exact⟨(hs.2 p.1 ne).trans e,n,ne,nf,d⟩
 .have hfn:X.fn x=xi:=by
   rcases hf with z|z
   .exact z
   .rw[z]at hk;cases hk
  obtain⟨c,hc⟩:=I.ok.has x (.inl hk);obtain⟨w',z⟩:=I.cell x c hc;refine wpAny_storeName_cell I.ok.kind hk hc z (λh' hc' hs=>?_);obtain⟨oc,hoc,hocd⟩:=id z;refine h {s with heap:=h'} ⟨I.ok,I.os,I.bare,⟨λb o e n hb hx=>?_,λb o e n hb hx=>?_,I.base.free,λb o e hx=>?_,I.base.tups,I.base.frzs,I.base.tbls⟩,⟨m,hn.sameBut hs (Ne.symm (cne x c hc)),λj y v' e1 e2 e3=>?_⟩,λy c' e=>?_,I.free,I.freeC,λp hp=>?_,tracked ⟨oc,hoc,I.freeC x c hc⟩ hs,by simpa using I.len⟩ ⟨c,hs,.inr hc⟩
  .exact(hs.2 b (QN (Qz (Qh e) (I.ok.cab x c hfn hc)))).trans (I.base.keep b o e n hb hx)
  .obtain⟨sl,e1⟩:=I.base.slot b o e n hb hx
   exact⟨sl,(hs.2 b (QN (Qz (Qh e) (I.ok.cab x c hfn hc)))).trans e1⟩
  .obtain⟨o',e1⟩:=I.base.there b o e hx
   exact⟨o',(hs.2 b (QN (Qz (Qh e) (I.ok.cab x c hfn hc)))).trans e1⟩
  .by_cases hj:j=i
   .subst hj
    rw[hi]at e1;cases e1;rw[QK hiσ]at e2;cases e2;exact⟨u,r,.inr ⟨.inl hk,c,hc,hc'⟩⟩
   .rw[Qx (Ne.symm hj)]at e2
    obtain⟨u',r',q⟩:=hl j y v' e1 e2 e3;refine⟨u',r',?_⟩;rcases q with q|⟨k,c',e,z'⟩
    .exact .inl q
    .refine .inr ⟨k,c',e,z'.sameBut hs ?_⟩
     rintro rfl;exact hj (LI hN e1 (I.ok.inj _ _ _ e hc ▸ hi))
  .by_cases hcc:c'=c
   .subst hcc;exact⟨_,hc'⟩
   .obtain⟨w2,z2⟩:=I.cell y c' e
    exact⟨w2,z2.sameBut hs hcc⟩
  .obtain⟨e,n,ne,nf,d⟩:=I.pin p hp
   refine⟨(hs.2 p.1 ?_).trans e,n,ne,nf,d⟩;intro q;rw[q,hoc]at e;have q':oc=p.2:=Q5 e;exact d w' (by rw[←q'];exact hocd)
theorem OR{M:Model}{A:Around}{E:UA->UB->Prop}{i:Nat}{x:Str}{v:V}{u:UA}{Q:Unit->UB->Prop}(I:Inv X pins σ H s)(hN:X.N.Nodup)(hi:X.N[i]?=O x)(hx:Loc X.env.scope x)(r:RelV v u)
  (h:∀s',Inv X pins (σ.set i (O v)) H s'->Q () s') (hf:X.fn x=xi∨X.env.scope.names.lookup x=O .local:=by first|exact .inl rfl|exact .inr rfl|assumption):UH M A (storeName X.env x u) Q E s:=
 Nb I hN hi hx r (λs' I' _=>h s' I') hf
theorem Inv.call'{s':UB}{ch:xw}(I:Inv X pins σ H s)(ho:s'.os=s.os)(u:Un (frs X.stack) ch H H' s.heap s'.heap)(hok:HOk X.prog X.w H' s'.heap)(hg:AllBare s'.gens)
  (hch:∀b∈ch,(b∈X.ex∨X.s₀.heap.objs.size<=b)/\b≠X.env.locals/\(∀x c,X.env.cells.lookup x=O c->c≠b)/\∀p∈X.pn++pins,p.1≠b):Inv X pins σ H' s':=by
 obtain⟨h',g',d',t',o'⟩:=s';have e:o'=s.os:=ho;subst e;exact I.call (g':=g') (t':=t') (d':=d') u hok hg hch
end
abbrev XK:=UA->xz->Hp->Prop
abbrev St:=List (Option V)
abbrev VK:=V->Hp->Prop
abbrev TE:=St->Hp->VK->Prop
abbrev TT:=St->Hp->(Bool->Hp->Prop)->Prop
abbrev TA:=St->Hp->(List V->Hp->Prop)->Prop
structure Ends where
 nx:St->Hp->Prop
 rt:VK
 bk:St->Hp->Prop:=λ_ _=>False
 ct:St->Hp->Prop:=λ_ _=>False
abbrev TS:=Ends->St->Hp->Prop
def EP(X:Cx)(pins:List (UD×Obj))(σ:St)(Q:VK)(u:UA)(s':UB):Prop:=∃v H',Inv X pins σ H' s'/\RelV v u/\Q v H'
def TP(X:Cx)(pins:List (UD×Obj))(σ:St)(Q:Bool->Hp->Prop)(b:Bool)(s':UB):Prop:=∃H',Inv X pins σ H' s'/\Q b H'
def AP(X:Cx)(pins:List (UD×Obj))(σ:St)(Q:List V->Hp->Prop)(us:xo)(s':UB):Prop:=∃vs H',Inv X pins σ H' s'/\Vals vs us/\Q vs H'
def SP(X:Cx)(pins:List (UD×Obj))(D:Ends)(f:Flow)(s':UB):Prop:=
 match f with
 |.next=>∃σ' H',Inv X pins σ' H' s'/\D.nx σ' H'
 |.brk=>∃σ' H',Inv X pins σ' H' s'/\D.bk σ' H'
 |.cont=>∃σ' H',Inv X pins σ' H' s'/\D.ct σ' H'
 |.ret u=>∃v σ' H',Inv X pins σ' H' s'/\RelV v u/\D.rt v H'
def PE(X:Cx)(e:UF)(t:TE):Prop:=
 ∀(pins:List (UD×Obj))(s:UB)(σ:St)(H:Hp)(Q:VK),Inv X pins σ H s->t σ H Q->UH (model X.prog X.w) X.A (eval e X.env) (EP X pins σ Q) X.xe s
def PT(X:Cx)(e:UF)(t:TT):Prop:=
 ∀(pins:List (UD×Obj))(s:UB)(σ:St)(H:Hp)(Q:Bool->Hp->Prop),Inv X pins σ H s->t σ H Q->UH (model X.prog X.w) X.A (isTrue e X.env (eval e X.env)) (TP X pins σ Q) X.xe s
def PW(X:Cx)(e:UF)(t:TT):Prop:=
 ∀(whole:Sem UA)(pins:List (UD×Obj))(s:UB)(σ:St)(H:Hp)(Q:Bool->Hp->Prop),Inv X pins σ H s->t σ H Q->UH (model X.prog X.w) X.A (isTrue e X.env whole) (TP X pins σ Q) X.xe s
theorem PW.pt{X:Cx}{e:UF}{t:TT}(h:PW X e t):PT X e t:=h _
def PA(X:Cx)(es:xp)(t:TA):Prop:=
 ∀(pos:Pos)(pins:List (UD×Obj))(s:UB)(σ:St)(H:Hp)(Q:List V->Hp->Prop),Inv X pins σ H s->t σ H Q->UH (model X.prog X.w) X.A (spliced (backTo pos (UI es X.env))) (AP X pins σ Q) X.xe s
def PS(X:Cx)(st:Stmt)(t:TS):Prop:=
 ∀(pins:List (UD×Obj))(s:UB)(σ:St)(H:Hp)(D:Ends),Inv X pins σ H s->t D σ H->UH (model X.prog X.w) X.A (exec st X.env) (SP X pins D) X.xe s
def PSs(X:Cx)(st:List Stmt)(t:TS):Prop:=
 ∀(pins:List (UD×Obj))(s:UB)(σ:St)(H:Hp)(D:Ends),Inv X pins σ H s->t D σ H->UH (model X.prog X.w) X.A (execs st X.env) (SP X pins D) X.xe s
theorem thn{α:Type}{t:Sem α}{Q Q':α->UB->Prop}{M:Model}{A:Around}{E:UA->UB->Prop}{s:UB}(h:UH M A t Q E s)(hQ:∀a s,Q a s->Q' a s):UH M A t Q' E s:=QO h hQ λ_ _ x=>x
section
variable{X:Cx}
noncomputable def Zy(i:Nat):TE:=λσ H Q=>∃v,σ[i]?=O (O v)/\Q v H
noncomputable def tC(v:V):TE:=λ_ H Q=>Q v H
theorem Mb{i:Nat}{x:Str}{pos:Pos}(hN:X.N[i]?=O x)(hv:Vis X.env.scope x)(hd:(x==("__debug__" : Str))=xj:=by decide)(hcd:(x==("__classdict__" : Str))=xj:=by decide):PE X (.Name x pos) (Zy i):=by
 intro pins s σ H Q I h;obtain⟨v,e,h⟩:=h;obtain⟨m,hn,hl⟩:=I.loc;obtain⟨u,r,l⟩:=hl i x v hN e hv;have fin:EP X pins σ Q u s:=⟨v,H,I,r,h⟩;rcases l with ⟨hk,hm⟩|⟨hk,c,hc,hcell⟩
 .exact wpAny_Name (wpAny_loadName_local I.ok.kind hk hn hm fin) hd
 .rcases hk with hk|hk
  .exact wpAny_Name (wpAny_loadName_cell I.ok.kind hk hc hcell fin) hd
  .exact wpAny_Name (wpAny_loadName_free I.ok.kind hk hc hcell fin hcd) hd
theorem EQ{i j pos}:PE X (.Constant (.int i) j pos) (tC (.int i)):=λ_ _ _ H _ I h=>wpAny_Constant_int ⟨.int i,H,I.tok _,⟨_,rfl⟩,h⟩
theorem EG{b j pos}:PE X (.Constant (.bool b) j pos) (tC (.bl b)):=λ_ _ _ H _ I h=>Constant_bool ⟨.bl b,H,I,rfl,h⟩
theorem EO{j pos}:PE X (.Constant .none j pos) (tC .non):=λ_ _ _ H _ I h=>Constant_none ⟨.non,H,I,rfl,h⟩
theorem EN{x j pos}:PE X (.Constant (.str x) j pos) (tC (.str x)):=λ_ _ _ H _ I h=>Calls.Constant_str ⟨.str x,H,I.tok _,⟨_,rfl⟩,h⟩
def Gl(X:Cx)(x:Str):Prop:=X.env.kindOf x=O .globalImplicit
theorem Lw{E:UA->UB->Prop}{pins:List (UD×Obj)}{s:UB}{σ:St}{H:Hp}{x:Str}{u:UA}{pos:Pos}{Q:UA->UB->Prop}(I:Inv X pins σ H s)(hg:Gl X x)(hm:X.mg x=O u)(h:Q u s)
  (hd:(x==("__debug__" : Str))=xj:=by decide):UH (model X.prog X.w) X.A (eval (.Name x pos) X.env) Q E s:=
 Calls.Name_function_global I.ok.kind hg (Calls.loadGlobal_global (by rw[I.ok.glob];exact I.mod.glob.keeps I.bk) hm h) hd
theorem Vz{E:UA->UB->Prop}{pins:List (UD×Obj)}{s:UB}{σ:St}{H:Hp}{x:Str}{u:UA}{pos:Pos}{Q:UA->UB->Prop}(I:Inv X pins σ H s)(hg:Gl X x)(hm:X.mg x=xg)(hv:bootBuiltins x=O u)(h:Q u s)
  (hn:x ≠ "__name__" :=by decide) (hd:(x==("__debug__" : Str))=xj:=by decide):UH (model X.prog X.w) X.A (eval (.Name x pos) X.env) Q E s:=by
 obtain⟨mb,h1,h2⟩:=I.mod.blt;exact Calls.Name_function_global I.ok.kind hg (Calls.loadGlobal_builtin (by rw[I.ok.glob];exact I.mod.glob.keeps I.bk) hm (by rw[I.ok.blt];exact h1.keeps I.bk) ((h2 x hn).trans hv) h) hd
theorem Lv{x:Str}{v:V}{u:UA}{pos:Pos}(hg:Gl X x)(hm:X.mg x=O u)(r:RelV v u)(hd:(x==("__debug__" : Str))=xj:=by decide):PE X (.Name x pos) (tC v):=
 λ_ _ _ H _ I h=>Lw I hg hm ⟨v,H,I,r,h⟩ hd
theorem C3{x:Str}{v:V}{u:UA}{pos:Pos}(hg:Gl X x)(hm:X.mg x=xg)(hv:bootBuiltins x=O u)(r:RelV v u)(hn:x ≠ "__name__" :=by decide)(hd:(x==("__debug__" : Str))=xj:=by decide):PE X (.Name x pos) (tC v):=
 λ_ _ _ H _ I h=>Vz I hg hm hv ⟨v,H,I,r,h⟩ hn hd
variable{a b:UF}{ta tb:TE}{pos:Pos}
def PC(X:Cx)(op:CmpOp)(a b:UF)(t:TE):Prop:=
 ∀(pins:List (UD×Obj))(s:UB)(σ:St)(H:Hp)(Q:VK),Inv X pins σ H s->t σ H Q ->
  UH (model X.prog X.w) X.A (eval a X.env) (λv s₁=>UH (model X.prog X.w) X.A (eval b X.env) (λu s₂=>UH (model X.prog X.w) X.A (UJ op v u) (EP X pins σ Q) X.xe s₂) X.xe s₁) X.xe s
theorem LH(b:UF){op:CmpOp}(h:op≠.In)(h2:op≠.NotIn):behindInMarks op b=xj:=by
 have e1:(op==CmpOp.In)=xj:=by cases op<;>first|rfl|exact absurd xf h
 have e2:(op==CmpOp.NotIn)=xj:=by cases op<;>first|rfl|exact absurd xf h2
 cases b<;>simp[behindInMarks,e1,e2]
noncomputable def tIsN(ta:TE):TE:=λσ H Q=>ta σ H λx H1=>Q (.bl (decide (x=.non))) H1
noncomputable def EF(ta:TE):TE:=λσ H Q=>ta σ H λx H1=>Q (.bl (!decide (x=.non))) H1
theorem RelV.none_iff{x:V}{v:UA}(r:RelV x v):(v==Value.none)=decide (x=.non):=by
 cases x with
 |non=>cases r;rfl
 |bl _=>cases r;rfl
 |int _=>obtain⟨t,rfl⟩:=r;rfl
 |str _=>obtain⟨t,rfl⟩:=r;rfl
 |byt _=>obtain⟨t,rfl⟩:=r;rfl
 |flt _=>obtain⟨t,rfl⟩:=r;rfl
 |ref _=>cases r;rfl
 |ty _=>cases r;rfl
theorem Ma{j pos'}(ha:PE X a ta):PC X .Is a (.Constant .none j pos') (tIsN ta):=by intro pins s σ H Q I h;refine thn (ha pins s σ H _ I h) λv s1 ⟨x,H1,I1,r1,q1⟩=>?_;exact Constant_none (is_none_gen ⟨.bl _,H1,I1,by rw[r1.none_iff];rfl,q1⟩)
theorem C0{j pos'}(ha:PE X a ta):PC X .IsNot a (.Constant .none j pos') (EF ta):=by intro pins s σ H Q I h;refine thn (ha pins s σ H _ I h) λv s1 ⟨x,H1,I1,r1,q1⟩=>?_;exact Constant_none (isnot_none_gen ⟨.bl _,H1,I1,by rw[r1.none_iff];rfl,q1⟩)
noncomputable def tB(t:TE):TT:=λσ H Q=>t σ H λx H1=>∃c,x=.bl c/\Q c H1
theorem EM{op:CmpOp}{t:TE}(h:PC X op a b t)(h1:behindInMarks op b=xj:=by first|exact LH _ (by decide) (by decide)|rfl):PE X (.Compare a [op] [b] pos) t:=λpins s σ H Q I hw=>wpAny_Compare1 (h pins s σ H Q I hw) h1
theorem N9{op:CmpOp}{t:TE}(h:PC X op a b t)(h1:behindInMarks op b=xj:=by first|exact LH _ (by decide) (by decide)|rfl):PT X (.Compare a [op] [b] pos) (tB t):=by intro pins s σ H Q I hw;refine wpAny_isTrue_Compare1 (thn (h pins s σ H _ I hw) λv s1 h1=>thn h1 λu s2 h2=>thn h2 λc s3 ⟨x,H1,I1,r1,q1⟩=>?_) h1;obtain⟨d,rfl,q⟩:=q1;cases r1;exact QX ⟨H1,I1,q⟩
theorem EL{e:UF}{t:TE}(h:PE X e t)(he:∀whole,isTrue e X.env whole=(do let v ←whole;standAt e.pos;holding [v] (truthy v)):=by intro _;rfl):PT X e (tB t):=by intro pins s σ H Q I hw;refine isTrue_plain (thn (h pins s σ H _ I hw) λv s1 ⟨x,H1,I1,r1,q1⟩=>?_) (he _);obtain⟨d,rfl,q⟩:=q1;cases r1;exact QX ⟨H1,I1,q⟩
variable{tA tB':TT}{rest:xp}
noncomputable def tAnd(t u:TT):TT:=λσ H Q=>t σ H λc H1=>if c=xi then u σ H1 Q else Q xj H1
noncomputable def tOr(t u:TT):TT:=λσ H Q=>t σ H λc H1=>if c=xi then Q xi H1 else u σ H1 Q
noncomputable def tNot(t:TT):TT:=λσ H Q=>t σ H λc H1=>Q (!c) H1
theorem CZ(ha:PT X a tA):PW X (.BoolOp .And [a] pos) tA:=by
 intro wh pins s σ H Q I h;refine isTrue_and (thn (ha pins s σ H Q I h) λc s1 e=>?_);cases c with
 |true=>exact isTrue_and_nil e
 |false=>exact e
theorem EK(ha:PT X a tA):PW X (.BoolOp .Or [a] pos) tA:=by
 intro wh pins s σ H Q I h;refine isTrue_or (thn (ha pins s σ H Q I h) λc s1 e=>?_);cases c with
 |false=>exact isTrue_or_nil e
 |true=>exact e
theorem EJ(ha:PT X a tA)(hb:PW X (.BoolOp .And (b::rest) pos) tB'):PW X (.BoolOp .And (a::b::rest) pos) (tAnd tA tB'):=by
 intro wh pins s σ H Q I h;refine isTrue_and (thn (ha pins s σ H _ I h) λc s1 ⟨H1,I1,q1⟩=>?_);cases c with
 |true=>exact hb wh pins s1 σ H1 Q I1 q1
 |false=>exact⟨H1,I1,q1⟩
theorem EE(ha:PT X a tA)(hb:PW X (.BoolOp .Or (b::rest) pos) tB'):PW X (.BoolOp .Or (a::b::rest) pos) (tOr tA tB'):=by
 intro wh pins s σ H Q I h;refine isTrue_or (thn (ha pins s σ H _ I h) λc s1 ⟨H1,I1,q1⟩=>?_);cases c with
 |true=>exact⟨H1,I1,q1⟩
 |false=>exact hb wh pins s1 σ H1 Q I1 q1
theorem Dv(ha:PT X a tA):PT X (.UnaryOp .Not a pos) (tNot tA):=by intro pins s σ H Q I h;exact isTrue_not (ha pins s σ H (λc H1=>Q (!c) H1) I h)
noncomputable def ED(ta tb:TE):TE:=λσ H Q=>ta σ H λx H1=>∃c,x=.bl c/\if c=xi then tb σ H1 Q else Q (.bl xj) H1
noncomputable def tOrV(ta tb:TE):TE:=λσ H Q=>ta σ H λx H1=>∃c,x=.bl c/\if c=xi then Q (.bl xi) H1 else tb σ H1 Q
noncomputable def EC(ta:TE):TE:=λσ H Q=>ta σ H λx H1=>∃c,x=.bl c/\Q (.bl (!c)) H1
theorem Du{op}{t:TE}(h:PE X a t):PE X (.BoolOp op [a] pos) t:=λpins s σ H Q I hw=>BoolOp_one (h pins s σ H Q I hw)
theorem Dt(ha:PE X a ta)(hb:PE X (.BoolOp .And (b::rest) pos) tb):PE X (.BoolOp .And (a::b::rest) pos) (ED ta tb):=by
 intro pins s σ H Q I h;refine BoolOp_and (thn (ha pins s σ H _ I h) λv s1 ⟨x,H1,I1,r1,q1⟩=>?_);obtain⟨c,rfl,q1⟩:=q1;cases r1;refine QX ?_;cases c with
 |true=>exact hb pins s1 σ H1 Q I1 q1
 |false=>exact⟨.bl xj,H1,I1,rfl,q1⟩
theorem EB(ha:PE X a ta)(hb:PE X (.BoolOp .Or (b::rest) pos) tb):PE X (.BoolOp .Or (a::b::rest) pos) (tOrV ta tb):=by
 intro pins s σ H Q I h;refine BoolOp_or (thn (ha pins s σ H _ I h) λv s1 ⟨x,H1,I1,r1,q1⟩=>?_);obtain⟨c,rfl,q1⟩:=q1;cases r1;refine QX ?_;cases c with
 |false=>exact hb pins s1 σ H1 Q I1 q1
 |true=>exact⟨.bl xi,H1,I1,rfl,q1⟩
theorem Ds(ha:PE X a ta):PE X (.UnaryOp .Not a pos) (EC ta):=by intro pins s σ H Q I h;refine UnaryOp_ (thn (ha pins s σ H _ I h) λv s1 ⟨x,H1,I1,r1,q1⟩=>?_);obtain⟨c,rfl,q1⟩:=q1;cases r1;exact not_of (QX ⟨.bl (!c),H1,I1,rfl,q1⟩)
noncomputable def tIf(t:TT)(ta tb:TE):TE:=λσ H Q=>t σ H λc H1=>if c=xi then ta σ H1 Q else tb σ H1 Q
theorem Av{c:UF}(hc:PT X c tA)(ha:PE X a ta)(hb:PE X b tb):PE X (.IfExp c a b pos) (tIf tA ta tb):=by
 intro pins s σ H Q I h;refine wpAny_IfExp (thn (hc pins s σ H _ I h) λd s1 ⟨H1,I1,q1⟩=>?_);cases d with
 |true=>exact ha pins s1 σ H1 Q I1 q1
 |false=>exact hb pins s1 σ H1 Q I1 q1
end
def SqL(K:Frag)(H:Hp)(a:UD)(xs:List V):Prop:=
 Rd H a (.lst xs) ∨
  ∃(o:Obj)(its:Array UA)(n:Nat),K.lookup a=O o/\o.cls=.type "list" /\ o.dict=xg/\o.data=.seq its n/\its.size<=UG/\Vals xs its.toList
def SqT(K:Frag)(H:Hp)(a:UD)(xs:List V):Prop:=
 Rd H a (.tup xs) ∨
  ∃(o:Obj)(its:Array UA)(n:Nat),K.lookup a=O o/\o.cls=.type "tuple" /\ o.data=.seq its n/\its.size<=UG/\Vals xs its.toList
noncomputable def absV:UA->Option V
 |.none=>O .non
 |.bool b=>O (.bl b)
 |.int i _=>O (.int i)
 |.str x _=>O (.str x)
 |.bytes b _=>O (.byt b)
 |.float b _=>O (.flt b)
 |.ref a=>O (.ref a)
 |.type n=>O (.ty n)
 |_=>xg
theorem RelV.abs{x:V}{u:UA}(r:RelV x u):absV u=O x:=by
 cases x with
 |non=>cases r;rfl
 |bl _=>cases r;rfl
 |int _=>obtain⟨t,rfl⟩:=r;rfl
 |str _=>obtain⟨t,rfl⟩:=r;rfl
 |byt _=>obtain⟨t,rfl⟩:=r;rfl
 |flt _=>obtain⟨t,rfl⟩:=r;rfl
 |ref _=>cases r;rfl
 |ty _=>cases r;rfl
theorem RelV.inj{x y:V}{u:UA}(r:RelV x u)(q:RelV y u):x=y:=Q5 (r.abs.symm.trans q.abs)
theorem Vals.inj:∀{xs ys:List V}{us:xo},Vals xs us->Vals ys us->xs=ys
 |_,_,_,.nil,.nil=>rfl
 |_,_,_,.cons r t,.cons r' t'=>by rw[r.inj r',Vals.inj t t']
section
variable{X:Cx}{pins:List (UD×Obj)}{σ:St}{H:Hp}{s:UB}{a:UD}{xs ys:List V}
theorem SqL.of{K:Frag}(h:H a=O (.lst xs)):SqL K H a xs:=.inl (.inl h)
theorem SqT.of{K:Frag}(h:H a=O (.tup xs)):SqT K H a xs:=.inl (.inl h)
theorem Inv.list(I:Inv X pins σ H s)(h:SqL X.K H a xs):∃its:xo,Vals xs its/\PlainL s.heap a its.toArray/\xs.length<=UG:=by
 rcases h with h|⟨o,its,n,hk,hc,hd,hs,hz,r⟩
 .obtain⟨z,its,n,r,e⟩:=h.ok I.hok
  exact⟨its,r,⟨_,n,e,rfl,rfl,rfl⟩,z⟩
 .refine⟨its.toList,r,⟨o,n,I.kIn a o hk,hc,hd,by simpa using hs⟩,?_⟩
  have e:=r.length;simp only[Jx]at e;omega
theorem Inv.tuple(I:Inv X pins σ H s)(h:SqT X.K H a xs):∃its:xo,Vals xs its/\IsTup s.heap a its.toArray/\xs.length<=UG:=by
 rcases h with h|⟨o,its,n,hk,hc,hs,hz,r⟩
 .obtain⟨z,its,r,p⟩:=h.ok I.hok
  exact⟨its,r,p,z⟩
 .refine⟨its.toList,r,⟨o,I.kIn a o hk,hc,n,by simpa using hs⟩,?_⟩
  have e:=r.length;simp only[Jx]at e;omega
theorem Inv.list_inj(I:Inv X pins σ H s)(h:SqL X.K H a xs)(h':SqL X.K H a ys):xs=ys:=by
 obtain⟨its,r,⟨o,n,e,_,_,d⟩,_⟩:=I.list h;obtain⟨its',r',⟨o',n',e',_,_,d'⟩,_⟩:=I.list h';rw[e]at e';cases e';rw[d]at d';injection d' with d1 _
 have:its=its':=by simpa using congrArg Array.toList d1
 subst this;exact r.inj r'
theorem Inv.tuple_inj(I:Inv X pins σ H s)(h:SqT X.K H a xs)(h':SqT X.K H a ys):xs=ys:=by
 obtain⟨its,r,⟨o,e,_,n,d⟩,_⟩:=I.tuple h;obtain⟨its',r',⟨o',e',_,n',d'⟩,_⟩:=I.tuple h';rw[e]at e';cases e';rw[d]at d';injection d' with d1 _
 have:its=its':=by simpa using congrArg Array.toList d1
 subst this;exact r.inj r'
end
noncomputable abbrev Cx.wish(X:Cx)(E:UA->UB->Prop):Cx:={X with xe:=E}
noncomputable abbrev Cx.nox(X:Cx):Cx:=X.wish λ_ _=>False
theorem Cx.Ok.wish{X:Cx}(ok:X.Ok)(E:UA->UB->Prop):(X.wish E).Ok:=
 ⟨ok.mod,ok.kind,ok.glob,ok.blt,ok.above,ok.inj,ok.has,ok.cab,ok.hd,ok.frames,ok.stk,ok.exf,ok.bs,ok.bsz,ok.noex,ok.exfs,ok.funs,ok.frf⟩
theorem Cx.Ok.unwish{X:Cx}{E:UA->UB->Prop}(ok:(X.wish E).Ok):X.Ok:=
 ⟨ok.mod,ok.kind,ok.glob,ok.blt,ok.above,ok.inj,ok.has,ok.cab,ok.hd,ok.frames,ok.stk,ok.exf,ok.bs,ok.bsz,ok.noex,ok.exfs,ok.funs,ok.frf⟩
section
variable{X:Cx}{pins:List (UD×Obj)}{σ:St}{H:Hp}{s:UB}{E:UA->UB->Prop}
theorem Inv.wish(I:Inv X pins σ H s)(E:UA->UB->Prop):Inv (X.wish E) pins σ H s:=⟨I.ok.wish E,I.os,I.bare,I.base,I.loc,I.cell,I.free,I.freeC,I.pin,I.hok,I.len⟩
theorem Inv.unwish(I:Inv (X.wish E) pins σ H s):Inv X pins σ H s:=⟨I.ok.unwish,I.os,I.bare,I.base,I.loc,I.cell,I.free,I.freeC,I.pin,I.hok,I.len⟩
theorem SP.unwish{D:Ends}{f:Flow}{s':UB}(h:SP (X.wish E) pins D f s'):SP X pins D f s':=by
 cases f with
 |next=>obtain⟨σ',H',I,q⟩:=h;exact⟨σ',H',I.unwish,q⟩
 |brk=>obtain⟨σ',H',I,q⟩:=h;exact⟨σ',H',I.unwish,q⟩
 |cont=>obtain⟨σ',H',I,q⟩:=h;exact⟨σ',H',I.unwish,q⟩
 |ret u=>obtain⟨v,σ',H',I,r,q⟩:=h;exact⟨v,σ',H',I.unwish,r,q⟩
theorem PSs.nox{st:List Stmt}{t:TS}(h:PSs X.nox st t):PSs X st t:=λpins s σ H D I hw=>
 QO (h pins s σ H D (I.wish _) hw) (λ_ _ q=>q.unwish) λ_ _ z=>False.elim z
end
section
variable{X:Cx}{st:Stmt}{rest:List Stmt}{t u:TS}{e:UF}{te:TE}{pos:Pos}
noncomputable def EA:TS:=λD σ H=>D.nx σ H
noncomputable def tSeq(t u:TS):TS:=λD σ H=>t {D with nx:=u D} σ H
theorem CY:PSs X [] EA:=λ_ _ σ H _ I h=>wpAny_execs_nil ⟨σ,H,I,h⟩
theorem Au(h1:PS X st t)(h2:PSs X rest u):PSs X (st::rest) (tSeq t u):=by
 intro pins s σ H D I h;refine wpAny_execs_cons (thn (h1 pins s σ H {D with nx:=u D} I h) λf s1 q=>?_);cases f with
 |next=>obtain⟨σ',H',I',q⟩:=q;exact h2 pins s1 σ' H' D I' q
 |ret v=>exact q
 |brk=>exact q
 |cont=>exact q
theorem CW(h1:PS X st t):PSs X [st] t:=by
 intro pins s σ H D I h;refine wpAny_execs_cons (thn (h1 pins s σ H D I h) λf s1 q=>?_);cases f with
 |next=>exact wpAny_execs_nil q
 |ret v=>exact q
 |brk=>exact q
 |cont=>exact q
theorem Inv.quiet{pins:List (UD×Obj)}{σ:St}{H:Hp}{s:UB}(I:Inv X pins σ H s):interactive X.env=xj:=by simp[interactive,I.ok.kind]
noncomputable def Ez(te:TE):TS:=λD σ H=>te σ H λ_ H1=>D.nx σ H1
theorem Lu(he:PE X e te)(hs:swapsWith e xg pos.line X.env=pure xj:=by rfl):PS X (.Expr e pos) (Ez te):=by intro pins s σ H D I h;exact wpAny_Expr_any (thn (he pins s σ H _ I h) λv s1 ⟨x,H1,I1,r1,q1⟩=>⟨σ,H1,I1,q1⟩) I.quiet hs
noncomputable def tRet(te:TE):TS:=λD σ H=>te σ H D.rt
theorem Dr(he:PE X e te):PS X (.Return (O e) pos) (tRet te):=by intro pins s σ H D I h;exact wpAny_Return_some (thn (he pins s σ H _ I h) λv s1 ⟨x,H1,I1,r1,q1⟩=>⟨x,σ,H1,I1,r1,q1⟩)
noncomputable def tIfS(c:TT)(t u:TS):TS:=λD σ H=>c σ H λb H1=>if b=xi then t D σ H1 else u D σ H1
theorem Fu{c:UF}{a b:List Stmt}{tc:TT}(hc:PT X c tc)(ha:PSs X a t)(hb:PSs X b u):PS X (.If c a b pos) (tIfS tc t u):=by
 intro pins s σ H D I h;refine wpAny_If (thn (hc pins s σ H _ I h) λd s1 ⟨H1,I1,q1⟩=>?_);cases d with
 |true=>exact ha pins s1 σ H1 D I1 q1
 |false=>exact hb pins s1 σ H1 D I1 q1
end
abbrev TG:=V->St->Hp->(St->Hp->Prop)->Prop
abbrev TGs:=List V->St->Hp->(St->Hp->Prop)->Prop
def PG(X:Cx)(target:UF)(t:TG):Prop:=
 ∀(pins:List (UD×Obj))(s:UB)(σ:St)(H:Hp)(v:V)(u:UA)(Q:St->Hp->Prop),Inv X pins σ H s->RelV v u->t v σ H Q ->
  UH (model X.prog X.w) X.A (assign target X.env u) (λ_ s'=>∃σ' H',Inv X pins σ' H' s'/\Q σ' H') X.xe s
def PGs(X:Cx)(ts:xp)(t:TGs):Prop:=
 ∀(pins:List (UD×Obj))(s:UB)(σ:St)(H:Hp)(vs:List V)(us:xo)(Q:St->Hp->Prop),Inv X pins σ H s->Vals vs us->t vs σ H Q ->
  UH (model X.prog X.w) X.A (assignInOrder ((UX ts X.env).map (·.2)) us) (λ_ s'=>∃σ' H',Inv X pins σ' H' s'/\Q σ' H') X.xe s
abbrev Sk:=V->V->V->Hp->(Hp->Prop)->Prop
def PSet(X:Cx)(t:Sk):Prop:=
 ∀(pins:List (UD×Obj))(s:UB)(σ:St)(H:Hp)(o i v:V)(ov iv u:UA)(Q:Hp->Prop),Inv X pins σ H s->RelV o ov->RelV i iv->RelV v u->t o i v H Q ->
  UH (model X.prog X.w) X.A (setItem ov iv u) (λ_ s'=>∃H',Inv X pins σ H' s'/\Q H') X.xe s
abbrev TIp:=V->V->Hp->VK->Prop
def PIp(X:Cx)(op:Operator)(t:TIp):Prop:=
 ∀(pins:List (UD×Obj))(s:UB)(σ:St)(H:Hp)(x y:V)(v u:UA)(Q:VK),Inv X pins σ H s->RelV x v->RelV y u->t x y H Q ->
  UH (model X.prog X.w) X.A (inplaceOp op v u) (EP X pins σ Q) X.xe s
section
variable{X:Cx}{pos:Pos}
noncomputable def P6(i:Nat):TG:=λv σ H Q=>Q (σ.set i (O v)) H
theorem Wp{i:Nat}{x:Str}(hN:X.N.Nodup)(hi:X.N[i]?=O x)(hx:Loc X.env.scope x)(hf:X.fn x=xi∨X.env.scope.names.lookup x=O .local:=by first|exact .inl rfl|exact .inr rfl|assumption):PG X (.Name x pos) (P6 i):=by intro pins s σ H v u Q I r h;exact wpAny_assign_Name (OR I hN hi hx r (λs' I'=>⟨_,H,I',h⟩) hf)
noncomputable def gNil:TGs:=λvs σ H Q=>vs=[]/\Q σ H
noncomputable def Ft(t:TG)(u:TGs):TGs:=λvs σ H Q=>∃v r,vs=v::r/\t v σ H λσ' H'=>u r σ' H' Q
theorem CV:PGs X [] gNil:=by intro pins s σ H vs us Q I r h;obtain⟨e,h⟩:=h;subst e;cases r;exact assignInOrder_nil ⟨σ,H,I,h⟩
theorem At{e:UF}{es:xp}{t:TG}{u:TGs}(h1:PG X e t)(h2:PGs X es u)
  (hs:(UX (e::es) X.env).map (·.2)=assign e X.env::(UX es X.env).map (·.2):=by rfl):PGs X (e::es) (Ft t u):=by
 intro pins s σ H vs us Q I r h;obtain⟨v,vr,e1,h⟩:=h;subst e1;cases r with
 |cons r rr=>rw[hs];refine assignInOrder_cons (thn (h1 pins s σ H _ _ _ I r h) λ_ s1 ⟨σ1,H1,I1,q1⟩=>?_);exact h2 pins s1 σ1 H1 _ _ Q I1 rr q1
noncomputable def gTup(K:Frag)(n:Nat)(t:TGs):TG:=λv σ H Q=>∃a xs,v=.ref a/\SqT K H a xs/\xs.length=n/\t xs σ H Q
theorem Dq{es:xp}{k:Nat}{t:TGs}{n:Nat}(hc:X.calm=xi)(h:PGs X es t)
  (hn:(UX es X.env).length=n:=by rfl) (hst:(UX es X.env).findIdx? (·.1)=xg:=by rfl):PG X (.Tuple es k pos) (gTup X.K n t):=by
 intro pins s σ H v u Q I r hw;obtain⟨a,xs,e1,hq,hl,hw⟩:=hw;subst e1;cases r;obtain⟨its,rv,ht,hz⟩:=I.tuple hq;refine assign_Tuple_tuple (I.ok.hd hc) ht (by simp[hn,←hl,rv.length]) hst λh' hx=>?_
 have I1:Inv X pins σ H {s with heap:=h'}:=I.kept (t':=s.toks) λb o e=>hx b o (QN (Qh e)) e;exact h pins _ σ H xs _ Q I1 (by simpa using rv) hw
noncomputable def tAsg(te:TE)(g:TG):TS:=λD σ H=>te σ H λx H1=>g x σ H1 D.nx
theorem Dp{tg e:UF}{te:TE}{g:TG}(he:PE X e te)(hg:PG X tg g)(hs:swapsWithSole [tg] e pos.line X.env=pure xj:=by rfl)(hw:swappedStores [tg] e X.env=pure xg:=by rfl)
  (h1:(UX [tg] X.env).map (·.2)=[assign tg X.env]:=by rfl):PS X (.Assign [tg] e pos) (tAsg te g):=by
 intro pins s σ H D I h;refine wpAny_Assign_stores (thn (he pins s σ H _ I h) λv s1 ⟨x,H1,I1,r1,q1⟩=>?_) hs hw;rw[h1];exact thn (hg pins s1 σ H1 x v _ I1 r1 q1) λ_ s2 q=>q
theorem N8{i:Nat}{x:Str}{e:UF}{te:TE}{pos':Pos}(hN:X.N.Nodup)(hi:X.N[i]?=O x)(hx:Loc X.env.scope x)(he:PE X e te)(hs:swapsWith e (O (.Name x pos')) pos.line X.env=pure xj:=by rfl)(hf:X.fn x=xi∨X.env.scope.names.lookup x=O .local:=by first|exact .inl rfl|exact .inr rfl|assumption) :
  PS X (.Assign [.Name x pos'] e pos) (tAsg te (P6 i)):=by
 intro pins s σ H D I h;refine wpAny_Assign_Name (thn (he pins s σ H _ I h) λv s1 ⟨y,H1,I1,r1,q1⟩=>?_) hs;exact OR I1 hN hi hx r1 (λs2 I2=>⟨_,H1,I2,q1⟩) hf
noncomputable def tAug(i:Nat)(te:TE)(ti:TIp):TS:=λD σ H=>∃x,σ[i]?=O (O x)/\te σ H λy H1=>ti x y H1 λz H2=>D.nx (σ.set i (O z)) H2
theorem Do{i:Nat}{x:Str}{e:UF}{te:TE}{op:Operator}{ti:TIp}{pos':Pos}(hN:X.N.Nodup)(hi:X.N[i]?=O x)(hx:Loc X.env.scope x)(he:PE X e te)(ho:PIp X op ti)(hf:X.fn x=xi∨X.env.scope.names.lookup x=O .local:=by first|exact .inl rfl|exact .inr rfl|assumption) :
  PS X (.AugAssign (.Name x pos') op e pos) (tAug i te ti):=by
 intro pins s σ H D I h;obtain⟨v,e1,h⟩:=h;obtain⟨m,hn,hl⟩:=I.loc;have vis:Vis X.env.scope x:=by rcases hx with k|k;exact .inl k;exact .inr (.inl k)
 obtain⟨u,r,l⟩:=hl i x v hi e1 vis;refine wpAny_AugAssign_Name ?_;have go:UH (model X.prog X.w) X.A (eval e X.env) (λw s₂=>UH (model X.prog X.w) X.A (inplaceOp op u w) (λr s₃=>UH (model X.prog X.w) X.A (storeName X.env x r) (λ_=>SP X pins D .next) X.xe s₃) X.xe s₂) X.xe s:=by refine thn (he pins s σ H _ I h) λw s1 ⟨y,H1,I1,r1,q1⟩=>?_;refine thn (ho pins s1 σ H1 v y u w _ I1 r r1 q1) λz s2 ⟨zv,H2,I2,r2,q2⟩=>?_;exact OR I2 hN hi hx r2 (λs3 I3=>⟨_,H2,I3,q2⟩) hf
 rcases l with ⟨hk,hm⟩|⟨hk,c,hc,hcell⟩
 .exact wpAny_loadName_local I.ok.kind hk hn hm go
 .rcases hk with hk|hk
  .exact wpAny_loadName_cell I.ok.kind hk hc hcell go
  .rcases hx with k|k
   .have:X.env.scope.names.lookup x=O .free:=hk
    rw[k]at this;cases this
   .have:X.env.scope.names.lookup x=O .free:=hk
    rw[k]at this;cases this
noncomputable def Fs(to ti te:TE)(tget:V->V->Hp->VK->Prop)(tip:TIp)(tset:Sk):TS:=λD σ H=>to σ H λo H1=>ti σ H1 λi H2=>tget o i H2 λx H3=>te σ H3 λy H4=>tip x y H4 λz H5=>tset o i z H5 λH6=>D.nx σ H6
def PGet(X:Cx)(t:V->V->Hp->VK->Prop):Prop:=
 ∀(pins:List (UD×Obj))(s:UB)(σ:St)(H:Hp)(o i:V)(ov iv:UA)(Q:VK),Inv X pins σ H s->RelV o ov->RelV i iv->t o i H Q ->
  UH (model X.prog X.w) X.A (getItem ov iv) (EP X pins σ Q) X.xe s
theorem CU{o i e:UF}{to ti te:TE}{tget:V->V->Hp->VK->Prop}{tip:TIp}{tset:Sk}{op:Operator}{tpos:Pos}(ho:PE X o to)(hi:PE X i ti)(hg:PGet X tget)(he:PE X e te)(hp:PIp X op tip)(hs:PSet X tset)
  (ha:∀ov iv new,augStore i ov iv new=(do holding [new,ov,iv] (setItem ov iv new);release [new,ov,iv] [];pure .next):=by intros;rfl):PS X (.AugAssign (.Subscript o i tpos) op e pos) (Fs to ti te tget tip tset):=by
 intro pins s σ H D I h;refine wpAny_AugAssign_SubscriptAny (thn (ho pins s σ H _ I h) λov s1 ⟨x1,H1,I1,r1,q1⟩=>?_) ha;refine thn (hi pins s1 σ H1 _ I1 q1) λiv s2 ⟨x2,H2,I2,r2,q2⟩=>?_;refine thn (hg pins s2 σ H2 x1 x2 ov iv _ I2 r1 r2 q2) λold s3 ⟨x3,H3,I3,r3,q3⟩=>?_;refine thn (he pins s3 σ H3 _ I3 q3) λv s4 ⟨x4,H4,I4,r4,q4⟩=>?_;refine thn (hp pins s4 σ H4 x3 x4 old v _ I4 r3 r4 q4) λnew s5 ⟨x5,H5,I5,r5,q5⟩=>?_;exact thn (hs pins s5 σ H5 x1 x2 x5 ov iv new _ I5 r1 r2 r5 q5) λ_ s6 ⟨H6,I6,q6⟩=>⟨σ,H6,I6,q6⟩
noncomputable def ipI(f:Int->Int->Int):TIp:=λx y H Q=>∃i j,x=.int i/\y=.int j/\Q (.int (f i j)) H
theorem Dm:PIp X .Add (ipI λi j=>i+j):=by intro pins s σ H x y v u Q I r1 r2 h;obtain⟨i,j,e1,e2,q⟩:=h;subst e1;subst e2;obtain⟨t,rfl⟩:=r1;obtain⟨t',rfl⟩:=r2;exact iadd_int ⟨.int _,H,I.tok _,⟨_,rfl⟩,q⟩
end
section
variable{X:Cx}{pos:Pos}
noncomputable def Dl(c:TT)(tb:TS):TS:=λD σ H=>∃W:Nat->St->Hp->Prop,(∃m,W m σ H)/\∀m σ H,W m σ H ->
 c σ H λb H1=>if b=xi then ∃N:St->Hp->Prop,(∀σ' H',N σ' H'->∃m',m'<m/\W m' σ' H')/\tb {D with nx:=N,ct:=N,bk:=D.nx} σ H1 else D.nx σ H1
theorem As{c:UF}{body:List Stmt}{tc:TT}{tb:TS}(hp:PassesOwn (model X.prog X.w) X.A X.env X.xe)(hc:PT X c tc)(hb:PSs X body tb):PS X (.While c body [] pos) (Dl tc tb):=by
 intro pins s σ H D I h;obtain⟨W,⟨m0,w0⟩,turn⟩:=h;refine wpAny_While (codeAny_whileLoop (λn s'=>∃σ' H',Inv X pins σ' H' s'/\W n σ' H') ?_ m0 ⟨σ,H,I,w0⟩);rintro n s1 ⟨σ1,H1,I1,w1⟩;refine Jz hp (thn (hc pins s1 σ1 H1 _ I1 (turn n σ1 H1 w1)) λb s2 ⟨H2,I2,q2⟩=>?_);cases b with
 |true=>
  obtain⟨N,hN,q2⟩:=q2;rw[Qo xf];refine Jz hp (thn (hb pins s2 σ1 H2 _ I2 q2) λf s3 q3=>?_);cases f with
  |next=>obtain⟨σ3,H3,I3,n3⟩:=q3;obtain⟨m',hm,w3⟩:=hN σ3 H3 n3;exact⟨m',hm,σ3,H3,I3,w3⟩
  |cont=>obtain⟨σ3,H3,I3,n3⟩:=q3;obtain⟨m',hm,w3⟩:=hN σ3 H3 n3;exact⟨m',hm,σ3,H3,I3,w3⟩
  |brk=>exact q3
  |ret v=>exact q3
 |false=>rw[Qv JO];exact wpAny_execs_nil ⟨σ1,H2,I2,q2⟩
end
structure It where
 go:Nat->Hp->Prop
 yld:Nat->Hp->V->Hp->Prop
 stop:Nat->Hp->Prop
def ZN(X:Cx)(pins:List (UD×Obj))(H:Hp)(b:UD):Prop:=
 H b=xg/\b≠X.env.locals/\b∉X.fs/\(b∈X.ex∨X.s₀.heap.objs.size<=b)/\(∀x c,X.env.cells.lookup x=O c->c≠b)/\∀p∈X.pn++pins,p.1≠b
theorem Inv.fpOk{X:Cx}{pins:List (UD×Obj)}{σ:St}{H H':Hp}{s:UB}{b:UD}(I:Inv X pins σ H s)(hb:s.heap.objs.size<=b)(hn:H' b=xg):ZN X pins H' b:=by
 refine⟨hn,Js (Qz I.lt hb),I.nofs hb,.inr (QR I.sz hb),λx c e z=>?_,λp hp z=>?_⟩
 .obtain⟨v,q⟩:=I.cell x c e
  exact absurd (Qz q.lt (by rw[z];exact hb)) (JA _)
 .exact absurd (Qz (Qh (I.pin p hp).1) (by rw[z];exact hb)) (JA _)
structure Turn(P:UC)(w:World)(K:Frag)(tg:UF)(J:It)(fp:xw)(it:UD)(tn:Nat->Heap->Prop):Prop where
 mem:it∈fp
 obj:∀i h,tn i h->∀b∈fp,∃o,h.get? b=O o/\∀v,o.data≠.cell v
 keep:∀i h h',tn i h->(∀b∈fp,∀o,h.get? b=O o->h'.get? b=O o)->tn i h'
 item:∀(X:Cx),X.prog=P->X.w=w->X.K=K->X.calm=xi->∀(i:Nat)(pins:List (UD×Obj))(s:UB)(σ:St)(H:Hp)(E:UA->UB->Prop),Inv X pins σ H s->(∀b∈fp,ZN X pins H b)->tn i s.heap->J.go i H ->
  UH (model P w) X.A (pyNext (.ref it)) (λr s1=>∃u,r=O u /\
   UH (model P w) X.A (letOwnedTupleGo tg (.ref it) u) (λ_ s2=>∃x H',Inv X pins σ H' s2/\RelV x u/\J.yld i H x H'/\tn (i+1) s2.heap/\∀b∈fp,H' b=xg) E s1) E s
 done:∀(X:Cx),X.prog=P->X.w=w->X.K=K->X.calm=xi->∀(i:Nat)(pins:List (UD×Obj))(s:UB)(σ:St)(H:Hp)(E:UA->UB->Prop),Inv X pins σ H s->(∀b∈fp,ZN X pins H b)->tn i s.heap->J.stop i H ->
  UH (model P w) X.A (pyNext (.ref it)) (λr s1=>r=xg/\Inv X pins σ H s1) E s
 self:∀(A:Around)(i:Nat)(s:UB)(Q:UA->UB->Prop)(E:UA->UB->Prop),tn i s.heap->Q (.ref it) s->UH (model P w) A (pyIter (.ref it)) Q E s
abbrev TI:=St->Hp->(It->Hp->Prop)->Prop
def PIE(X:Cx)(pins:List (UD×Obj))(σ:St)(tg:UF)(R:It->Hp->Prop)(itv:UA)(s2:UB):Prop:=
 ∃(it:UD)(fp:xw)(tn:Nat->Heap->Prop)(J:It)(H':Hp),itv=.ref it/\Inv X pins σ H' s2/\Turn X.prog X.w X.K tg J fp it tn/\tn 0 s2.heap/\(∀b∈fp,ZN X pins H' b)/\R J H'
def PI(X:Cx)(tg iter:UF)(wi:TI):Prop:=
 ∀(pins:List (UD×Obj))(s:UB)(σ:St)(H:Hp)(R:It->Hp->Prop),Inv X pins σ H s->wi σ H R ->
  UH (model X.prog X.w) X.A (eval iter X.env) (λv s1=>UH (model X.prog X.w) X.A (pyIter v) (PIE X pins σ tg R) X.xe s1) X.xe s
theorem RW{M:Model}{A:Around}{E:UA->UB->Prop}{s:UB}{tg:UF}{it:UD}{u:UA}{o:Obj}{n:String}{vs:Array UA}{Q:Unit->UB->Prop}(ho:s.heap.get? it=O o)(hc:o.cls=.type n)(hd:o.data=.fields vs)
  (hn:["enumerate", "zip", "dict_itemiterator", "dict_reverseitemiterator", "odict_iterator", "itertools.zip_longest", "itertools.pairwise"].contains n=xj) (hQ:Q () s):UH M A (letOwnedTupleGo tg (.ref it) u) Q E s:=by
 unfold letOwnedTupleGo
 cases tg<;>first
  |exact Qn hQ
  |(cases u<;>first
    |exact Qn hQ
    |(
      refine Qe (wpAny_load ho ?_);rw[hc,hd];show UH M A (if(["enumerate", "zip", "dict_itemiterator", "dict_reverseitemiterator", "odict_iterator", "itertools.zip_longest", "itertools.pairwise"].contains n&&vs[0]?==O (rawInt _))=xi then _ else _) Q E s;rw[Qv (by intro h;rw[hn,Bool.false_and]at h;cases h)];exact Qn hQ))
noncomputable def Itl(K:Frag)(a:UD):It:=
 ⟨λi H=>∃xs x,SqL K H a xs/\xs[i]?=O x,λi H x H'=>H'=H/\∀xs,SqL K H a xs->xs[i]?=O x,λi H=>∃xs,SqL K H a xs/\xs.length<=i⟩
noncomputable def Itt(K:Frag)(a:UD):It:=
 ⟨λi H=>∃xs x,SqT K H a xs/\xs[i]?=O x,λi H x H'=>H'=H/\∀xs,SqT K H a xs->xs[i]?=O x,λi H=>∃xs,SqT K H a xs/\xs.length<=i⟩
noncomputable def Itr(lo:Int)(n:Nat):It:=⟨λi _=>i<n,λi H x H'=>H'=H/\x=.int (lo+i),λi _=>n<=i⟩
theorem jS{P:UC}{w:World}{K:Frag}{tg:UF}(a it:UD):Turn P w K tg (Itl K a) [it] it (λi h=>h.IsListIter it a i) where
 mem:=by simp
 obj:=λi h st b hb=>by
  have e:b=it:=by simpa using hb
  subst e;obtain⟨o,e,c,d⟩:=st;exact⟨o,e,λv z=>by rw[d]at z;cases z⟩
 keep:=λi h h' st k=>st.at λo e=>k it (by simp) o e
 item:=by
  intro X hP hw hK hc i pins s σ H E I hf st hg;subst hP hw hK;obtain⟨xs,x,hq,hx⟩:=hg;obtain⟨its,rv,p,hz⟩:=I.list hq;obtain⟨u,hu,ru⟩:=rv.get hx;obtain⟨f0,f1,f2,f3,f4,f5⟩:=hf it (by simp);refine wpAny_pyNext_list_item st p.isList (x:=u) (by simpa using hu) λh' st' sb=>?_
  have I1:Inv X pins σ H {s with heap:=h'}:=I.turned (t':=s.toks) (λb o hb e=>(sb.2 b hb).trans e) f0 f1 f3 f4 f5;obtain⟨o,e,c,d⟩:=id st';exact⟨u,rfl,RW (s:={s with heap:=h'}) e c d (by decide) ⟨x,H,I1,ru,⟨rfl,λys hy=>by rw[I.list_inj hy hq];exact hx⟩,st',λb hb=>(hf b hb).1⟩⟩
 done:=by intro X hP hw hK hc i pins s σ H E I hf st hg;subst hP hw hK;obtain⟨xs,hq,hx⟩:=hg;obtain⟨its,rv,p,hz⟩:=I.list hq;obtain⟨f0,f1,f2,f3,f4,f5⟩:=hf it (by simp);have hl:=rv.length;exact wpAny_pyNext_list_end (I.ok.hd hc) st p.isList (by simp;omega) λh' eb=>⟨rfl,I.turned (t':=s.toks) (λb o hb e=>eb b o hb e) f0 f1 f3 f4 f5⟩
 self:=λ_ _ _ _ _ st h=>wpAny_pyIter_listiter st h
theorem jq{P:UC}{w:World}{K:Frag}{tg:UF}(a it:UD):Turn P w K tg (Itt K a) [it] it (λi h=>h.IsTupleIter it a i) where
 mem:=by simp
 obj:=λi h st b hb=>by
  have e:b=it:=by simpa using hb
  subst e;obtain⟨o,e,c,d⟩:=st;exact⟨o,e,λv z=>by rw[d]at z;cases z⟩
 keep:=λi h h' st k=>st.at λo e=>k it (by simp) o e
 item:=by
  intro X hP hw hK hc i pins s σ H E I hf st hg;subst hP hw hK;obtain⟨xs,x,hq,hx⟩:=hg;obtain⟨its,rv,p,hz⟩:=I.tuple hq;obtain⟨u,hu,ru⟩:=rv.get hx;obtain⟨f0,f1,f2,f3,f4,f5⟩:=hf it (by simp);refine wpAny_pyNext_tuple_item st (show s.heap.IsTuple a its.toArray from p) (x:=u) (by simpa using hu) λh' st' sb=>?_
  have I1:Inv X pins σ H {s with heap:=h'}:=I.turned (t':=s.toks) (λb o hb e=>(sb.2 b hb).trans e) f0 f1 f3 f4 f5;obtain⟨o,e,c,d⟩:=id st';exact⟨u,rfl,RW (s:={s with heap:=h'}) e c d (by decide) ⟨x,H,I1,ru,⟨rfl,λys hy=>by rw[I.tuple_inj hy hq];exact hx⟩,st',λb hb=>(hf b hb).1⟩⟩
 done:=by intro X hP hw hK hc i pins s σ H E I hf st hg;subst hP hw hK;obtain⟨xs,hq,hx⟩:=hg;obtain⟨its,rv,p,hz⟩:=I.tuple hq;obtain⟨f0,f1,f2,f3,f4,f5⟩:=hf it (by simp);have hl:=rv.length;exact wpAny_pyNext_tuple_end (I.ok.hd hc) st (show s.heap.IsTuple a its.toArray from p) (by simp;omega) λh' eb=>⟨rfl,I.turned (t':=s.toks) (λb o hb e=>eb b o hb e) f0 f1 f3 f4 f5⟩
 self:=λ_ _ _ _ _ st h=>wpAny_pyIter_tupleiter st h
theorem jp{P:UC}{w:World}{K:Frag}{tg:UF}(it:UD)(lo:Int)(n:Nat):Turn P w K tg (Itr lo n) [it] it (λi h=>IsRangeIter h it (lo+(i:Nat)*1) ((n:Int)-(i:Nat)) 1) where
 mem:=by simp
 obj:=λi h st b hb=>by
  have e:b=it:=by simpa using hb
  subst e;exact⟨_,st,λv z=>by have z':Data.fields _=Data.cell v:=z;cases z'⟩
 keep:=λi h h' st k=>k it (by simp) _ st
 item:=by
  intro X hP hw hK hc i pins s σ H E I hf st hg;subst hP hw hK;obtain⟨f0,f1,f2,f3,f4,f5⟩:=hf it (by simp);have W:=Walks.range (prog:=X.prog) (w:=X.w) (I.ok.hd hc) it lo 1 n;refine W.item i s _ _ hg st λv h' tk hv st' kk=>?_
  obtain⟨t,rfl⟩:=hv;have I1:Inv X pins σ H {s with heap:=h',toks:=tk}:=I.turned (λb o hb e=>kk b o (by simpa using hb) e) f0 f1 f3 f4 f5;refine⟨_,rfl,RW (s:={s with heap:=h',toks:=tk}) (n:= "range_iterator") st' xf xf (by decide) ⟨.int (lo+i),H,I1,⟨t,?_⟩,⟨rfl,rfl⟩,st',λb hb=>(hf b hb).1⟩⟩;rw[Int.mul_one]
 done:=by intro X hP hw hK hc i pins s σ H E I hf st hg;subst hP hw hK;obtain⟨f0,f1,f2,f3,f4,f5⟩:=hf it (by simp);exact wpAny_pyNext_range_end (I.ok.hd hc) st (by have:n<=i:=hg;omega) λh' eb=>⟨rfl,I.turned (t':=s.toks) (λb o hb e=>eb b o hb e) f0 f1 f3 f4 f5⟩
 self:=λ_ _ _ _ _ st h=>wpAny_pyIter_rangeiter st h
section
variable{X:Cx}{tg:UF}
theorem LG{pins:List (UD×Obj)}{σ:St}{H:Hp}{s:UB}{R:It->Hp->Prop}{E:UA->UB->Prop}{lo hi:Int}{t u v:Tok}{tk:Nat}(I:Inv X pins σ H s)(h1 : -(2 ^ 62)<=lo)(h2:lo<2 ^ 62)(h3 : -(2 ^ 62)<=hi)(h4:hi<2 ^ 62)
  (q:R (Itr lo (hi-lo).toNat) H):UH (model X.prog X.w) X.A (pyIter (.ref s.heap.objs.size)) (PIE X pins σ tg R) E {s with heap:=s.heap.push {cls:=.type "range", data:=.fields #[.int lo t,.int hi u,.int 1 v]},toks:=tk}:=by
 refine wpAny_pyIter_range (IsRange.new ..) (small_one h1 h2 h3 h4) ?_;have I1:Inv X pins σ H {s with heap:=s.heap.push {cls:=.type "range", data:=.fields #[.int lo t,.int hi u,.int 1 v]},toks:=tk}:=I.kept λb o e=>Ql _ e
 refine⟨(s.heap.push {cls:=.type "range", data:=.fields #[.int lo t,.int hi u,.int 1 v]}).objs.size,[(s.heap.push {cls:=.type "range", data:=.fields #[.int lo t,.int hi u,.int 1 v]}).objs.size],_,_,H,rfl,
  I1.kept (t':=tk) λb o e=>Ql _ e,jp _ lo (hi-lo).toNat,?_,λb hb=>?_,q⟩
 .have e1:lo+((0:Nat):Int)*1=lo:=by simp
  have e2:(((hi-lo).toNat:Nat):Int)-((0:Nat):Int)=Builtin.Range.rangeSize lo hi 1:=by rw[rangeSize_one];split<;>omega
  show IsRangeIter _ _ (lo+((0:Nat):Int)*1) ((((hi-lo).toNat:Nat):Int)-((0:Nat):Int)) 1;rw[e1,e2];exact QB _ xf
 .have e:b=(s.heap.push {cls:=.type "range", data:=.fields #[.int lo t,.int hi u,.int 1 v]}).objs.size:=by simpa using hb
  subst e;exact I1.fpOk (Qs _) (I1.hok.fresh (Qs _))
noncomputable def Fq(ta:TA):TI:=λσ H R=>ta σ H λvs H1=>∃j:Int,vs=[.int j] /\ -(2 ^ 62)<=j/\j<2 ^ 62/\R (Itr 0 j.toNat) H1
noncomputable def Fp(ta:TA):TI:=λσ H R=>ta σ H λvs H1=>∃i j:Int,vs=[.int i,.int j]/\(-(2 ^ 62)<=i/\i<2 ^ 62 /\ -(2 ^ 62)<=j/\j<2 ^ 62)/\R (Itr i (j-i).toNat) H1
theorem jR{a:UF}{ta:TA}{p pos:Pos}(hg:Gl X "range")(hm:X.mg "range" = xg)(ha:PA X [a] ta)(hs:UI [a] X.env=[(xj,eval a X.env)]:=by rfl):PI X tg (.Call (.Name "range" p) [a] [] pos) (Fq ta):=by
 intro pins s σ H R I h;refine Call_ (Vz I hg hm boot_range (JG (thn (ha pos pins s σ H _ I h) λus s1 ⟨vs,H1,I1,r1,q1⟩=>?_) hs xf));obtain⟨j,e,q1,q2,q⟩:=q1;subst e;cases r1 with
 |cons r rr=>cases rr;obtain⟨t,rfl⟩:=r;exact call_range_1 (LG I1 (by omega) (by omega) q1 q2 (by simpa using q))
theorem jQ{a b:UF}{ta:TA}{p pos:Pos}(hg:Gl X "range")(hm:X.mg "range" = xg)(ha:PA X [a,b] ta)(hs:UI [a,b] X.env=[(xj,eval a X.env),(xj,eval b X.env)]:=by rfl)(hs2:UI [b] X.env=[(xj,eval b X.env)]:=by rfl) :
  PI X tg (.Call (.Name "range" p) [a,b] [] pos) (Fp ta):=by
 intro pins s σ H R I h;refine Call_ (Vz I hg hm boot_range (JG (thn (ha pos pins s σ H _ I h) λus s1 ⟨vs,H1,I1,r1,q1⟩=>?_) (by rw[hs,hs2]) (by rw[hs2];rfl)));obtain⟨i,j,e,⟨q1,q2,q3,q4⟩,q⟩:=q1;subst e;cases r1 with
 |cons r rr=>
  cases rr with
  |cons r' rr=>cases rr;obtain⟨t,rfl⟩:=r;obtain⟨t',rfl⟩:=r';exact call_range_2 (LG I1 q1 q2 q3 q4 q)
noncomputable def tFor(wi:TI)(g:TG)(tb:TS):TS:=λD σ H=>wi σ H λJ H1=>∃W:Nat->Nat->St->Hp->Prop,(∃m,W 0 m σ H1)/\∀i m σ H,W i m σ H ->
 (J.stop i H/\D.nx σ H)∨(J.go i H/\∃N:St->Hp->Prop,(∀σ' H',N σ' H'->∃m',m'<m/\W (i+1) m' σ' H')/\∀x H',J.yld i H x H'->g x σ H' λσ2 H2=>tb {D with nx:=N,ct:=N,bk:=D.nx} σ2 H2)
noncomputable def Rn(fp:xw)(h:Heap):List (UD×Obj):=fp.filterMap λb=>(h.get? b).map λo=>(b,o)
theorem PV{fp:xw}{h:Heap}{b:UD}{o:Obj}(hb:b∈fp)(e:h.get? b=O o):(b,o)∈Rn fp h:=Jr.mpr ⟨b,hb,by rw[e];rfl⟩
theorem qy{fp:xw}{h:Heap}{p:UD×Obj}(hp:p∈Rn fp h):p.1∈fp/\h.get? p.1=O p.2:=by
 obtain⟨b,hb,e⟩:=Jr.mp hp;cases q:h.get? b with
 |none=>rw[q]at e;cases e
 |some o=>rw[q]at e;have e':(b,o)=p:=Q5 e;subst e';exact⟨hb,q⟩
theorem Inv.pinned{pins:List (UD×Obj)}{σ:St}{H:Hp}{s:UB}{fp:xw}(I:Inv X pins σ H s)(hf:∀b∈fp,ZN X pins H b)(ho:∀b∈fp,∃o,s.heap.get? b=O o/\∀v,o.data≠.cell v):Inv X (pins++Rn fp s.heap) σ H s:=
 I.pins_of λp hp=>(QU.mp hp).elim (λz=>I.pin p (QH _ z)) λz=>by obtain⟨hb,e⟩:=qy z;obtain⟨f0,f1,f2,_⟩:=hf p.1 hb;obtain⟨o,e',d⟩:=ho p.1 hb;rw[e]at e';cases e';exact⟨e,f0,f1,f2,d⟩
theorem Inv.unpinned{pins pl:List (UD×Obj)}{σ:St}{H:Hp}{s:UB}(I:Inv X (pins++pl) σ H s):Inv X pins σ H s:=I.pins_of λp hp=>I.pin p (QH _ (Q9 _ hp))
theorem Dk{iter:UF}{body:List Stmt}{wi:TI}{g:TG}{tb:TS}{pos:Pos}(hp:PassesOwn (model X.prog X.w) X.A X.env X.xe)(hc:X.calm=xi)(hi:PI X tg iter wi)(hg:PG X tg g)(hb:PSs X body tb)
  (hs:∀x,UY iter X.env x=pure x:=by intro _;rfl):PS X (.For tg iter body [] pos) (tFor wi g tb):=by
 intro pins s σ H D I h;refine wpAny_For (thn (hi pins s σ H _ I h) λv s1 h1=>thn h1 λitv s2 h2=>?_) hs;obtain⟨it,fp,tn,J,H2,e,I2,T,st2,f2,W,⟨m0,w0⟩,turn⟩:=h2;subst e;have stat:∀{H':Hp},(∀b∈fp,H' b=xg)->∀b∈fp,ZN X pins H' b:=λhn b hb=>⟨hn b hb,(f2 b hb).2⟩;refine codeAny_forLoop_any (λn s'=>∃i σ' H',Inv X pins σ' H' s'/\tn i s'.heap/\(∀b∈fp,H' b=xg)/\W i n σ' H') ?_ m0 ⟨0,σ,H2,I2,st2,λb hb=>(f2 b hb).1,w0⟩;rintro n s3 ⟨i,σ3,H3,I3,st3,fr3,w3⟩;rcases turn i n σ3 H3 w3 with ⟨stop,qn⟩|⟨go,N,hN,step⟩
 .refine Jz hp (thn (T.done X xf xf xf hc i pins s3 σ3 H3 X.xe I3 (stat fr3) st3 stop) λr s4 ⟨hr,I4⟩=>?_)
  subst hr;exact wpAny_execs_nil ⟨σ3,H3,I4,qn⟩
 .refine Jz hp (thn (T.item X xf xf xf hc i pins s3 σ3 H3 X.xe I3 (stat fr3) st3 go) λr s4 ⟨u,hr,h4⟩=>?_)
  subst hr;refine Jz hp (thn h4 λ_ s5 ⟨x,H5,I5,r5,y5,xZ,fr5⟩=>?_);have I5':=I5.pinned (stat fr5) (T.obj _ _ xZ);refine Jz hp (thn (hg _ s5 σ3 H5 x u _ I5' r5 (step x H5 y5)) λ_ s6 ⟨σ6,H6,I6,q6⟩=>?_);refine Jz hp (thn (hb _ s6 σ6 H6 _ I6 q6) λf s7 q7=>?_);have again:∀{σ7:St}{H7:Hp},Inv X (pins++Rn fp s5.heap) σ7 H7 s7->N σ7 H7->∃m,m<n/\∃i σ' H',Inv X pins σ' H' s7/\tn i s7.heap/\(∀b∈fp,H' b=xg)/\W i m σ' H':=λ{σ7 H7} I7 n7=>by obtain⟨m',hm,w7⟩:=hN σ7 H7 n7;refine⟨m',hm,i+1,σ7,H7,I7.unpinned,T.keep _ _ _ xZ λb hb o e=>(I7.pin (b,o) (QH _ (QH _ (PV hb e)))).1,λb hb=>?_,w7⟩;obtain⟨o,e,d⟩:=T.obj _ _ xZ b hb;exact(I7.pin (b,o) (QH _ (QH _ (PV hb e)))).2.1
  cases f with
  |next=>obtain⟨σ7,H7,I7,n7⟩:=q7;exact again I7 n7
  |cont=>obtain⟨σ7,H7,I7,n7⟩:=q7;exact again I7 n7
  |brk=>obtain⟨σ7,H7,I7,q7⟩:=q7;exact⟨σ7,H7,I7.unpinned,q7⟩
  |ret v=>obtain⟨x7,σ7,H7,I7,r7,q7⟩:=q7;exact⟨x7,σ7,H7,I7.unpinned,r7,q7⟩
end
abbrev R2:=V->V->Hp->VK->Prop
def OpR(X:Cx)(f:UA->UA->Sem UA)(r:R2):Prop:=
 ∀(pins:List (UD×Obj))(s:UB)(σ:St)(H:Hp)(x y:V)(v u:UA)(Q:VK),Inv X pins σ H s->RelV x v->RelV y u->r x y H Q ->
  UH (model X.prog X.w) X.A (f v u) (EP X pins σ Q) X.xe s
def UnR(X:Cx)(f:UA->Sem UA)(r:V->Hp->VK->Prop):Prop:=
 ∀(pins:List (UD×Obj))(s:UB)(σ:St)(H:Hp)(x:V)(v:UA)(Q:VK),Inv X pins σ H s->RelV x v->r x H Q ->
  UH (model X.prog X.w) X.A (f v) (EP X pins σ Q) X.xe s
def YO(X:Cx)(f:UA)(r:List V->Hp->VK->Prop):Prop:=
 ∀(pins:List (UD×Obj))(s:UB)(σ:St)(H:Hp)(xs:List V)(us:xo)(Q:VK),Inv X pins σ H s->Vals xs us->r xs H Q ->
  UH (model X.prog X.w) X.A (call f us) (EP X pins σ Q) X.xe s
def TruR(X:Cx)(r:V->Hp->(Bool->Hp->Prop)->Prop):Prop:=
 ∀(pins:List (UD×Obj))(s:UB)(σ:St)(H:Hp)(x:V)(v:UA)(Q:Bool->Hp->Prop),Inv X pins σ H s->RelV x v->r x H Q ->
  UH (model X.prog X.w) X.A (truthy v) (TP X pins σ Q) X.xe s
noncomputable def tOp(r:R2)(ta tb:TE):TE:=λσ H Q=>ta σ H λx H1=>tb σ H1 λy H2=>r x y H2 Q
noncomputable def tUn(r:V->Hp->VK->Prop)(ta:TE):TE:=λσ H Q=>ta σ H λx H1=>r x H1 Q
noncomputable def rI(C:Int->Int->Prop)(g:Int->Int->V):R2:=λx y H Q=>∃i j,x=.int i/\y=.int j/\C i j/\Q (g i j) H
noncomputable def rI0(g:Int->Int->V):R2:=λx y H Q=>∃i j,x=.int i/\y=.int j/\Q (g i j) H
noncomputable def rU(g:Int->V):V->Hp->VK->Prop:=λx H Q=>∃i,x=.int i/\Q (g i) H
section
variable{X:Cx}{a b c:UF}{ta tb tc:TE}{pos:Pos}
theorem Sh(ha:PE X a ta)(hb:PE X b tb){pins:List (UD×Obj)}{s:UB}{σ:St}{H:Hp}{R:V->V->Hp->Prop}(I:Inv X pins σ H s)
  (h:ta σ H λx H1=>tb σ H1 λy H2=>R x y H2) {Q:UA->UB->Prop} {f:UA->UA->Sem UA}
  (hf:∀v u s2 x y H2,Inv X pins σ H2 s2->RelV x v->RelV y u->R x y H2->UH (model X.prog X.w) X.A (f v u) Q X.xe s2) :
  UH (model X.prog X.w) X.A (eval a X.env) (λv s₁=>UH (model X.prog X.w) X.A (eval b X.env) (λu s₂=>UH (model X.prog X.w) X.A (f v u) Q X.xe s₂) X.xe s₁) X.xe s:=by
 refine thn (ha pins s σ H _ I h) λv s1 ⟨x,H1,I1,r1,q1⟩=>?_;refine thn (hb pins s1 σ H1 _ I1 q1) λu s2 ⟨y,H2,I2,r2,q2⟩=>?_;exact hf v u s2 x y H2 I2 r1 r2 q2
theorem NV{op:Operator}{r:R2}(ho:OpR X (binaryOp op) r)(ha:PE X a ta)(hb:PE X b tb):PE X (.BinOp a op b pos) (tOp r ta tb):=by intro pins s σ H Q I h;exact wpAny_BinOp (Sh ha hb I h λv u s2 x y H2 I2 rx ry q=>ho pins s2 σ H2 x y v u Q I2 rx ry q)
theorem Fo{op:UnaryOp}{r:V->Hp->VK->Prop}(ho:UnR X (unaryOp op) r)(ha:PE X a ta):PE X (.UnaryOp op a pos) (tUn r ta):=by intro pins s σ H Q I h;exact UnaryOp_ (thn (ha pins s σ H _ I h) λv s1 ⟨x,H1,I1,r1,q1⟩=>ho pins s1 σ H1 x v Q I1 r1 q1)
theorem opI{f:UA->UA->Sem UA}{C:Int->Int->Prop}{g:Int->Int->Int}
  (rule:∀(i j:Int)(t u:Tok)(s:UB)(Q:UA->UB->Prop)(E:UA->UB->Prop),C i j->Q (.int (g i j) s.toks) {s with toks:=s.toks+1}->UH (model X.prog X.w) X.A (f (.int i t) (.int j u)) Q E s) :
  OpR X f (rI C λi j=>.int (g i j)):=by
 intro pins s σ H x y v u Q I rx ry h;obtain⟨i,j,rfl,rfl,hc,q⟩:=h;obtain⟨t,rfl⟩:=rx;obtain⟨t',rfl⟩:=ry;exact rule i j t t' s _ _ hc ⟨.int (g i j),H,I.tok _,⟨_,rfl⟩,q⟩
theorem opI0{f:UA->UA->Sem UA}{g:Int->Int->Int}
  (rule:∀(i j:Int)(t u:Tok)(s:UB)(Q:UA->UB->Prop)(E:UA->UB->Prop),Q (.int (g i j) s.toks) {s with toks:=s.toks+1}->UH (model X.prog X.w) X.A (f (.int i t) (.int j u)) Q E s) :
  OpR X f (rI0 λi j=>.int (g i j)):=by
 intro pins s σ H x y v u Q I rx ry h;obtain⟨i,j,rfl,rfl,q⟩:=h;obtain⟨t,rfl⟩:=rx;obtain⟨t',rfl⟩:=ry;exact rule i j t t' s _ _ ⟨.int (g i j),H,I.tok _,⟨_,rfl⟩,q⟩
theorem WL{f:UA->UA->Sem UA}{g:Int->Int->Bool}
  (rule:∀(i j:Int)(t u:Tok)(s:UB)(Q:UA->UB->Prop)(E:UA->UB->Prop),Q (.bool (g i j)) s->UH (model X.prog X.w) X.A (f (.int i t) (.int j u)) Q E s) :
  OpR X f (rI0 λi j=>.bl (g i j)):=by
 intro pins s σ H x y v u Q I rx ry h;obtain⟨i,j,rfl,rfl,q⟩:=h;obtain⟨t,rfl⟩:=rx;obtain⟨t',rfl⟩:=ry;exact rule i j t t' s _ _ ⟨.bl (g i j),H,I,rfl,q⟩
def CPow(i j:Int):Prop:=0<=j/\j<=1000000/\i.natAbs<2 ^ 64
def CMul(i j:Int):Prop:=(-(2 ^ 64)<i/\i<2 ^ 64)∨(-(2 ^ 64)<j/\j<2 ^ 64)
theorem CMul.ok{i j:Int}(h:CMul i j):IntMulOk i j:=by
 rcases h with ⟨h1,h2⟩|⟨h1,h2⟩
 .exact .of_left (intBits_le_64 h1 h2)
 .exact .of_right (intBits_le_64 h1 h2)
theorem Dj:OpR X (binaryOp .Add) (rI0 λi j=>.int (i+j)):=opI0 λ_ _ _ _ _ _ _ q=>add_int q
theorem Di:OpR X (binaryOp .Sub) (rI0 λi j=>.int (i-j)):=opI0 λ_ _ _ _ _ _ _ q=>sub_int q
theorem Dh:OpR X (binaryOp .Mult) (rI CMul λi j=>.int (i*j)):=opI λ_ _ _ _ _ _ _ hc q=>mul_int q hc.ok
theorem Dg:OpR X (binaryOp .Mod) (rI (λ_ j=>0<j) λi j=>.int (i % j)):=opI λi j _ _ _ _ _ hc q=>by have h1:(0:Int)<j:=hc;exact mod_int' (by omega) (by rw[Int.fmod_eq_emod_of_nonneg i (by omega)];exact q)
theorem Df:OpR X (binaryOp .Pow) (rI CPow λi j=>.int (i ^ j.toNat)):=opI λ_ _ _ _ _ _ _ hc q=>pow_int_small hc.1 hc.2.1 hc.2.2 q
theorem Be:OpR X (inplaceOp .Mult) (rI CMul λi j=>.int (i*j)):=opI λ_ _ _ _ _ _ _ hc q=>imul_int q hc.ok
theorem unI{f:UA->Sem UA}{g:Int->Int}
  (rule:∀(i:Int)(t:Tok)(s:UB)(Q:UA->UB->Prop)(E:UA->UB->Prop),Q (.int (g i) s.toks) {s with toks:=s.toks+1}->UH (model X.prog X.w) X.A (f (.int i t)) Q E s) :
  UnR X f (rU λi=>.int (g i)):=by
 intro pins s σ H x v Q I rx h;obtain⟨i,rfl,q⟩:=h;obtain⟨t,rfl⟩:=rx;exact rule i t s _ _ ⟨.int (g i),H,I.tok _,⟨_,rfl⟩,q⟩
theorem De:UnR X (unaryOp .USub) (rU λi=>.int (-i)):=unI λ_ _ _ _ _ q=>neg_int q
end
section
variable{X:Cx}{a b c:UF}{ta tb tc:TE}{pos:Pos}
theorem N7{pins:List (UD×Obj)}{σ:St}{H:Hp}{s:UB}{Q:VK}{k k':Bool}(I:Inv X pins σ H s)(q:Q (.bl k) H)(e:k=k'):EP X pins σ Q (.bool k') s:=by subst e;exact⟨.bl k,H,I,rfl,q⟩
theorem Fn:OpR X (UJ .Lt) (rI0 λi j=>.bl (decide (i<j))):=WL λ_ _ _ _ _ _ _ q=>lt_int q
theorem Fm:OpR X (UJ .LtE) (rI0 λi j=>.bl (decide (i<=j))):=WL λ_ _ _ _ _ _ _ q=>le_int q
theorem Fl:OpR X (UJ .Gt) (rI0 λi j=>.bl (decide (j<i))):=WL λ_ _ _ _ _ _ _ q=>gt_int q
theorem Fk:OpR X (UJ .GtE) (rI0 λi j=>.bl (decide (j<=i))):=WL λ_ _ _ _ _ _ _ q=>ge_int q
theorem qx:OpR X (UJ .In) (λx y H Q=>∃i j,x=.str i/\y=.str j/\Q (.bl (!(Builtin.Str.occurrences j i 0 j.length 1).isEmpty)) H):=by intro pins s σ H x y v u Q I rx ry h;obtain⟨i,j,rfl,rfl,q⟩:=h;obtain⟨t,rfl⟩:=rx;obtain⟨t',rfl⟩:=ry;exact in_str (N7 I q xf)
theorem kH:OpR X (UJ .NotIn) (λx y H Q=>∃i j,x=.str i/\y=.str j/\Q (.bl (!(!(Builtin.Str.occurrences j i 0 j.length 1).isEmpty))) H):=by intro pins s σ H x y v u Q I rx ry h;obtain⟨i,j,rfl,rfl,q⟩:=h;obtain⟨t,rfl⟩:=rx;obtain⟨t',rfl⟩:=ry;exact notIn_str (N7 I q xf)
theorem OpR.or{f:UA->UA->Sem UA}{r r':R2}(h:OpR X f r)(h':OpR X f r'):OpR X f (λx y H Q=>r x y H Q∨r' x y H Q):=by
 intro pins s σ H x y v u Q I rx ry q;rcases q with q|q
 .exact h pins s σ H x y v u Q I rx ry q
 .exact h' pins s σ H x y v u Q I rx ry q
theorem Of(b:UF){op:CmpOp}(h:op≠.In:=by decide)(h2:op≠.NotIn:=by decide):behindInMarks op b=xj:=by
 have e1:(op==CmpOp.In)=xj:=by cases op<;>first|rfl|exact absurd xf h
 have e2:(op==CmpOp.NotIn)=xj:=by cases op<;>first|rfl|exact absurd xf h2
 cases b<;>simp[behindInMarks,e1,e2]
theorem Oy{op:CmpOp}{r:R2}(ho:OpR X (UJ op) r)(ha:PE X a ta)(hb:PE X b tb)(hm:behindInMarks op b=xj):PE X (.Compare a [op] [b] pos) (tOp r ta tb):=by intro pins s σ H Q I h;exact wpAny_Compare1 (Sh ha hb I h λv u s2 x y H2 I2 rx ry q=>ho pins s2 σ H2 x y v u Q I2 rx ry q) hm
noncomputable def NU(t:TE):TT:=λσ H Q=>t σ H λx H'=>∃k,x=.bl k/\Q k H'
theorem Ox{op:CmpOp}{r:R2}(ho:OpR X (UJ op) r)(ha:PE X a ta)(hb:PE X b tb)(hm:behindInMarks op b=xj):PT X (.Compare a [op] [b] pos) (NU (tOp r ta tb)):=by
 intro pins s σ H Q I h
 refine wpAny_isTrue_Compare1 (thn (ha pins s σ H _ I h) λv s1 ⟨x,H1,I1,r1,q1⟩=>thn (hb pins s1 σ H1 _ I1 q1) λu s2 ⟨y,H2,I2,r2,q2⟩=>
  thn (ho pins s2 σ H2 x y v u _ I2 r1 r2 q2) λc s3 ⟨z,H3,I3,r3,k,e,q3⟩=>?_) hm
 subst e;cases r3;exact QX ⟨H3,I3,q3⟩
noncomputable def N6(r r':R2)(ta tb tc:TE):TE:=λσ H Q=>ta σ H λx H1=>tb σ H1 λy H2=>r x y H2 λz H3=>∃k,z=.bl k /\
 (if k=xi then tc σ H3 λw' H4=>r' y w' H4 Q else Q (.bl xj) H3)
theorem AO{op op':CmpOp}{r r':R2}(ho:OpR X (UJ op) r)(ho':OpR X (UJ op') r')(ha:PE X a ta)(hb:PE X b tb)(hc:PE X c tc)
  (hm:lastMarks [op,op'] [b,c]=xj:=by with_unfolding_all rfl):PE X (.Compare a [op,op'] [b,c] pos) (N6 r r' ta tb tc):=by
 intro pins s σ H Q I h
 refine Compare_chain (thn (ha pins s σ H _ I h) λv s1 ⟨x,H1,I1,r1,q1⟩=>chain_link (thn (hb pins s1 σ H1 _ I1 q1) λu s2 ⟨y,H2,I2,r2,q2⟩=>
  thn (ho pins s2 σ H2 x y v u _ I2 r1 r2 q2) λd s3 ⟨z,H3,I3,r3,k,e,q3⟩=>?_)) hm
 subst e;cases r3;refine QX ?_;cases k with
 |false=>exact ite_ff ⟨.bl xj,H3,I3,rfl,q3⟩
 |true=>exact ite_tt (chain_last (thn (hc pins s3 σ H3 _ I3 q3) λw' s4 ⟨z',H4,I4,r4,q4⟩=>ho' pins s4 σ H4 y z' u w' Q I4 r2 r4 q4))
theorem AN{op op':CmpOp}{r r':R2}(ho:OpR X (UJ op) r)(ho':OpR X (UJ op') r')(ha:PE X a ta)(hb:PE X b tb)(hc:PE X c tc)
  (hm:lastMarks [op,op'] [b,c]=xj:=by with_unfolding_all rfl):PT X (.Compare a [op,op'] [b,c] pos) (NU (N6 r r' ta tb tc)):=by
 intro pins s σ H Q I h
 refine isTrue_chain (thn (ha pins s σ H _ I h) λv s1 ⟨x,H1,I1,r1,q1⟩=>test_link (thn (hb pins s1 σ H1 _ I1 q1) λu s2 ⟨y,H2,I2,r2,q2⟩=>
  thn (ho pins s2 σ H2 x y v u _ I2 r1 r2 q2) λd s3 ⟨z,H3,I3,r3,k,e,q3⟩=>?_)) hm
 subst e;cases r3;refine QX ?_;cases k with
 |false=>obtain⟨k',e',q'⟩:=q3;cases e';exact ite_ff ⟨H3,I3,q'⟩
 |true=>refine ite_tt (test_last (thn (hc pins s3 σ H3 _ I3 q3) λw' s4 ⟨z',H4,I4,r4,q4⟩=>thn (ho' pins s4 σ H4 y z' u w' _ I4 r2 r4 q4) λd' s5 ⟨z2,H5,I5,r5,k2,e2,q5⟩=>?_));subst e2;cases r5;exact QX ⟨H5,I5,q5⟩
def TruV(K:Frag)(x:V)(H:Hp)(k:Bool):Prop:=
 match x with
 |.non=>k=xj
 |.bl b=>k=b
 |.int i=>k=(i != 0)
 |.str y=>y.length<=UG/\k=((y.length:Int) != 0)
 |.byt y=>y.size<=UG/\k=((y.size:Int) != 0)
 |.ref p=>(∃xs,SqL K H p xs/\k = !xs.isEmpty)∨(∃xs,SqT K H p xs/\k = !xs.isEmpty) ∨ ∃kvs,H p=O (.dK kvs)/\k = !kvs.isEmpty
 |_=>False
theorem jo{κ:Type}{kvs:List (κ×V)}{vs:List (κ×UA)}(r:KV kvs vs):(!vs.isEmpty) = !kvs.isEmpty:=by cases r<;>rfl
theorem Gy{xs:List V}{its:xo}(r:Vals xs its):(!its.toArray.isEmpty) = !xs.isEmpty:=by cases r<;>simp
theorem VX:(UG:Nat)<2 ^ 63:=by rw[sizeLine_eq];decide
theorem Dd:TruR X (λx H Q=>∃k,TruV X.K x H k/\Q k H):=by
 intro pins s σ H x v Q I rx h;obtain⟨k,e,q⟩:=h;have hl:=VX;have hs:UG=16777216:=sizeLine_eq;cases x with
 |non=>cases rx;have e':k=xj:=e;subst e';exact truthy_none ⟨H,I,q⟩
 |bl b=>cases rx;have e':k=b:=e;subst e';exact QX ⟨H,I,q⟩
 |int i=>obtain⟨t,rfl⟩:=rx;have e':k=(i != 0):=e;subst e';exact PySem.P.truthy_int ⟨H,I,q⟩
 |str y=>obtain⟨t,rfl⟩:=rx;obtain⟨hy,e'⟩:y.length<=UG/\k=((y.length:Int) != 0):=e;subst e';exact PySem.P.truthy_str (by omega) ⟨H,I.tok _,q⟩
 |byt y=>obtain⟨t,rfl⟩:=rx;obtain⟨hy,e'⟩:y.size<=UG/\k=((y.size:Int) != 0):=e;subst e';exact PySem.W.truthy_bytes (by omega) ⟨H,I.tok _,q⟩
 |ref p=>
  cases rx;have e':(∃xs,SqL X.K H p xs/\k = !xs.isEmpty)∨(∃xs,SqT X.K H p xs/\k = !xs.isEmpty) ∨ ∃kvs,H p=O (.dK kvs)/\k = !kvs.isEmpty:=e;rcases e' with ⟨xs,hx,e'⟩|⟨xs,hx,e'⟩|⟨kvs,hx,e'⟩
  .subst e'
   obtain⟨its,r,pl,hz⟩:=I.list hx;have hlen:=r.length;exact wpAny_truthy_list pl.isList (by simp only[QJ];omega) ⟨H,I.tok _,by rw[Gy r];exact q⟩
  .subst e'
   obtain⟨its,r,pl,hz⟩:=I.tuple hx;have hlen:=r.length;exact truthy_tuple pl (by simp only[QJ];omega) ⟨H,I.tok _,by rw[Gy r];exact q⟩
  .subst e'
   obtain⟨hz,hS,vs,r,m⟩:kvs.length<=UG/\(p==sysModules)=xj/\∃vs,KV kvs vs/\s.heap.DictOf (Oz X.prog X.w) p vs:=I.hok p _ hx;have hlen:kvs.length=vs.length:=Paired.length r;exact wpAny_truthy_dict hS m (by omega) ⟨H,I.tok _,by rw[jo r];exact q⟩
 |_=>exact(show False from e).elim
theorem AM(ha:PE X a ta)(he:∀whole,isTrue a X.env whole=(do let v ←whole;standAt a.pos;holding [v] (truthy v))) :
  PT X a (λσ H Q=>ta σ H λx H'=>∃k,TruV X.K x H' k/\Q k H'):=by
 intro pins s σ H Q I h;exact isTrue_plain (thn (ha pins s σ H _ I h) λv s1 ⟨x,H1,I1,r1,q1⟩=>Dd pins s1 σ H1 x v Q I1 r1 q1) (he _)
theorem jn:OpR X (binaryOp .Add) (λx y H Q=>∃i j,x=.str i/\y=.str j/\i.length+j.length<=UG/\Q (.str (i++j)) H):=by intro pins s σ H x y v u Q I rx ry h;obtain⟨i,j,rfl,rfl,hz,q⟩:=h;obtain⟨t,rfl⟩:=rx;obtain⟨t',rfl⟩:=ry;exact add_str (λt' tk=>⟨.str (i++j),H,I.tok _,⟨_,rfl⟩,q⟩) hz
theorem RY{x:V}{us:xo}(r:Vals [x] us):∃u,us=[u]/\RelV x u:=by
 cases r with
 |cons r1 r2=>cases r2;exact⟨_,rfl,r1⟩
theorem P7{x y:V}{us:xo}(r:Vals [x,y] us):∃u w',us=[u,w']/\RelV x u/\RelV y w':=by
 cases r with
 |cons r1 r2=>
  cases r2 with
  |cons r3 r4=>cases r4;exact⟨_,_,rfl,r1,r3⟩
theorem qw(hc:X.calm=xi):YO X (.builtin "max") (λxs H Q=>∃i j,xs=[.int i,.int j]/\Q (.int (if j > i then j else i)) H):=by
 intro pins s σ H xs us Q I r h;obtain⟨i,j,rfl,q⟩:=h;obtain⟨u,w',rfl,⟨t,rfl⟩,⟨t',rfl⟩⟩:=P7 r;refine max_two_ints (I.ok.hd hc) λh' tk k=>⟨_,H,I.kept k,?_,q⟩
 by_cases hj:j > i
 .rw[Qo hj,Qo hj];exact⟨_,rfl⟩
 .rw[Qv hj,Qv hj];exact⟨_,rfl⟩
theorem qv:YO X (.type "int") (λxs H Q=>(∃i,xs=[.int i]/\Q (.int i) H) ∨ ∃k,xs=[.bl k]/\Q (.int (if k then 1 else 0)) H):=by
 intro pins s σ H xs us Q I r h;rcases h with ⟨i,rfl,q⟩|⟨k,rfl,q⟩
 .obtain⟨u,rfl,t,rfl⟩:=RY r
  exact call_int_int ⟨.int i,H,I,⟨_,rfl⟩,q⟩
 .obtain⟨u,rfl,r1⟩:=RY r
  cases r1;exact call_int_bool ⟨.int (if k then 1 else 0),H,I.tok _,⟨_,rfl⟩,q⟩
def LenV(K:Frag)(x:V)(H:Hp)(n:Nat):Prop:=
 match x with
 |.str y=>y.length<=UG/\n=y.length
 |.byt y=>y.size<=UG/\n=y.size
 |.ref p=>(∃xs,SqL K H p xs/\n=xs.length) ∨ ∃xs,SqT K H p xs/\n=xs.length
 |_=>False
theorem LF:YO X (.builtin "len") (λxs H Q=>∃x n,xs=[x]/\LenV X.K x H n/\Q (.int n) H):=by
 intro pins s σ H xs us Q I r h;obtain⟨x,n,rfl,e,q⟩:=h;obtain⟨u,rfl,rx⟩:=RY r;have hl:=VX;have hs:UG=16777216:=sizeLine_eq;cases x with
 |str y=>obtain⟨t,rfl⟩:=rx;obtain⟨hy,e'⟩:y.length<=UG/\n=y.length:=e;subst e';exact len_str (by omega) ⟨.int _,H,I.tok _,⟨_,rfl⟩,q⟩
 |byt y=>obtain⟨t,rfl⟩:=rx;obtain⟨hy,e'⟩:y.size<=UG/\n=y.size:=e;subst e';exact PySem.W.len_bytes (by omega) ⟨.int _,H,I.tok _,⟨_,rfl⟩,q⟩
 |ref p=>
  cases rx;have e':(∃xs,SqL X.K H p xs/\n=xs.length) ∨ ∃xs,SqT X.K H p xs/\n=xs.length:=e;rcases e' with ⟨xs,hx,e'⟩|⟨xs,hx,e'⟩
  .subst e'
   obtain⟨its,r',pl,hz⟩:=I.list hx;have hlen:=r'.length;exact Calls.call_len_list pl.isList (by simp only[QJ];omega) ⟨.int xs.length,H,I.tok _,⟨_,by simp only[QJ];rw[hlen]⟩,q⟩
  .subst e'
   obtain⟨its,r',pl,hz⟩:=I.tuple hx;have hlen:=r'.length;exact len_tuple pl (by simp only[QJ];omega) ⟨.int xs.length,H,I.tok _,⟨_,by simp only[QJ];rw[hlen]⟩,q⟩
 |_=>exact(show False from e).elim
end
structure Room(k:Nat)(A:Around):Prop where
 hd:A.handled=xg
 dp:A.depth+3*k+5<recursionLimit
 un:A.units+16*k+200<cLine
 gd:A.guards=O []
theorem Room.mono{j k:Nat}{A:Around}(r:Room k A)(h:j<=k):Room j A:=⟨r.hd,by have:=r.dp;omega,by have:=r.un;omega,r.gd⟩
theorem Room.deeper{k:Nat}{A:Around}(r:Room (k+1) A)(env:Env):Room k (A.deeper env):=
 ⟨r.hd,by have:=r.dp;show A.depth+1+3*k+5<_;omega,by have:=r.un;show A.units+3+16*k+200<_;omega,r.gd⟩
theorem Room.depth{k:Nat}{A:Around}(r:Room k A):A.depth<recursionLimit:=by have:=r.dp;omega
theorem Room.units{k:Nat}{A:Around}(r:Room k A):A.units+64<cLine:=by have:=r.un;omega
noncomputable def tNil:TA:=λ_ H Q=>Q [] H
noncomputable def Fj(ta:TE)(tr:TA):TA:=λσ H Q=>ta σ H λx H1=>tr σ H1 λxs H2=>Q (x::xs) H2
section
variable{X:Cx}{e:UF}{es:xp}{te:TE}{t:TA}{pos:Pos}
theorem SB:PA X [] tNil:=λ_ _ _ _ H Q I h=>Calls.spliced_nil ⟨[],H,I,.nil,h⟩
theorem V7(ha:PE X e te)(hr:PA X es t)(hs:UI (e::es) X.env=(xj,eval e X.env)::UI es X.env:=by rfl):PA X (e::es) (Fj te t):=by intro pos pins s σ H Q I h;rw[hs];show UH _ _ (spliced ((xj,eval e X.env)::backTo pos (UI es X.env))) _ _ s;refine Calls.spliced_cons (thn (ha pins s σ H _ I h) λu s1 ⟨x,H1,I1,r1,q1⟩=>?_);exact thn (hr pos pins s1 σ H1 _ I1 q1) λus s2 ⟨xs,H2,I2,r2,q2⟩=>⟨x::xs,H2,I2,.cons r1 r2,q2⟩
noncomputable def tTup(t:TA):TE:=λσ H Q=>t σ H λxs H1=>xs.length<=UG/\∀p,H1 p=xg->Q (.ref p) (upd H1 p (.tup xs))
noncomputable def tLst(t:TA):TE:=λσ H Q=>t σ H λxs H1=>xs.length<=UG/\∀p,H1 p=xg->Q (.ref p) (upd H1 p (.lst xs))
theorem Dc{x1}(h:PA X es t):PE X (.Tuple es x1 pos) (tTup t):=by intro pins s σ H Q I hq;refine wpAny_Tuple_spliced (thn (h pos pins s σ H _ I hq) λus s1 ⟨xs,H1,I1,r,z,q⟩=>⟨by rw[←r.length];exact z,?_⟩);have hf:H1 s1.heap.objs.size=xg:=I1.hok.fresh (Qs _);refine⟨.ref s1.heap.objs.size,upd H1 s1.heap.objs.size (.tup xs),I1.laid (t':=s1.toks) (λb u e=>Ql _ e) (Qs _) ?_,rfl,q _ hf⟩;exact⟨z,us,r,⟨_,QB _ xf,rfl,_,rfl⟩⟩
theorem N5(h:PA X es t):PE X (.List es pos) (tLst t):=by intro pins s σ H Q I hq;refine wpAny_List_spliced (thn (h pos pins s σ H _ I hq) λus s1 ⟨xs,H1,I1,r,z,q⟩=>⟨by rw[←r.length];exact z,?_⟩);have hf:H1 s1.heap.objs.size=xg:=I1.hok.fresh (Qs _);refine⟨.ref s1.heap.objs.size,upd H1 s1.heap.objs.size (.lst xs),I1.laid (t':=s1.toks) (λb u e=>Ql _ e) (Qs _) ?_,rfl,q _ hf⟩;exact⟨z,us,0,r,QB _ xf⟩
end
abbrev Sp:=List V->Hp->VK->XK->Prop
abbrev CXT:=List Env->Hp->UB->XK->UA->UB->Prop
structure Env0(P:UC)(w:World)(K:Frag)(mg:Str->xr)(base:Heap)(A:Around)(outer:List Env)(s:UB)(H:Hp):Prop where
 frames:A.frames=O outer
 mod:Mod K mg base
 bs:∀b o,base.get? b=O o->s.heap.get? b=O o/\H b=xg
 bsz:base.objs.size<=s.heap.objs.size
 funs:s.heap.FunFrames base outer
 frf:∀b∈frs outer,H b=xg
 hok:HOk P w H s.heap
 bare:AllBare s.gens
def CE(outer:List Env)(P:UC)(w:World)(H:Hp)(s:UB)(Q:VK)(u:UA)(s':UB):Prop:=
 ∃v H',s'.os=s.os/\AllBare s'.gens/\Un (frs outer) [] H H' s.heap s'.heap/\HOk P w H' s'.heap/\RelV v u/\Q v H'
def CR(CX:CXT)(outer:List Env)(P:UC)(w:World)(H:Hp)(s:UB)(Q:VK)(E:XK)(r:Result)(s':UB):Prop:=
 match r with
 |.ok (.ret u)=>CE outer P w H s Q u s'
 |.ok _=>False
 |.error e=>CX outer H s E e s'
structure FnOk(P:UC)(w:World)(K:Frag)(mg:Str->xr)(base:Heap)(CX:CXT)(k:Nat)(f:UD)(fd:UE)(ps:List Str)(sp:Sp):Prop where
 len:∀vs H Q E,sp vs H Q E->vs.length=ps.length
 run:∀(A:Around)(outer:List Env)(s:UB)(H:Hp)(args:Args)(us:xo)(vs:List V)(Q:VK)(E:XK),Room k A->Env0 P w K mg base A outer s H->BindsTo s fd args (ps.zip us)->Vals vs us->sp vs H Q E ->
  codeAny (model P w) A (.call (.ref f) args) (CR CX outer P w H s Q E) s
section
variable{X:Cx}{pins:List (UD×Obj)}{σ:St}{H:Hp}{s s':UB}
theorem Inv.env0(I:Inv X pins σ H s):Env0 X.prog X.w X.K X.mg X.base X.A X.stack s H:=
 ⟨I.ok.frames,I.ok.mod,I.bs,QR I.ok.bsz I.sz,I.stack,I.stkFree,I.hok,I.bare⟩
theorem Inv.after{Q:VK}{u:UA}(I:Inv X pins σ H s)(h:CE X.stack X.prog X.w H s Q u s'):EP X pins σ Q u s':=by obtain⟨v,H',os,bare,un,hok,r,q⟩:=h;obtain⟨hh,g,d,t,os'⟩:=s';obtain rfl:os'=s.os:=os;exact⟨v,H',I.call (h':=hh) (g':=g) (d':=d) (t':=t) (ch:=[]) un hok bare (λb z=>absurd z (by simp)),r,q⟩
end
noncomputable def Fi(sp:Sp)(dvs:List V)(E:XK)(t:TA):TE:=λσ H Q=>t σ H λvs H1=>sp (vs++dvs) H1 Q E
def Vr(K:Frag)(fd:UE)(ps:List Str)(ds:xo):Prop:=
 ∀(s:UB)(us:xo),K.In s.heap->(us++ds).length=ps.length->BindsTo s fd ⟨us,[]⟩ (ps.zip (us++ds))
theorem Vr.all{K:Frag}{fd:UE}{ps:List Str}(h:∀us:xo,us.length=ps.length->bindArgs fd ⟨us,[]⟩=pure (ps.zip us)):Vr K fd ps []:=λs us _ hl=>by rw[Je]at hl⊢;exact .of_eq (h us hl)
def Oe(CX:CXT)(X:Cx)(E:XK):Prop:=∀(pins:List (UD×Obj))(σ:St)(H:Hp)(s:UB)(e:UA)(s':UB),Inv X pins σ H s->CX X.stack H s E e s'->X.xe e s'
section
variable{X:Cx}{CX:CXT}{k:Nat}{f C:UD}{fd:UE}{ps:List Str}{sp:Sp}{dvs:List V}{ds:xo}{E:XK}{x m:Str}{p pos apos:Pos}{e o:UF}{es:xp}{ta:TE}{t:TA}
theorem Db{pins:List (UD×Obj)}{σ:St}{H:Hp}{s:UB}{Q:VK}{us:xo}{vs:List V}(F:FnOk X.prog X.w X.K X.mg X.base CX k f fd ps sp)(hr:Room k X.A)(hb:Vr X.K fd ps ds)(hd:Vals dvs ds)(hx:Oe CX X E)
  (I:Inv X pins σ H s) (r:Vals vs us) (h:sp (vs++dvs) H Q E):UH (model X.prog X.w) X.A (call (.ref f) us) (EP X pins σ Q) X.xe s:=by
 have r2:Vals (vs++dvs) (us++ds):=r.append hd;have hl:(us++ds).length=ps.length:=by rw[←r2.length];exact F.len _ _ _ _ h
 refine wpAny_call (codeAny_mono (F.run X.A X.stack s H ⟨us,[]⟩ (us++ds) (vs++dvs) Q E hr I.env0 (hb s us I.kIn hl) r2 h) λr s' hq=>?_);cases r with
 |error e=>exact hx pins σ H s e s' I hq
 |ok fl=>
  cases fl with
  |ret u=>exact I.after hq
  |next=>exact False.elim hq
  |brk=>exact False.elim hq
  |cont=>exact False.elim hq
theorem Bd(F:FnOk X.prog X.w X.K X.mg X.base CX k f fd ps sp)(hr:Room k X.A)(hg:Gl X x)(hm:X.mg x=O (.ref f))(hk:PySem.W.keepIn X.K (.ref f)=xi)(hb:Vr X.K fd ps ds)(hd:Vals dvs ds)(hx:Oe CX X E)
  (ha:PA X (e::es) t) (hdb:(x==("__debug__" : Str))=xj:=by decide) (he:UI (e::es) X.env=(xj,eval e X.env)::UI es X.env:=by rfl) (hpl:(backTo pos (UI es X.env)).any (·.1)=xj:=by rfl) :
  PE X (.Call (.Name x p) (e::es) [] pos) (Fi sp dvs E t):=by
 intro pins s σ H Q I h;refine wpAny_Call_Name_kw (Lw I hg hm ?_ hdb);refine PySem.W.callWith_K (h₀:=X.base) I.ok.mod.kin hk (thn (ha pos pins s σ H _ I h) λus s1 ⟨vs,H1,I1,r,q⟩=>⟨I1.kIn,?_⟩) he hpl;exact Db F hr hb hd hx I1 r q
end
structure Ru(N P:List Str)(sc:Scope):Prop where
 kind:sc.kind=.function
 co:sc.isCoroutine=xj
 gen:sc.isGenerator=xj
 nd:N.Nodup
 pre:N.take P.length=P
 par:∀x∈P,sc.names.lookup x=O .local∨sc.names.lookup x=O .cell
 nofree:∀y∈sc.names,y.2≠.free
theorem HG{kindOf:Str->Option NameKind}{x:Str}:∀{binds:List (Str×UA)}{m:Str->xr},(∀v,(x,v)∉binds)->bindL kindOf binds m x=m x
 |[],_,_=>rfl
 |(n,v)::r,m,h=>by
  unfold bindL;rw[HG λw hw=>h w (Qi _ hw)];split
  .have:x≠n:=by rintro rfl;exact h v Qk
   simp[this]
  .rfl
theorem HF{kindOf:Str->Option NameKind}{x:Str}:∀{binds:List (Str×UA)}{m:Str->xr},(∀v,(x,v)∉binds)->bindC kindOf binds m x=m x
 |[],_,_=>rfl
 |(n,v)::r,m,h=>by
  unfold bindC;rw[HF λw hw=>h w (Qi _ hw)];split
  .rfl
  .have:x≠n:=by rintro rfl;exact h v Qk
   simp[this]
theorem HE{kindOf:Str->Option NameKind}{x:Str}{v:UA}:∀{P:List Str}{vs:xo}{i:Nat}{m:Str->xr},P.Nodup->P[i]?=O x->vs[i]?=O v->kindOf x=O .local ->
  bindL kindOf (P.zip vs) m x=O v
 |[],_,_,_,_,h,_,_=>by simp at h
 |_::_,[],_,_,_,_,h,_=>by simp at h
 |p::P,w::vs,0,m,nd,h1,h2,hk=>by simp at h1 h2;subst h1;subst h2;show bindL kindOf ((p,w)::P.zip vs) m p=_;unfold bindL;rw[HG λv hv=>(Ux.mp nd).1 (List.of_mem_zip hv).1,Qo hk];simp
 |p::P,w::vs,i+1,m,nd,h1,h2,hk=>by show bindL kindOf ((p,w)::P.zip vs) m x=_;unfold bindL;exact HE (i:=i) (List.nodup_cons.mp nd).2 (by simpa using h1) (by simpa using h2) hk
theorem HD{kindOf:Str->Option NameKind}{x:Str}{v:UA}:∀{P:List Str}{vs:xo}{i:Nat}{m:Str->xr},P.Nodup->P[i]?=O x->vs[i]?=O v->kindOf x≠O .local ->
  bindC kindOf (P.zip vs) m x=O v
 |[],_,_,_,_,h,_,_=>by simp at h
 |_::_,[],_,_,_,_,h,_=>by simp at h
 |p::P,w::vs,0,m,nd,h1,h2,hk=>by simp at h1 h2;subst h1;subst h2;show bindC kindOf ((p,w)::P.zip vs) m p=_;unfold bindC;rw[HF λv hv=>(Ux.mp nd).1 (List.of_mem_zip hv).1,Qv hk];simp
 |p::P,w::vs,i+1,m,nd,h1,h2,hk=>by show bindC kindOf ((p,w)::P.zip vs) m x=_;unfold bindC;exact HD (i:=i) (List.nodup_cons.mp nd).2 (by simpa using h1) (by simpa using h2) hk
noncomputable def XX(N:List Str)(vs:List V):St:=vs.map O++UL (N.length-vs.length) xg
noncomputable def Xa(CX:CXT)(P:UC)(w:World)(K:Frag)(mg:Str->xr)(base:Heap)(N:List Str)(qual:Str)(scope:Scope)(f:UD)(cd:UA)(A:Around)(outer:List Env)(s:UB)(H:Hp)(E:XK):Cx where
 prog:=P
 w:=w
 K:=K
 mg:=mg
 base:=base
 A:=A.deeper (envOfC qual scope s.heap.objs.size f cd)
 N:=N
 s₀:=s
 H₀:=H
 env:=envOfC qual scope s.heap.objs.size f cd
 outer:=outer
 stack:=envOfC qual scope s.heap.objs.size f cd::outer
 ex:=[]
 calm:=xi
 fn:=λ_=>xi
 pn:=[]
 xe:=λe s'=>UH (model P w) (A.deeper (envOfC qual scope s.heap.objs.size f cd)) (leaving (envOfC qual scope s.heap.objs.size f cd) e) (λ_ s''=>CX outer H s E e s'') (λe' s''=>CX outer H s E e' s'') s'
theorem OQ{sc:Scope}{n:Nat}{x:Str}(h:sc.names.lookup x=O .cell):∃c,(cellsFrom n sc.names []).lookup x=O c:=by have q:=PySem.W.cellsFrom_some sc.names n [] (.inl h);exact Option.isSome_iff_exists.mp q
theorem qu{CX:CXT}{P:UC}{w:World}{K:Frag}{mg:Str->xr}{base:Heap}{N ps:List Str}{qual:Str}{scope:Scope}{f:UD}{cd:UA}{A:Around}{outer:List Env}{s s1:UB}{H:Hp}{E:XK}{us:xo}{vs:List V}
  (S:Ru N ps scope) (hd:A.handled=xg) (e0:Env0 P w K mg base A outer s H) (hl:vs.length=ps.length) (r:Vals vs us)
  (x:InCallC s s.heap.objs.size (bindL (envOfC qual scope s.heap.objs.size f cd).kindOf (ps.zip us) λ_=>xg) (cellsFrom (s.heap.objs.size+1) scope.names []) (bindC (envOfC qual scope s.heap.objs.size f cd).kindOf (ps.zip us) λ_=>xg) s1) :
  Inv (Xa CX P w K mg base N qual scope f cd A outer s H E) [] (XX N vs) H s1:=by
 have hpl:ps.length<=N.length:=by have:=congrArg List.length S.pre;rw[QS]at this;omega
 obtain⟨h1,tk,rfl,hk⟩:=x.done;have noA:∀b:UD,b∉(Xa CX P w K mg base N qual scope f cd A outer s H E).ex:=λb z=>absurd (show b∈([]:xw)from z) (by simp)
 refine⟨⟨e0.mod,S.kind,rfl,rfl,Qs _,λy z c h1 h2=>?_,λy hy=>?_,λy c _ h=>?_,λ_=>hd,Around.frames_deeper e0.frames,.inr ⟨rfl,rfl⟩,λb z=>absurd z (noA b),e0.bs,e0.bsz,λb _ _=>noA b,λb z=>absurd z (noA b),e0.funs,e0.frf⟩,
  rfl,e0.bare,Un.kept hk,⟨_,x.toInCall.ns,λi y v h1 h2 h3=>?_⟩,λy c h=>⟨_,x.cell y c h⟩,e0.hok.fresh (Nat.le_refl _),λy c h=>?_,λp hp=>absurd (show p∈([]:List (UD×Obj))from hp) (by simp),e0.hok.kept hk,?_⟩
 .exact name_of_addr x.apart (Jl h1) (Jl h2)
 .have hy:scope.names.lookup y=O .cell∨scope.names.lookup y=O .free:=hy
  rcases hy with hy|hy
  .exact OQ hy
  .exact absurd xf (S.nofree _ (Jl hy))
 .exact Uu (x.above y c (Jl h))
 .have hi:i<vs.length:=by
   unfold XX at h2;by_cases hi:i<vs.length
   .exact hi
   .rw[List.getElem?_append_right (by simpa using hi)]at h2
    rw[QA]at h2;split at h2<;>cases h2
  have ha:vs[i]?=O v:=by
   unfold XX at h2;rw[List.getElem?_append_left (by simpa using hi),List.getElem?_map]at h2;cases e:vs[i]? with
   |none=>rw[e]at h2;cases h2
   |some a=>rw[e]at h2;cases h2;rfl
  obtain⟨u,hu,rv⟩:=r.get ha;have hp:ps[i]?=O y:=by rw[←S.pre,List.getElem?_take_of_lt (by omega)];exact h1
  have ndP:ps.Nodup:=by rw[←S.pre];exact S.nd.sublist (List.take_sublist _ _)
  refine⟨u,rv,?_⟩;rcases S.par y (Qr hp)with k|k
  .exact .inl ⟨k,HE ndP hp hu k⟩
  .obtain⟨c,e⟩:=OQ (n:=s.heap.objs.size+1) k
   refine .inr ⟨.inl k,c,e,?_⟩;have q:=x.cell y c e;rw[HD ndP hp hu (by show scope.names.lookup y≠_;rw[k];decide)]at q;exact q
 .exact e0.hok.fresh (Uu (x.above y c (Jl h)))
 .unfold XX
  show _=N.length;rw[Qm,Qb,QF];omega
theorem Fh{CX:CXT}{P:UC}{w:World}{K:Frag}{mg:Str->xr}{base:Heap}{k:Nat}{f:UD}{name qual:Str}{params:Arguments}{body:List Stmt}{scope:Scope}{dV kV doc pm cdv ct oc:UA}{an od:xz}
  {osl:Array xr} {N ps:List Str} {sp:Sp} (lk:K.lookup f=O ⟨oc,od,.func (PySem.W.fnOf name qual params body scope dV kV doc pm an cdv ct),osl⟩) (hcd:PySem.W.codeIn K cdv qual=xi) (S:Ru N ps scope)
  (len:∀vs H Q E,sp vs H Q E->vs.length=ps.length)
  (hbody:∀(A:Around)(outer:List Env)(s:UB)(H:Hp)(vs:List V)(Q:VK)(E:XK),Room k (A.deeper (envOfC qual scope s.heap.objs.size f cdv))->sp vs H Q E ->
   ∃t,PSs (Xa CX P w K mg base N qual scope f cdv A outer s H E) body t/\t {nx:=λ_ H'=>Q .non H',rt:=Q} (XX N vs) H) :
  FnOk P w K mg base CX (k+1) f (PySem.W.fnOf name qual params body scope dV kV doc pm an cdv ct) ps sp:=by
 refine⟨len,λA outer s H args us vs Q E hr e0 hb r v3=>?_⟩;have hl:=len _ _ _ _ v3;have KX:K.In s.heap:=e0.mod.kin.keeps λb o e=>(e0.bs b o e).1;have lim:s.heap.NoLimit:=e0.mod.nolimit.keeps λb o e=>(e0.bs b o e).1
 have hkind:∀y∈ps.zip us,scope.names.lookup y.1=O .local∨(scope.names.lookup y.1=O .cell/\((cellsFrom (s.heap.objs.size+1) scope.names []).lookup y.1).isSome=xi):=λ⟨n,v⟩ hy=>by
  rcases S.par n (List.of_mem_zip hy).1 with q|q
  .exact .inl q
  .exact .inr ⟨q,PySem.W.cellsFrom_some _ _ _ (.inl q)⟩
 refine codeAny_call_function hr.depth (KX _ _ lk) xf S.co S.gen xf (PySem.W.codeRec_of KX hcd) (hb _ _ _ _ ?_);refine wpAny_newFunctionEnv_cells S.kind hkind λenv he s1 x=>?_;subst he
 refine⟨lim.keeps x.toInCall.keep,codeAny_func ?_⟩;obtain⟨t,ht,hq⟩:=hbody A outer s H vs Q E (hr.deeper _) v3;have I:Inv (Xa CX P w K mg base N qual scope f cdv A outer s H E) [] (XX N vs) H s1:=qu S hr.hd e0 hl r x;refine QO (ht [] s1 (XX N vs) H _ I hq) (λfl s' hs=>?_) λe s' hs=>hs
 have fin:∀{σ':St}{H':Hp}{v:V}{u:UA},Inv (Xa CX P w K mg base N qual scope f cdv A outer s H E) [] σ' H' s'->RelV v u->Q v H'->CE outer P w H s Q u s':=
  λ{σ' H' v u} J rv q=>⟨v,H',J.os,J.bare,J.base,J.hok,rv,q⟩
 cases fl with
 |ret u=>obtain⟨v,σ',H',J,rv,q⟩:=hs;exact fin J rv q
 |next=>obtain⟨σ',H',J,q⟩:=hs;exact fin (v:=V.non) (u:=Value.none) J xf q
 |brk=>obtain⟨_,_,_,q⟩:=hs;exact False.elim q
 |cont=>obtain⟨_,_,_,q⟩:=hs;exact False.elim q
section
variable{X:Cx}{x:Str}{p pos:Pos}{e:UF}{es:xp}{t:TA}{id T:String}{r:List V->Hp->VK->Prop}
noncomputable def tCB(r:List V->Hp->VK->Prop)(t:TA):TE:=λσ H Q=>t σ H λvs H1=>r vs H1 Q
theorem Px(hc:YO X (.builtin id) r)(hg:Gl X x)(hm:X.mg x=xg)(hv:bootBuiltins x=O (.builtin id))(ha:PA X (e::es) t)(hn:x ≠ "__name__" :=by decide)(hdb:(x==("__debug__" : Str))=xj:=by decide)
  (he:UI (e::es) X.env=(xj,eval e X.env)::UI es X.env:=by rfl) (hpl:(backTo pos (UI es X.env)).any (·.1)=xj:=by rfl):PE X (.Call (.Name x p) (e::es) [] pos) (tCB r t):=by
 intro pins s σ H Q I h;refine wpAny_Call_Name_kw (Vz I hg hm hv ?_ hn hdb);exact PyProof.Rows.callWith_builtin1 (thn (ha pos pins s σ H _ I h) λus s1 ⟨vs,H1,I1,r1,q1⟩=>hc pins s1 σ H1 vs us Q I1 r1 q1) he hpl
theorem PX(hc:YO X (.type T) r)(hg:Gl X x)(hm:X.mg x=xg)(hv:bootBuiltins x=O (.type T))(ha:PA X (e::es) t)(hn:x ≠ "__name__" :=by decide)(hdb:(x==("__debug__" : Str))=xj:=by decide)
  (he:UI (e::es) X.env=(xj,eval e X.env)::UI es X.env:=by rfl) (hpl:(backTo pos (UI es X.env)).any (·.1)=xj:=by rfl):PE X (.Call (.Name x p) (e::es) [] pos) (tCB r t):=by
 intro pins s σ H Q I h;refine wpAny_Call_Name_kw (Vz I hg hm hv ?_ hn hdb);exact JG (thn (ha pos pins s σ H _ I h) λus s1 ⟨vs,H1,I1,r1,q1⟩=>hc pins s1 σ H1 vs us Q I1 r1 q1) he hpl
end
end L2
namespace HT
open PySem PyProof.Rows
noncomputable def Z7:xm->xm->Bool
 |[],[]=>xj
 |[],_::_=>xi
 |_::_,[]=>xj
 |x::xs,y::ys=>if x=y then Z7 xs ys else decide (x<y)
theorem Nz(x y:Int)(xs ys:xm):Z7 (x::xs) (y::ys)=if x=y then Z7 xs ys else decide (x<y):=rfl
theorem AL(A:Around)(s:UB)(a:Int)(t:Tok)(c:Int)(u:Tok):∃e,SeqAt.EqAt A s (.int a t) (.int c u) e/\(e=xi ↔ a=c):=
 ⟨(a==c),SeqAt.EqAt.int_int a t c u,by simp⟩
section
variable{prog:UC}{w:World}{A:Around}{E:UA->UB->Prop}{s:UB}
noncomputable def sIx(n d:Nat):xq->Nat
 |none=>d
 |some v=>if v<0 then(v+(n:Int)).toNat else min v.toNat n
end
end HT
namespace L2
open PySem PySem.Spec PyProof.Rows
abbrev TO:=St->Hp->(xq->Hp->Prop)->Prop
def PO(X:Cx)(e:Option UF)(t:TO):Prop:=
 ∀(pins:List (UD×Obj))(s:UB)(σ:St)(H:Hp)(Q:xq->Hp->Prop),Inv X pins σ H s->t σ H Q ->
  UH (model X.prog X.w) X.A (evalPart e X.env) (λu s'=>∃o H',Inv X pins σ H' s'/\IsPart u o/\Q o H') X.xe s
noncomputable def Bc:TO:=λ_ H Q=>Q xg H
noncomputable def Fg(t:TE):TO:=λσ H Q=>t σ H λx H1=>∃i,x=.int i/\Q (O i) H1
theorem jm{ns:xm}:∀{us:xo},Vals (ns.map V.int) us->IntsAre us ns:=by
 induction ns with
 |nil=>intro us r;rw[Uo]at r;cases r;exact .nil
 |cons n ns ih=>
  intro us r;rw[Qu]at r;cases r with
  |cons r1 r2=>obtain⟨t,e⟩:=r1;subst e;exact .cons n t (ih r2)
section
variable{X:Cx}{e:UF}{te:TE}{lo hi:Option UF}{tl th:TO}{pos p2:Pos}
theorem Bb:PO X xg Bc:=by intro pins s σ H Q I h;rw[evalPart_none];exact Qn ⟨xg,H,I,.none,h⟩
theorem Ba(h:PE X e te):PO X (O e) (Fg te):=by
 intro pins s σ H Q I hw;rw[evalPart_some];refine thn (h pins s σ H _ I hw) λu s1 ⟨x,H1,I1,r1,q1⟩=>?_
 obtain⟨i,rfl,q⟩:=q1;obtain⟨t,rfl⟩:=r1;exact⟨O i,H1,I1,.int i t,q⟩
def SlR(X:Cx)(r:V->xq->xq->Hp->VK->Prop):Prop:=
 ∀(pins:List (UD×Obj))(s:UB)(σ:St)(H:Hp)(x:V)(v vl vu:UA)(lo hi:xq)(sl:UD)(Q:VK),Inv X pins σ H s->RelV x v->s.heap.IsSliceOf sl vl vu .none->IsPart vl lo->IsPart vu hi->r x lo hi H Q ->
  ∃T id,typeLookup (.type T) "__getitem__" = pure (O (.builtin id))/\s.TypeIs v T/\UH (model X.prog X.w) X.A (getItem v (.ref sl)) (EP X pins σ Q) X.xe s
theorem SlR.or{r r':V->xq->xq->Hp->VK->Prop}(h:SlR X r)(h':SlR X r'):SlR X (λx lo hi H Q=>r x lo hi H Q∨r' x lo hi H Q):=by
 intro pins s σ H x v vl vu lo hi sl Q I rx hs pl pu q;rcases q with q|q
 .exact h pins s σ H x v vl vu lo hi sl Q I rx hs pl pu q
 .exact h' pins s σ H x v vl vu lo hi sl Q I rx hs pl pu q
noncomputable def tSl(r:V->xq->xq->Hp->VK->Prop)(te:TE)(tl th:TO):TE:=λσ H Q=>te σ H λx H1=>tl σ H1 λl H2=>th σ H2 λu H3=>r x l u H3 Q
theorem AK{r:V->xq->xq->Hp->VK->Prop}(hr:SlR X r)(he:PE X e te)(hl:PO X lo tl)(hu:PO X hi th):PE X (.Subscript e (.Slice lo hi xg p2) pos) (tSl r te tl th):=by
 intro pins s σ H Q I h;refine Subscript_ (thn (he pins s σ H _ I h) λv s1 ⟨x,H1,I1,r1,q1⟩=>?_);refine wpAny_Slice (thn (hl pins s1 σ H1 _ I1 q1) λvl s2 ⟨l,H2,I2,pl,q2⟩=>thn (hu pins s2 σ H2 _ I2 q2) λvu s3 ⟨u,H3,I3,pu,q3⟩=>?_);rw[evalPart_none];refine Qn ?_;have I4:Inv X pins σ H3 {s3 with heap:=s3.heap.push {cls:=.type "slice", data:=.fields #[vl,vu,.none]}}:=I3.kept (t':=s3.toks) λb ob q=>Ql _ q
 obtain⟨T,id,hT,ht,hg⟩:=hr pins {s3 with heap:=s3.heap.push {cls:=.type "slice", data:=.fields #[vl,vu,.none]}} σ H3 x v vl vu l u s3.heap.objs.size Q I4 r1 (Heap.IsSliceOf.new ..) pl pu q3;show UH (model X.prog X.w) X.A (subscriptTail e (.Slice lo hi xg p2) v (.ref s3.heap.objs.size)) (EP X pins σ Q) X.xe {s3 with heap:=s3.heap.push {cls:=.type "slice", data:=.fields #[vl,vu,.none]}};exact tail_any (ops:=[.ref s3.heap.objs.size,v]) ht hT hg (by with_unfolding_all rfl)
noncomputable def XB(xs:List V)(lo hi:xq):List V:=(xs.drop (HT.sIx xs.length 0 lo)).take (HT.sIx xs.length xs.length hi-HT.sIx xs.length 0 lo)
theorem j7(xs:List V)(lo hi:xq):(XB xs lo hi).length<=xs.length:=by unfold XB;rw[QS,Jo];omega
end
noncomputable def ixN(n:Nat)(i:Int):Option Nat:=if 0<=i then(if i<n then O i.toNat else xg)else if -(n:Int)<=i then O (i+n).toNat else xg
noncomputable def atI{α:Type}(xs:List α)(i:Int):Option α:=(ixN xs.length i).bind λj=>xs[j]?
theorem Ow{n:Nat}{i:Int}{j:Nat}(h:ixN n i=O j):seqIndex? i n=O j/\j<n /\ -(n:Int)<=i/\i<n:=by
 unfold ixN at h;by_cases h0:0<=i
 .rw[Qo h0]at h
  by_cases h1:i<n
  .rw[Qo h1]at h
   have e:i.toNat=j:=Q5 h;exact⟨by rw[seqIndex_of h0 h1,e],by omega,by omega,h1⟩
  .rw[Qv h1]at h;cases h
 .rw[Qv h0]at h
  by_cases h1 : -(n:Int)<=i
  .rw[Qo h1]at h
   have e:(i+n).toNat=j:=Q5 h;exact⟨by rw[seqIndex_neg (by omega) h1,e],by omega,h1,by omega⟩
  .rw[Qv h1]at h;cases h
theorem Pn{α:Type}{xs:List α}{i:Int}{v:α}(h:atI xs i=O v):∃j,seqIndex? i xs.length=O j/\xs[j]?=O v/\j<xs.length /\ -(xs.length:Int)<=i/\i<xs.length:=by
 unfold atI at h;cases e:ixN xs.length i with
 |none=>rw[e]at h;cases h
 |some j=>rw[e]at h;obtain⟨h1,h2,h3,h4⟩:=Ow e;exact⟨j,h1,h,h2,h3,h4⟩
theorem ZC{α:Type}{xs:List α}{j:Nat}{v:α}(h:xs[j]?=O v):atI xs (j:Int)=O v:=by
 have hj:j<xs.length:=(Qg.mp h).1;have e:ixN xs.length (j:Int)=O j:=by unfold ixN;rw[if_pos (by omega),if_pos (by omega)];simp
 unfold atI;rw[e];exact h
def Ov(b:UF):Prop:=∀o i,subscripted b xj o i=operate [o,i] (getItem o i)
def IxR(X:Cx)(r:R2):Prop:=
 ∀(value slice:UF)(pins:List (UD×Obj))(s:UB)(σ:St)(H:Hp)(x y:V)(v u:UA)(Q:VK),Inv X pins σ H s->RelV x v->RelV y u->r x y H Q ->
  subscripted slice xj v u=operate [v,u] (getItem v u)->UH (model X.prog X.w) X.A (subscriptTail value slice v u) (EP X pins σ Q) X.xe s
def MtR(X:Cx)(id:String)(r:V->List V->Hp->VK->Prop):Prop:=
 ∀(pins:List (UD×Obj))(s:UB)(σ:St)(H:Hp)(x:V)(xs:List V)(v:UA)(us:xo)(Q:VK),Inv X pins σ H s->RelV x v->Vals xs us->r x xs H Q ->
  UH (model X.prog X.w) X.A (call (.builtin id) (v::us)) (EP X pins σ Q) X.xe s
section
variable{X:Cx}{a b:UF}{ta tb:TE}{pos:Pos}
theorem IxR.or{r r':R2}(h:IxR X r)(h':IxR X r'):IxR X (λx y H Q=>r x y H Q∨r' x y H Q):=by
 intro value slice pins s σ H x y v u Q I rx ry q hs;rcases q with q|q
 .exact h value slice pins s σ H x y v u Q I rx ry q hs
 .exact h' value slice pins s σ H x y v u Q I rx ry q hs
theorem NT{r:R2}(hr:IxR X r)(ha:PE X a ta)(hb:PE X b tb)(hs:Ov b):PE X (.Subscript a b pos) (tOp r ta tb):=by intro pins s σ H Q I h;exact Subscript_ (Sh ha hb I h λv u s2 x y H2 I2 rx ry q=>hr a b pins s2 σ H2 x y v u Q I2 rx ry q (hs _ _))
noncomputable def rIxL(K:Frag):R2:=λx y H Q=>∃p xs i v,x=.ref p/\y=.int i/\SqL K H p xs/\atI xs i=O v/\Q v H
noncomputable def rIxT(K:Frag):R2:=λx y H Q=>∃p xs i v,x=.ref p/\y=.int i/\SqT K H p xs/\atI xs i=O v/\Q v H
noncomputable def rIxS:R2:=λx y H Q=>∃z i c,x=.str z/\y=.int i/\z.length<=UG/\atI z.cps.toList i=O c/\Q (.str ⟨#[c]⟩) H
theorem C9:IxR X (rIxL X.K):=by
 intro value slice pins s σ H x y v u Q I rx ry h hs;obtain⟨p,xs,i,z,rfl,rfl,hq,he,q⟩:=h;cases rx;obtain⟨t,rfl⟩:=ry;obtain⟨its,r,pl,hz⟩:=I.list hq;obtain⟨j,h1,h2,h3,h4,h5⟩:=Pn he;obtain⟨w,ew,vo⟩:=r.get h2;have hl:=r.length;have hn:=VX;have fin:EP X pins σ Q w s:=⟨z,H,I,vo,q⟩
 by_cases h0:0<=i
 .have hj:i.toNat=j:=by
   rw[seqIndex_of h0 h5]at h1;exact Q5 h1
  exact item_listR pl.isList h0 (by omega) (by rw[hj];simpa using ew) fin hs
 .have hj:(i+(its.toArray.size:Int)).toNat=j:=by
   rw[seqIndex_neg (by omega) h4]at h1;rw[QJ,←hl];exact Q5 h1
  exact subscriptTail_builtinR (x:=w) pl.isList.typeIs slot_list_getitem.lookup
   (wpAny_getItem_list_neg (Q:=λr s'=>r=w/\EP X pins σ Q r s') pl.isList (by omega) (by rw[List.size_toArray]<;>omega) (by omega) (by rw[hj];simpa using ew) ⟨rfl,fin⟩) hs
theorem Da:IxR X (rIxT X.K):=by
 intro value slice pins s σ H x y v u Q I rx ry h hs;obtain⟨p,xs,i,z,rfl,rfl,hq,he,q⟩:=h;cases rx;obtain⟨t,rfl⟩:=ry;obtain⟨its,r,pl,hz⟩:=I.tuple hq;obtain⟨j,h1,h2,h3,h4,h5⟩:=Pn he;obtain⟨w,ew,vo⟩:=r.get h2;have hl:=r.length;have hn:=VX;have fin:EP X pins σ Q w s:=⟨z,H,I,vo,q⟩
 exact subscriptTail_builtinR (x:=w) pl.typeIs slot_tuple_getitem.lookup
  (getItem_tuple (j:=j) (Q:=λr s'=>r=w/\EP X pins σ Q r s') pl (by omega) (by omega) (by rw[List.size_toArray,←hl];exact h1) (by simpa using ew) ⟨rfl,fin⟩) hs
theorem E9:IxR X rIxS:=by
 intro value slice pins s σ H x y v u Q I rx ry h hs;obtain⟨z,i,c,rfl,rfl,hz,he,q⟩:=h;obtain⟨t,rfl⟩:=rx;obtain⟨t',rfl⟩:=ry;obtain⟨j,h1,h2,h3,h4,h5⟩:=Pn he;have hl:z.cps.toList.length=z.length:=by simp[Str.length]
 rw[hl]at h1 h4 h5;have hn:=VX;exact tail_any (typeIs_str s z t) slot_str_getitem.lookup (getItem_str (c:=c) (by have e1:decide (i < -(2 ^ 63:Int))=xj:=QI (by omega);have e2:decide (i ≥ 2 ^ 63)=xj:=QI (by omega);rw[e1,e2,Bool.or_false]) (by rw[h1];simpa using h2) ⟨.str ⟨#[c]⟩,H,I.tok _,⟨_,rfl⟩,q⟩) hs
noncomputable def rIx(K:Frag):R2:=λx y H Q=>rIxL K x y H Q∨rIxT K x y H Q∨rIxS x y H Q
theorem N4:IxR X (rIx X.K):=C9.or (Da.or E9)
theorem jk(its:xo)(n j:Nat)(u:UA):Obj.mapSeq (·.setIfInBounds j u) {cls:=.type "list", data:=.seq its.toArray n} = {cls:=.type "list", data:=.seq (its.set j u).toArray n}:=by simp[Obj.mapSeq]
theorem Inv.lst{pins:List (UD×Obj)}{σ:St}{H:Hp}{s:UB}{p:UD}{xs:List V}(I:Inv X pins σ H s)(h:H p=O (.lst xs)) :
  ∃(its:xo)(n:Nat),Vals xs its/\s.heap.get? p=O {cls:=.type "list", data:=.seq its.toArray n}/\xs.length<=UG:=by
 obtain⟨z,its,n,r,e⟩:=I.hok p _ h;exact⟨its,n,r,e,z⟩
theorem Inv.lstUpd{pins:List (UD×Obj)}{σ:St}{H:Hp}{s:UB}{p:UD}{xs ys:List V}{its its':xo}{n n':Nat}{f:Obj->Obj}(I:Inv X pins σ H s)(h:H p=O (.lst xs))
  (ho:s.heap.get? p=O {cls:=.type "list", data:=.seq its.toArray n}) (hf:f {cls:=.type "list", data:=.seq its.toArray n} = {cls:=.type "list", data:=.seq its'.toArray n'}) (r:Vals ys its') (hz:ys.length<=UG) (t:Nat) :
  Inv X pins σ (upd H p (.lst ys)) {s with heap:=s.heap.update p f,toks:=t}:=by
 have e:(s.heap.update p f).get? p=O {cls:=.type "list", data:=.seq its'.toArray n'}:=by rw[Heap.get?_update_self f ho (by rw[hf]<;>rfl),hf]
 refine I.write (x:=p) (e:=p) (by rw[h];trivial) (.inl xf) (λb u hb q=>(Q4 _ _ (Ne.symm hb)).trans q) ⟨_,e⟩ ?_;exact⟨hz,its',n',r,e⟩
noncomputable def Ff:V->V->V->Hp->(Hp->Prop)->Prop:=λo i v H Q=>∃p xs k j,o=.ref p/\i=.int k/\H p=O (.lst xs)/\ixN xs.length k=O j/\Q (upd H p (.lst (xs.set j v)))
theorem AJ:PSet X Ff:=by
 intro pins s σ H o i v ov iv u Q I ro ri rv h;obtain⟨p,xs,k,j,rfl,rfl,hp,hj,q⟩:=h;cases ro;obtain⟨t,rfl⟩:=ri;obtain⟨its,n,r,ho,hz⟩:=I.lst hp;obtain⟨h1,h2,h3,h4⟩:=Ow hj;have hl:=r.length;have hn:=VX
 have I':Inv X pins σ (upd H p (.lst (xs.set j v))) {s with heap:=s.heap.update p (Obj.mapSeq (·.setIfInBounds j u))}:=
  I.lstUpd hp ho (jk its n j u) (r.set rv j) (by rw[Jf];exact hz) s.toks
 by_cases h0:0<=k
 .have hk:k.toNat=j:=by
   rw[seqIndex_of h0 h4]at h1;exact Q5 h1
  exact PySem.W.ki_setAt ho h0 (by omega) (by rw[QJ,←hl];exact h4) (by rw[hk];exact⟨_,I',q⟩)
 .have hk:(k+(its.toArray.size:Int)).toNat=j:=by
   rw[seqIndex_neg (by omega) h3]at h1;rw[QJ,←hl];exact Q5 h1
  exact PySem.W.ki_setBack ho (by omega) (by rw[QJ,←hl];exact h3) (by omega) (by rw[hk];exact⟨_,I',q⟩)
theorem kG(lo hi:xq)(n:Nat):(sliceBounds lo hi xg n).1=((HT.sIx n 0 lo:Nat):Int)/\(sliceBounds lo hi xg n).2.1=((HT.sIx n n hi:Nat):Int)/\(sliceBounds lo hi xg n).2.2=1:=by
 refine⟨?_,?_,rfl⟩
 .cases lo with
  |none=>simp[sliceBounds,HT.sIx]
  |some i=>
   simp only[sliceBounds,HT.sIx,Option.getD_none,show(1:Int) > 0 by decide,if_true];by_cases h:i<0
   .simp only[h,if_true]<;>omega
   .simp only[h,Uy]<;>omega
 .cases hi with
  |none=>simp[sliceBounds,HT.sIx]
  |some i=>
   simp only[sliceBounds,HT.sIx,Option.getD_none,show(1:Int) > 0 by decide,if_true];by_cases h:i<0
   .simp only[h,if_true]<;>omega
   .simp only[h,Uy]<;>omega
theorem kO(its:xo)(lo hi:xq):slicePick its.toArray lo hi xg=((its.drop (HT.sIx its.length 0 lo)).take (HT.sIx its.length its.length hi-HT.sIx its.length 0 lo)).toArray:=by obtain⟨h1,h2,h3⟩:=kG lo hi its.toArray.size;unfold slicePick;rw[h1,h2,h3];simp only[sliceRange_one,pick_run,QJ]<;>rfl
noncomputable def rSlL(K:Frag):V->xq->xq->Hp->VK->Prop:=λx lo hi H Q=>∃a xs,x=.ref a/\SqL K H a xs/\∀p,H p=xg->Q (.ref p) (upd H p (.lst (XB xs lo hi)))
theorem C8:SlR X (rSlL X.K):=by intro pins s σ H x v vl vu lo hi sl Q I rx hs pl pu h;obtain⟨a,xs,rfl,hx,q⟩:=h;cases rx;obtain⟨its,r,ht,hz⟩:=I.list hx;have hlen:=r.length;refine⟨"list", _,slot_list_getitem.lookup,ht.isList.typeIs,?_⟩;refine wpAny_getItem_list_slice ht.isList hs pl pu .none (by simp) ?_ (by rw[List.size_toArray]<;>omega);rw[kO,←hlen];refine⟨.ref s.heap.objs.size,_,I.laid (t':=s.toks) (o:=.lst (XB xs lo hi)) (λb ob q=>Ql _ q) (Qs _) ?_,rfl,q _ (I.hok.fresh (Qs _))⟩;exact⟨QR (j7 xs lo hi) hz,_,0,(r.drop (HT.sIx xs.length 0 lo)).take (HT.sIx xs.length xs.length hi-HT.sIx xs.length 0 lo),QB _ xf⟩
theorem GO:YO X (.type "list") (λxs H Q=>∃p ys,xs=[.ref p]/\(SqL X.K H p ys∨SqT X.K H p ys)/\∀l,H l=xg->Q (.ref l) (upd H l (.lst ys))):=by
 intro pins s σ H xs us Q I r h;obtain⟨p,ys,rfl,hq,q⟩:=h;obtain⟨u,rfl,rx⟩:=RY r;cases rx
 have fin:∀(its:xo),Vals ys its->ys.length<=UG->∀(h':Heap)(c':Nat),(∀b o',s.heap.get? b=O o'->h'.get? b=O o') ->
   h'.get? s.heap.objs.size=O {cls:=.type "list", dict:=xg,data:=.seq its.toArray c',slots:=#[]}->EP X pins σ Q (.ref s.heap.objs.size) {s with heap:=h'}:=λits r' hz h' c' kp e=>
  ⟨.ref s.heap.objs.size,_,I.laid (t':=s.toks) kp (Qs _) (show Yy X.prog X.w _ h' _ (.lst ys)from⟨hz,its,c',r',e⟩),rfl,q _ (I.hok.fresh (Qs _))⟩
 rcases hq with hq|hq
 .obtain⟨its,r',pl,hz⟩:=I.list hq
  have hlen:=r'.length;obtain⟨o,ho,hc,n,hd⟩:=pl.isList;exact call_list_seq p (.inl xf) ho hc hd (λh' c' kp e=>fin its r' hz h' c' kp e) (by simp only[QJ]<;>omega)
 .obtain⟨its,r',pl,hz⟩:=I.tuple hq
  have hlen:=r'.length;obtain⟨o,ho,hc,n,hd⟩:=pl;exact call_list_seq p (.inr xf) ho hc hd (λh' c' kp e=>fin its r' hz h' c' kp e) (by simp only[QJ]<;>omega)
def tyV(K:Frag)(T:String)(x:V)(H:Hp):Prop:=match x with
 |.str _=>T = "str"
 |.int _=>T = "int"
 |.ref p=>(T = "list" /\ ∃xs,SqL K H p xs)∨(T = "tuple" /\ ∃o,K.lookup p=O o/\o.cls=.type "tuple" /\ o.dict=xg) ∨
   (T = "dict" /\ ((∃kvs,H p=O (.dK kvs)) ∨ ∃kvs,H p=O (.dT kvs)))∨(T = "set" /\ ∃S n,H p=O (.set S n))
 |_=>False
theorem E8{pins:List (UD×Obj)}{σ:St}{H:Hp}{s:UB}{T:String}{x:V}{v:UA}(I:Inv X pins σ H s)(r:RelV x v)(ty:tyV X.K T x H) :
  s.TypeIs v T/\∀a,v=.ref a->∃ob,s.heap.get? a=O ob/\ob.dict=xg:=by
 cases x with
 |str z=>obtain⟨t,rfl⟩:=r;cases (show T = "str" from ty);exact⟨typeIs_str s z t,λ_ e=>nomatch e⟩
 |int i=>obtain⟨t,rfl⟩:=r;cases (show T = "int" from ty);exact⟨typeIs_int s i t,λ_ e=>nomatch e⟩
 |ref p=>
  cases r;rcases ty with ⟨rfl,xs,hq⟩|⟨rfl,o,hk,hc,hd⟩|⟨rfl,hk⟩|⟨rfl,S,n,hk⟩
  .obtain⟨its,_,pl,_⟩:=I.list hq
   refine⟨pl.isList.typeIs,λa e=>?_⟩;cases e;obtain⟨o,n,e,c,hd,_⟩:=pl;exact⟨o,e,hd⟩
  .refine⟨⟨o,I.kIn p o hk,hc⟩,λa e=>?_⟩
   cases e;exact⟨o,I.kIn _ o hk,hd⟩
  .have z:∃o,s.heap.get? p=O o/\o.ExactDict:=by
    rcases hk with ⟨kvs,hk⟩|⟨kvs,hk⟩
    .obtain⟨_,_,_,_,o,_,_,e,ex,_⟩:=I.hok p _ hk
     exact⟨o,e,ex⟩
    .obtain⟨_,_,_,_,o,_,_,e,ex,_⟩:=I.hok p _ hk
     exact⟨o,e,ex⟩
   obtain⟨o,e,ex⟩:=z;refine⟨⟨o,e,ex.1⟩,λa e2=>?_⟩;cases e2;exact⟨o,e,ex.2.1⟩
  .obtain⟨o,_,_,_,e,ex,_⟩:=I.hok p _ hk
   refine⟨⟨o,e,ex.1⟩,λa e2=>?_⟩;cases e2;exact⟨o,e,ex.2.1⟩
 |_=>exact False.elim ty
noncomputable def tBM(K:Frag)(T:String)(r:V->List V->Hp->VK->Prop)(to:TE)(t:TA):TE:=λσ H Q=>to σ H λx H1=>tyV K T x H1/\t σ H1 λxs H2=>r x xs H2 Q
variable{o e:UF}{es:xp}{to:TE}{t:TA}{name:Str}{apos cpos:Pos}{T id:String}{r:V->List V->Hp->VK->Prop}
theorem RX(pa:PlainAttrs T)(slot:Slot T name id)(hty:typeOf (.builtin id)=pure (.type "method_descriptor"))(hm:MtR X id r)(ho:PE X o to)(ha:PA X (e::es) t)
  (hbase:attributeBase o name X.env (eval o X.env)=eval o X.env:=by rfl)
  (hfew:((backTo cpos (UI (e::es) X.env)).all (λx=>!x.1)&&(backToKw cpos (keywordEach [] X.env)).all (λx=>x.1.isSome)
   && decide ((e::es).length+([]:List Keyword).length+(if([]:List Keyword).isEmpty then 0 else 1)<30))=xi:=by rfl)
  (hline:(apos.endLine==cpos.line)=xi:=by rfl) (hs:UI (e::es) X.env=(xj,eval e X.env)::UI es X.env:=by rfl) (hplain:(backTo cpos (UI es X.env)).any (·.1)=xj:=by rfl) :
  PE X (.Call (.Attribute o name apos) (e::es) [] cpos) (tBM X.K T r to t):=by
 intro pins s σ H Q I h;refine wpAny_Call_method_late hbase hfew hline xf (thn (ho pins s σ H _ I h) λv s1 ⟨x,H1,I1,r1,ty,q1⟩=>?_);obtain⟨h1,h2⟩:=E8 I1 r1 ty;refine⟨T,id,pa,slot,hty,h1,h2,?_⟩;have hA:=ha cpos pins s1 σ H1 _ I1 q1;rw[hs]at hA⊢;refine Calls.callWith_builtin (by show(xj || (backTo cpos (UI es X.env)).any (·.1))=xj;rw[hplain]<;>rfl) (Calls.evalArgs_plain ?_);exact thn hA λus s2 ⟨vs,H2,I2,r2,q2⟩=>hm pins s2 σ H2 x vs v us Q I2 r1 r2 q2
end
def MtM(X:Cx)(id:String)(r:V->List V->Hp->VK->Prop):Prop:=
 ∀(pins:List (UD×Obj))(s:UB)(σ:St)(H:Hp)(x:V)(xs:List V)(v:UA)(us:xo)(Q:VK),Inv X pins σ H s->RelV x v->Vals xs us->r x xs H Q ->
  UH (model X.prog X.w) X.A (call (.builtin id) (v::us)) (EP X pins σ Q) X.xe s
theorem Vals.one:∀{x:V}{us:xo},Vals [x] us->∃u,us=[u]/\RelV x u
 |_,_,.cons r .nil=>⟨_,rfl,r⟩
theorem Vals.two:∀{x y:V}{us:xo},Vals [x,y] us->∃u v,us=[u,v]/\RelV x u/\RelV y v
 |_,_,_,.cons r (.cons q .nil)=>⟨_,_,rfl,r,q⟩
theorem Vals.reverse{xs:List V}{us:xo}(h:Vals xs us):Vals xs.reverse us.reverse:=by
 induction h with
 |nil=>exact .nil
 |cons r t ih=>rw[List.reverse_cons,List.reverse_cons];exact Vals.append ih (.cons r .nil)
theorem Vals.rep{xs:List V}{us:xo}(h:Vals xs us):∀k:Nat,Vals (UL k xs).flatten (UL k us).flatten
 |0=>.nil
 |k+1=>by rw[Q0,Q0,QP,QP];exact Vals.append h (Vals.rep h k)
theorem HC(its:xo):∀(k:Nat)(acc:xo),
  List.foldl (λx1 x2=>x1++x2) acc.toArray (UL k its.toArray)=(acc++(UL k its).flatten).toArray
 |0,acc=>by simp
 |k+1,acc=>by
  have e:acc.toArray++its.toArray=(acc++its).toArray:=by simp
  have e2:(acc++its)++(UL k its).flatten=acc++(UL (k+1) its).flatten:=by rw[Q0,QP,Ja]
  rw[←e2,←HC its k (acc++its),←e,Q0,Ug]
section
variable{X:Cx}{pins:List (UD×Obj)}{σ:St}{H:Hp}{s:UB}{l b:UD}{xs ys zs:List V}
theorem Inv.lset{its its':xo}{n:Nat}{f:Array UA->Array UA}{t':Nat}(I:Inv X pins σ H s)(hH:H l=O (.lst xs))
  (e:s.heap.get? l=O {cls:=.type "list", data:=.seq its.toArray n}) (hf:f its.toArray=its'.toArray) (hv:Vals ys its') (hz:ys.length<=UG) :
  Inv X pins σ (upd H l (.lst ys)) {s with heap:=s.heap.update l (Obj.mapSeq f),toks:=t'}:=by
 have q:=PySem.IsL.update e f;rw[hf]at q;refine I.write (x:=l) (e:=l) (by rw[hH];exact trivial) (.inl xf) (λb' u hb hu=>(Q4 s.heap (Obj.mapSeq f) (Ne.symm hb)).trans hu) ⟨_,q⟩ ?_;exact⟨hz,its',_,hv,q⟩
theorem Inv.lnew{its:xo}{t':Nat}(I:Inv X pins σ H s)(hv:Vals ys its)(hz:ys.length<=UG) :
  Inv X pins σ (upd H s.heap.objs.size (.lst ys)) {s with heap:=s.heap.push {cls:=.type "list", data:=.seq its.toArray},toks:=t'}:=
 I.laid (λ_ _ q=>Ql _ q) (Qs _) ⟨hz,its,0,hv,QB _ xf⟩
theorem Inv.fresh(I:Inv X pins σ H s):H s.heap.objs.size=xg:=I.hok.fresh (Qs _)
theorem Inv.lstM(I:Inv X pins σ H s)(hH:H l=O (.lst xs)):xs.length<=UG/\∃(its:xo)(n:Nat),Vals xs its/\xs.length=its.length/\s.heap.get? l=O {cls:=.type "list", data:=.seq its.toArray n}:=by obtain⟨z,its,n,r,e⟩:=I.hok l _ hH;exact⟨z,its,n,r,r.length,e⟩
theorem AI{n:Nat}(h:n<=UG):Builtin.List.listTooLong n=xj:=by unfold Builtin.List.listTooLong;exact QI (by omega)
end
section
variable{X:Cx}
noncomputable def C7:V->List V->Hp->VK->Prop:=λx vs H Q=>∃l xs y,x=.ref l/\vs=[y]/\H l=O (.lst xs)/\xs.length<UG/\Q .non (upd H l (.lst (xs++[y])))
theorem HB:MtM X "list.append" C7:=by intro pins s σ H x vs v us Q I rx rv h;obtain⟨l,xs,y,rfl,rfl,hH,hz,q⟩:=h;cases rx;obtain⟨u,rfl,ru⟩:=rv.one;obtain⟨z,its,n,r,hl,e⟩:=I.lstM hH;refine call_meets F.slot_list_append ⟨_,e,rfl⟩ F.entry_list_append (F.args_list_append_2 _ _) (PySem.list_append l its.toArray n u (by rw[QJ];omega)) ⟨e,?_⟩;refine⟨.non,_,I.lset (its':=its++[u]) hH e (by simp) (r.append (.cons ru .nil)) ?_,rfl,q⟩;rw[Qm,Jb];omega
theorem C6{α:Type}(xs:List α)(k:Nat):(UL k xs).flatten.length=k*xs.length:=by
 induction k with
 |zero=>simp
 |succ k ih=>rw[Q0,QP,Qm,ih,Nat.succ_mul,Nat.add_comm]
end
section
variable{prog:UC}{w:World}{A:Around}{E:UA->UB->Prop}{s:UB}
set_option maxRecDepth 100000 in
end
end L2
namespace Att
open PySem PySem.W PySem.Calls PyProof.Rows
theorem kS{P:Params}{h:Heap}:∀(ns:xm)(vs:xo),WellAll P h vs (ns.map WData.int)->IntsAre vs ns:=by
 intro ns;induction ns with
 |nil=>intro vs w;rw[Uo]at w;cases w;exact .nil
 |cons n ns ih=>
  intro vs w;rw[Qu]at w;cases w with
  |cons a b=>cases a;exact .cons _ _ (ih _ b)
theorem qt{l:OpenLaw}{n:Nat}(hn:l.most=O n){P:Params}{h:Heap}{args:List WData}{vals:xo}
  (hpre:l.row.toRowW.claim.pre args=xi) (xL:WellAll P h vals args) :
  ∃a vs ns,vals=[Value.ref a]/\args=[WData.list (ns.map WData.int)]/\h.get? a=O {cls:=.type "list", data:=.seq vs.toArray}/\IntsAre vs ns/\ns.length<=n:=by
 have hsh:WShape.hasAll [] args [.list .int]=xi:=(pre_splitW hpre).1;have hc:l.pre.holds [] {args:=args}=xi:=(pre_splitW hpre).2;obtain⟨d,r,rfl,h1,h2⟩:=hasAllW_cons hsh;obtain rfl:=hasAllW_nil h2;obtain⟨xs,rfl,h3⟩:=hasW_list h1;obtain⟨ns,rfl⟩:=items_int h3
 have hlen:ns.length<=n:=by
  unfold OpenLaw.pre at hc;have h4:(WTm.not (.lt (.lit (.int (n:Int))) (.len (.arg 0)))).holds [] {args:=[.list (ns.map .int)]}=xi:=by have h4:=(holds_andW hc).1;rw[hn]at h4;exact h4
  have h5:=condW_of h4 (w_not (w_lt w_lit (w_len_list (w_arg xf))));rw[Qb]at h5;refine Jg λq=>?_;have q':(n:Int)<((ns.length:Nat):Int):=by omega
  first
   |(rw[QT q']at h5;exact absurd h5 (by decide))
   |(simp at h5;omega)
 cases xL with
 |cons w1 w2=>
  cases w2;cases w1 with
  |list ho hall=>exact⟨_,_,ns,rfl,rfl,ho,kS ns _ hall,hlen⟩
theorem qq(l:OpenLaw)(args:List WData):l.row.toRowW.claim.post args (.bool xi) args=xi:=
 postW_of (r:=l.row.toRowW) (X:=(xi==xi))
  (show WShape.has [] (.bool xi) .bool=xi by first|rfl|decide|simp[WShape.has,WShape.arms,WShape.armsAll])
  (show(WTm.eq .res (.lit (.bool xi))).value [] {args:=args,res:=O (.bool xi),after:=args}=O (.bool (xi==xi))from w_eq_bool (w_res xf) w_lit) xf
theorem attach_call{l:OpenLaw}{n:Nat}{q:UC}{loose:List Str}{XP:(Str->xr)->Heap->Prop}{YP:World->Heap->Prop}{d:DefRec}
  (hn:l.most=O n) (hdf:d.params.defaults=[])
  (call:∀(w:World)(s₀ s₁:UB)(mg mb:Str->xr)(fa:UD)(o:Obj)(pm cd doc:UA)(a:UD)(vs:xo)(ns:xm),
   Ground q loose [] XP w s₀ mg mb s₁.heap->YP w s₁.heap ->
   s₁.heap.get? fa=O o->o.data=.func (docDef d.name d.params d.body d.scope pm cd doc)->s₁.heap.CodeRec cd d.name->mg d.name=O (.ref fa) ->
   s₁.heap.get? a=O {cls:=.type "list", data:=.seq vs.toArray}->IntsAre vs ns->ns.length<=n->s₁.gens=#[] ->
   codeAny (model l.prog w) callerA (.call (.ref fa) ⟨[.ref a],[]⟩) (λr s'=>r=.ok (.ret (.bool xi))/\OldK s₁.heap s'.heap/\s'.os=s₁.os/\AllBare s'.gens) s₁) :
  WalkO q loose XP YP l.row.toRowW d [] (λf vs=>PySem.call f vs):=by
 intro w s₀ s₁ mg mb G Y fa o pm cd doc dV kV ho hd hcd hD hmg hg args vals as hpre hlay hrd xL hlo;obtain rfl:dV=.none:=Dflts.none hD hdf;obtain rfl:kV=.none:=Dflts.noKw hD;obtain⟨a,vs,ns,rfl,rfl,hobj,hints,hlen⟩:=qt hn hpre xL;refine enter_call (codeAny_mono (call w s₀ s₁ mg mb fa o pm cd doc a vs ns G Y ho (fd_plain hd) hcd hmg hobj hints hlen hg) λr s' hq=>?_);obtain⟨rfl,h2,h3,h4⟩:=hq;exact⟨.inl ⟨.bool xi,.bool xi,[],rfl,λ_=>rfl,.bool xi,qq l _,λ_=>⟨List.Pairwise.nil,λ_ hm=>(nomatch hm)⟩⟩,h2,h3,h4⟩
end Att
namespace L2
open PySem PySem.Spec PyProof.Rows
theorem VL:∀{vs:xo}{ns:xm},IntsAre vs ns->Vals (ns.map V.int) vs
 |_,_,.nil=>.nil
 |_,_,.cons n t h=>.cons ⟨t,rfl⟩ (VL h)
def Only(H:Hp):Prop:=∀b,H b=xg ∨ ∃o xs,H b=O (.frz o (.lst xs))
theorem AH{P:UC}{w:World}{K:Frag}{mg mb:Str->xr}{CX:CXT}{k:Nat}{fa a:UD}{fd:UE}{x:Str}{sp:Sp}{s₁:UB}{vs:xo}{ns:xm}
  (KX:K.In s₁.heap) (hns:s₁.heap.Ns mainGlobals mg) (hb:s₁.heap.Ns builtinsNs mb) (wz:∀x:Str,x ≠ "__name__" -> mb x=bootBuiltins x) (hlim:s₁.heap.NoLimit) (hg:s₁.gens=#[])
  (ha:s₁.heap.get? a=O {cls:=.type "list", data:=.seq vs.toArray}) (hi:IntsAre vs ns) (hl:ns.length<=UG) (hr:Room k callerA)
  (F:∀base:Heap,K.In base->base.Ns mainGlobals mg->FnOk P w K mg base CX k fa fd [x] sp) (hbind:∀(s:UB)(u:UA),BindsTo s fd ⟨[u],[]⟩ [(x,u)])
  (v3:∀H:Hp,Only H->SqL K H a (ns.map V.int)->sp [.ref a] H (λv _=>v=.bl xi) λ_ _ _=>False)
  (hCX:∀H e s',CX [] H s₁ (λ_ _ _=>False) e s'->False) :
  codeAny (model P w) callerA (.call (.ref fa) ⟨[.ref a],[]⟩) (λr s'=>r=.ok (.ret (.bool xi))/\OldK s₁.heap s'.heap/\s'.os=s₁.os/\AllBare s'.gens) s₁:=by
 have rv:=VL hi;have lenV:=hi.length
 have core:∀H:Hp,Only H->SqL K H a (ns.map V.int)->HOk P w H s₁.heap->(∀b,H b≠xg->b=a)->(H a≠xg->K.lookup a=xg) ->
   codeAny (model P w) callerA (.call (.ref fa) ⟨[.ref a],[]⟩) (λr s'=>r=.ok (.ret (.bool xi))/\OldK s₁.heap s'.heap/\s'.os=s₁.os/\AllBare s'.gens) s₁:=by
  intro H hO hS hok hA hK;have base_of:∀{b:UD}{o:Obj},s₁.heap.get? b=O o->H b=xg->(YL s₁.heap H).get? b=O o:=λe n=>Aw e n
  have noA:∀{b:UD}{o:Obj}{es:Array DictEntry}{ep:Nat},s₁.heap.get? b=O o->o.data=.dict es ep->H b=xg:=λ{b o es ep} e d=>by
   cases q:H b with
   |none=>rfl
   |some u=>have e':b=a:=hA b (by rw[q];simp);subst e';rw[ha]at e;cases e;have d':Data.seq vs.toArray _=Data.dict es ep:=d;cases d'
  have nsK:∀{b:UD}{m:Str->xr},s₁.heap.Ns b m->(YL s₁.heap H).Ns b m:=λ{b m} ⟨o,es,ep,e,d,r⟩=>⟨o,es,ep,base_of e (noA e d),d,r⟩
  have hKb:K.In (YL s₁.heap H):=λb o e=>base_of (KX b o e) (by
   cases q:H b with
   |none=>rfl
   |some u=>have e':b=a:=hA b (by rw[q];simp);subst e';rw[hK (by rw[q];simp)]at e;cases e)
  have hM:Mod K mg (YL s₁.heap H):=⟨hKb,nsK hns,⟨mb,nsK hb,wz⟩,let ⟨mc,h1,h2⟩:=hlim;⟨mc,nsK h1,h2⟩⟩
  have e0:Env0 P w K mg (YL s₁.heap H) callerA [] s₁ H:=⟨rfl,hM,λb o e=>C4 e,Nat.le_of_eq (jT _ _),trivial,λb hb=>absurd (show b∈([]:xw)from hb) (by simp),hok,.of_eq hg⟩
  refine codeAny_mono ((F _ hKb (nsK hns)).run callerA [] s₁ H ⟨[.ref a],[]⟩ [.ref a] [.ref a] _ _ hr e0 (hbind s₁ (.ref a)) (.cons xf .nil) (v3 H hO hS)) λr s' h=>?_
  cases r with
  |error e=>exact(hCX H e s' h).elim
  |ok fl=>
   cases fl with
   |next=>exact False.elim h
   |brk=>exact False.elim h
   |cont=>exact False.elim h
   |ret u=>
    obtain⟨v,H',os,bare,un,hok',r',q⟩:=h;have q':v=.bl xi:=q;subst q';obtain rfl:u=Value.bool xi:=r';refine⟨rfl,OldK.of_keep λb o e=>?_,os,bare⟩;cases q:H b with
    |none=>exact un.keep b o e q (by intro z;exact absurd (show b∈([]:xw)from z) (by simp)) (by simp)
    |some u=>
     rcases hO b with z|⟨ob,xs,z⟩
     .rw[q]at z;cases z
     .have z2:=un.frzs b ob _ z
      obtain⟨e1,_⟩:=hok b _ z;obtain⟨e2,_⟩:=hok' b _ z2;rw[e]at e1;cases e1;exact e2
 cases hk:K.lookup a with
 |some o=>have e:=KX a o hk;rw[ha]at e;cases e;refine core (λ_=>xg) (λ_=>.inl xf) (.inr ⟨_,vs.toArray,_,hk,rfl,rfl,rfl,by rw[List.size_toArray,lenV];exact hl,by simpa using rv⟩) (λb u z=>by have z':(none:Option HO)=O u:=z;cases z') (λb z=>absurd xf z) λz=>absurd xf z
 |none=>
  refine core (λb=>if b=a then O (.frz {cls:=.type "list", data:=.seq vs.toArray} (.lst (ns.map V.int)))else xg) (λb=>?_) (.inl (.inr ⟨{cls:=.type "list", data:=.seq vs.toArray},Qo xf⟩)) (λb u z=>?_) (λb z=>?_) λ_=>hk
  .by_cases hb:b=a
   .exact .inr ⟨_,_,Qo hb⟩
   .exact .inl (Qv hb)
  .by_cases hb:b=a
   .have z':=(Qo hb).symm.trans z
    cases z';subst hb;exact⟨ha,by rw[Qb];exact hl,vs,_,rv,ha⟩
   .have z':=(Qv hb).symm.trans z
    cases z'
  .by_cases hb:b=a
   .exact hb
   .exact absurd (Qv hb) z
noncomputable def SK(s:Stmt):Arguments:=match s with
 |.FunctionDef _ a _ _ _ _ _ _ _ _=>a
 |_=>{posonlyargs:=[],args:=[],vararg:=xg,kwonlyargs:=[],kw_defaults:=[],kwarg:=xg,defaults:=[]}
noncomputable def WC(s:Stmt):List Stmt:=match s with
 |.FunctionDef _ _ b _ _ _ _ _ _ _=>b
 |_=>[]
noncomputable def Yk(s:Stmt):Scope:=match s with
 |.FunctionDef _ _ _ _ _ _ sc _ _ _=>sc
 |_=>{kind:=.function,names:=[],isGenerator:=xj,isCoroutine:=xj}
noncomputable abbrev CX0:CXT:=λ_ _ _ _ _ _=>False
noncomputable abbrev E0:XK:=λ_ _ _=>False
theorem Fe{X:Cx}:Oe CX0 X E0:=λ_ _ _ _ _ _ _ h=>h.elim
structure Fun(K:Frag)(x qual:Str)(st:Stmt)(f:UD)(fd:UE):Prop where
 ex:∃(oc:UA)(od:xz)(kV doc pm:UA)(an:xz)(cdv ct:UA)(osl:Array xr),
  fd=PySem.W.fnOf x qual (SK st) (WC st) (Yk st) .none kV doc pm an cdv ct/\K.lookup f=O ⟨oc,od,.func fd,osl⟩/\PySem.W.codeIn K cdv qual=xi
 kp:PySem.W.keepIn K (.ref f)=xi
section
variable{P:UC}{w:World}{K:Frag}{mg:Str->xr}{base:Heap}
theorem Fun.ok{x qual:Str}{st:Stmt}{f:UD}{fd:UE}{N ps:List Str}{k:Nat}{sp:Sp}(F:Fun K x qual st f fd)(S:Ru N ps (Yk st))(len:∀vs H Q E,sp vs H Q E->vs.length=ps.length)
  (hbody:∀(cdv:UA)(A:Around)(outer:List Env)(s:UB)(H:Hp)(vs:List V)(Q:VK)(E:XK),Room k (A.deeper (envOfC qual (Yk st) s.heap.objs.size f cdv))->sp vs H Q E ->
   ∃t,PSs (Xa CX0 P w K mg base N qual (Yk st) f cdv A outer s H E).nox (WC st) t/\t {nx:=λ_ H'=>Q .non H',rt:=Q} (XX N vs) H):FnOk P w K mg base CX0 (k+1) f fd ps sp:=by
 obtain⟨oc,od,kV,doc,pm,an,cdv,ct,osl,rfl,lk,hcd⟩:=F.ex;refine Fh lk hcd S len λA outer s H vs Q E hr v3=>?_
 obtain⟨t,h,q⟩:=hbody cdv A outer s H vs Q E hr v3;exact⟨t,h.nox,q⟩
theorem Fun.binds{x qual:Str}{st:Stmt}{f:UD}{fd:UE}{ps:List Str}(F:Fun K x qual st f fd)
  (h:∀(kV doc pm:UA)(an:xz)(cdv ct:UA)(us:xo),us.length=ps.length->bindArgs (PySem.W.fnOf x qual (SK st) (WC st) (Yk st) .none kV doc pm an cdv ct) ⟨us,[]⟩=pure (ps.zip us)):Vr K fd ps []:=by
 obtain⟨oc,od,kV,doc,pm,an,cdv,ct,osl,rfl,lk,hcd⟩:=F.ex;exact .all (h kV doc pm an cdv ct)
end
def Same(H H':Hp):Prop:=∀b o,H b=O o->H' b=O o
theorem Same.refl(H:Hp):Same H H:=λ_ _ h=>h
theorem Same.trans{H H1 H2:Hp}(a:Same H H1)(b:Same H1 H2):Same H H2:=λc o h=>b c o (a c o h)
theorem Same.free{H H':Hp}(e:Same H H'){l:UD}(h:H' l=Option.none):H l=Option.none:=by
 cases q:H l with
 |none=>rfl
 |some o=>rw[e l o q]at h;cases h
theorem Same.seq{K:Frag}{H H':Hp}{a:UD}{xs:List V}(e:Same H H')(h:SqL K H a xs):SqL K H' a xs:=by
 rcases h with (h|⟨o,h⟩)|h
 .exact .inl (.inl (e _ _ h))
 .exact .inl (.inr ⟨o,e _ _ h⟩)
 .exact .inr h
section
variable{X:Cx}{pins:List (UD×Obj)}{σ:St}{H:Hp}{s:UB}{h':Heap}
theorem Inv.turnedNew{t':Nat}{fp:xw}{p:UD}{o:HO}(I:Inv X pins σ H s)(hf:∀b∈fp,ZN X pins H b)
  (k:∀b o,b∉fp->s.heap.get? b=O o->h'.get? b=O o) (hp:s.heap.objs.size<=p) (new:Yy X.prog X.w (upd H p o) h' p o) :
  Inv X pins σ (upd H p o) {s with heap:=h',toks:=t'}:=by
 have hn:H p=xg:=I.hok.fresh hp;have trk:∀b u,H b=O u->b∉fp:=λb u e z=>by rw[(hf b z).1]at e;cases e
 refine I.step (g':=s.gens) (d':=s.drawn) (ch:=fp) (λb hb=>?_) (λb o _ _ hc e _=>k b o hc e) (λb o _ _ hc e _=>⟨o.slots,k b o hc e⟩)
  (λb o _ e n=>by rw[Zh (QN (Qz (Qh e) hp))];exact n) (λb o hc e=>⟨o,k b o hc e⟩)
  (λb xs e=>by rw[Zh (Xn e hn)];exact e) (λb ob u e=>by rw[Zh (Xn e hn)];exact e) (λb ps e=>⟨#[],by rw[Zh (Xn e hn),e];simp⟩)
  (λm hm=>?_) (λb u e=>?_) I.bare
 .obtain⟨_,f1,_,f3,f4,f5⟩:=hf b hb
  exact⟨f3,f1,f4,f5⟩
 .obtain⟨ob,es,ep,ho,r⟩:=hm
  exact⟨ob,es,ep,k _ ob (λz=>(hf _ z).2.1 xf) ho,r⟩
 .by_cases hb:b=p
  .subst hb;rw[ZU]at e;cases e;exact new
  .rw[Zh hb]at e
   refine(I.hok b u e).stay (λc v hc q=>k c v ?_ q) (λc q=>by rw[Zh (Xn q hn)];exact q) λc xs q=>by rw[Zh (Xn q hn)];exact q
   rcases hc with z|z
   .rw[z];exact trk b u e
   .exact trk c _ z
theorem Inv.turnedL{t':Nat}{fp:xw}(I:Inv X pins σ H s)(hf:∀b∈fp,ZN X pins H b)
  (k:∀b o,b∉fp->s.heap.get? b=O o->h'.get? b=O o):Inv X pins σ H {s with heap:=h',toks:=t'}:=by
 have trk:∀b u,H b=O u->b∉fp:=λb u e z=>by rw[(hf b z).1]at e;cases e
 refine I.step (g':=s.gens) (d':=s.drawn) (ch:=fp) (λb hb=>?_) (λb o _ _ hc e _=>k b o hc e) (λb o _ _ hc e _=>⟨o.slots,k b o hc e⟩)
  (λ_ _ _ _ n=>n) (λb o hc e=>⟨o,k b o hc e⟩) (λ_ _ e=>e) (λ_ _ _ e=>e) (λb ps e=>⟨#[],by rw[e];simp⟩) (λm hm=>?_) (λb u e=>?_) I.bare
 .obtain⟨_,f1,_,f3,f4,f5⟩:=hf b hb
  exact⟨f3,f1,f4,f5⟩
 .obtain⟨ob,es,ep,ho,r⟩:=hm
  exact⟨ob,es,ep,k _ ob (λz=>(hf _ z).2.1 xf) ho,r⟩
 .refine(I.hok b u e).stay (λc v hc q=>k c v ?_ q) (λc q=>q) λc xs q=>q
  rcases hc with z|z
  .rw[z];exact trk b u e
  .exact trk c _ z
end
noncomputable def Ite(K:Frag)(a:UD):It:=
 ⟨λi H=>∃xs x,SqL K H a xs/\xs[i]?=O x,
  λi H v H'=>∃p x,H p=xg/\v=.ref p/\(∀xs,SqL K H a xs->xs[i]?=O x)/\H'=upd H p (.tup [.int i,x]),
  λi H=>∃xs,SqL K H a xs/\xs.length<=i⟩
theorem qp{P:UC}{w:World}{K:Frag}{elts:xp}{x1}{tp:Pos}(a e it:UD)(hne:e≠it) :
  Turn P w K (.Tuple elts x1 tp) (Ite K a) [e,it] e (λi h=>(∃old,IsEnum h e it i old)/\h.IsListIter it a i) where
 mem:=by simp
 obj:=λi h st b hb=>by
  obtain⟨⟨old,he⟩,o,ho,c,d⟩:=st;have hb':b=e∨b=it:=by simpa using hb
  rcases hb' with rfl|rfl
  .exact⟨_,he,λv z=>by have z':Data.fields _=Data.cell v:=z;cases z'⟩
  .exact⟨o,ho,λv z=>by rw[d]at z;cases z⟩
 keep:=λi h h' st k=>by obtain⟨⟨old,he⟩,hi⟩:=st;exact⟨⟨old,k e (by simp) _ he⟩,hi.at λo q=>k it (by simp) o q⟩
 item:=by
  intro X hP hw hK hc i pins s σ H E I hf st hg;subst hP hw hK;obtain⟨⟨old,he⟩,hi⟩:=st;obtain⟨xs,x,hq,hx⟩:=hg;obtain⟨its,rv,p,hz⟩:=I.list hq;obtain⟨u,hu,ru⟩:=rv.get hx;refine wpAny_pyNext_enum_item he hi p.isList (x:=u) (by simpa using hu) hne λh1 out hi1 ht hsz kk=>?_
  refine⟨_,rfl,wpAny_letOwnedTupleGo_enum out λh2 vq hs2=>?_⟩;have hel:e<s.heap.objs.size:=Qh he;have xI:Heap.SameBut e h1 h2:=hs2;have ht2:h2.get? s.heap.objs.size=O {cls:=.type "tuple", data:=.seq #[.int i s.toks,u]}:=(xI.2 _ (Js hel)).trans ht
  have kk2:∀b o,b∉[e,it]->s.heap.get? b=O o->h2.get? b=O o:=λb o hb q=>by
   have xH:b≠e:=λz=>hb (by simp[z])
   have hbi:b≠it:=λz=>hb (by simp[z])
   exact(xI.2 b xH).trans (kk b o xH hbi q)
  have hn:H s.heap.objs.size=xg:=I.hok.fresh (Qs _)
  have I2:Inv X pins σ (upd H s.heap.objs.size (.tup [.int i,x])) {s with heap:=h2,toks:=s.toks+1}:=
   I.turnedNew (fp:=[e,it]) hf kk2 (Qs _) ⟨by show 2<=UG;decide,[.int i s.toks,u],.cons ⟨_,rfl⟩ (.cons ru .nil),⟨_,ht2,rfl,_,rfl⟩⟩
  refine⟨.ref s.heap.objs.size,_,I2,rfl,⟨_,x,hn,rfl,λys hy=>by rw[I.list_inj hy hq];exact hx,rfl⟩,⟨⟨u,?_⟩,?_⟩,λb hb=>?_⟩
  .have:=vq
   simpa using this
  .have hi2:h2.IsListIter it a (i+1):=hi1.at λo q=>(xI.2 it (Ne.symm hne)).trans q
   exact hi2
  .have fr:=(hf b hb)
   have hlt:b<s.heap.objs.size:=by
    have hb':b=e∨b=it:=by simpa using hb
    rcases hb' with rfl|rfl
    .exact hel
    .obtain⟨o,ho,_⟩:=hi;exact Qh ho
   rw[Zh (QN hlt)];exact fr.1
 done:=by intro X hP hw hK hc i pins s σ H E I hf st hg;subst hP hw hK;obtain⟨⟨old,he⟩,hi⟩:=st;obtain⟨xs,hq,hx⟩:=hg;obtain⟨its,rv,p,hz⟩:=I.list hq;have hl:=rv.length;exact wpAny_pyNext_enum_end (I.ok.hd hc) he hi p.isList (by simp;omega) λh' eb=>⟨rfl,I.turnedL (t':=s.toks) hf λb o hb q=>eb b o (λz=>hb (by simp[z])) q⟩
 self:=λ_ _ _ _ _ st h=>by obtain⟨⟨old,he⟩,_⟩:=st;exact wpAny_pyIter_enum he h
section
variable{X:Cx}
noncomputable def Fd(K:Frag)(ta:TA):TI:=λσ H R=>ta σ H λvs H1=>∃a xs,vs=[.ref a]/\SqL K H1 a xs/\R (Ite K a) H1
theorem D3{a:UF}{ta:TA}{p pos:Pos}{elts:xp}{x1}{tp:Pos}(hg:Gl X "enumerate")(hm:X.mg "enumerate" = xg)(ha:PA X [a] ta)
  (hs:UI [a] X.env=[(xj,eval a X.env)]:=by rfl):PI X (.Tuple elts x1 tp) (.Call (.Name "enumerate" p) [a] [] pos) (Fd X.K ta):=by
 intro pins s σ H R I h;refine Call_ (Vz I hg hm boot_enumerate (JG (thn (ha pos pins s σ H _ I h) λus s1 ⟨vs,H1,I1,r1,q1⟩=>?_) hs xf));obtain⟨l,xs,e,hq,q⟩:=q1;subst e;cases r1 with
 |cons r rr=>
  cases rr;cases (show _=Value.ref l from r);obtain⟨its,rv,pl,hz⟩:=I1.list hq;refine call_enumerate_list pl.isList λh' he hi hsz kk=>?_;have I2:Inv X pins σ H1 {s1 with heap:=h'}:=I1.kept (t':=s1.toks) kk;refine wpAny_pyIter_enum he ?_
  refine⟨s1.heap.objs.size+1,[s1.heap.objs.size+1,s1.heap.objs.size],_,_,H1,rfl,I2,qp l _ _ (Nat.succ_ne_self _),⟨⟨_,he⟩,hi⟩,λb hb=>?_,q⟩;have hb':b=s1.heap.objs.size+1∨b=s1.heap.objs.size:=by simpa using hb
  rcases hb' with rfl|rfl
  .exact I1.fpOk (JW _) (I1.hok.fresh (JW _))
  .exact I1.fpOk (Qs _) (I1.hok.fresh (Qs _))
end
end L2
namespace L2
open PySem PySem.Spec
def Xc(bmB bm:xo):Prop:=∀(X:String)(b:Bool),bmB.contains (.type X)=b->bm.contains (.type X)=b
def Yw(M:Model)(C:UD)(name:Str)(r:xr)(h:Heap):Prop:=∀(A:Around)(E:UA->UB->Prop)(Q:xr->UB->Prop)(h':Heap)(g:Array GenState)(d:Drawn)(t:Nat)(os:OsState),
 (∀b o,h.get? b=O o->h'.get? b=O o)->Q r ⟨h',g,d,t,os⟩->UH M A (typeLookup (.ref C) name) Q E ⟨h',g,d,t,os⟩
theorem Yw.keeps{M:Model}{C:UD}{name:Str}{r:xr}{h h':Heap}(x:Yw M C name r h)(k:∀b o,h.get? b=O o->h'.get? b=O o):Yw M C name r h':=
 λA E Q h2 g d t os k2 q=>x A E Q h2 g d t os (λb o e=>k2 b o (k b o e)) q
theorem Yw.at{M:Model}{A:Around}{E:UA->UB->Prop}{Q:xr->UB->Prop}{C:UD}{name:Str}{r:xr}{h:Heap}{g:Array GenState}{d:Drawn}{t:Nat}{os:OsState}(x:Yw M C name r h)(q:Q r ⟨h,g,d,t,os⟩):UH M A (typeLookup (.ref C) name) Q E ⟨h,g,d,t,os⟩:=
 x A E Q h g d t os (λ_ _ e=>e) q
section
variable{prog:UC}{w:World}{A:Around}{E:UA->UB->Prop}{h:Heap}{g:Array GenState}{d:Drawn}{t:Nat}{os:OsState}{R:Result->UB->Prop}
variable{nm q:Str}{C N x:UD}{bs bm bmB:xo}{hdct:Bool}{sn:List Str}{sub:xo}{ab:Bool}{col:xy}{dd:xz}{k0 k1 k2 k3 k5:xr}{B newId sa owner:String}{mN mA:Str->xr}{name:Str}{v:UA}
theorem qo{M:Model}{o:Obj}{nameV:UA}{Q:Unit->UB->Prop}(T:Xc bmB bm)(hb:bmB.contains (.type "BaseException")=xi)(hC:h.get? C=O (excClassObj nm q C N bs bm hdct sn sub ab col dd k0 k1 k2 k3 k5 newId))
  (hx:h.get? x=O o) (hc:o.cls=.ref C) (hq:Q () ⟨h,g,d,t,os⟩):UH M A (checkBuiltinCall "BaseException.__getattribute__" ⟨[.ref x,nameV],[]⟩) Q E ⟨h,g,d,t,os⟩:=by
 have hk:builtinKind "BaseException.__getattribute__" = O .slot:=by decide +kernel
 have hsplit:splitId "BaseException.__getattribute__" = O ("BaseException", "__getattribute__"):=by decide +kernel
 have hcB:(Value.ref C::bm).contains (.type "BaseException")=xi:=by rw[List.contains_cons,T _ _ hb];rfl
 have ha:=PySem.F.args_bexc_ga (.ref x) nameV;simp only[checkBuiltinCall,hk,hsplit];refine Qe ?_
 .unfold isInstance
  repeat (first|(with_reducible refine QM hx ?_;rw[hc])|(with_reducible refine Ju hC ?_;rw[hcB])|wp_step)
  exact hq
end
end L2
namespace L2
open PySem PySem.Spec PyProof.Rows PySem.Calls PyProof.V
noncomputable def XO(fr:Bool)(e C:UD)(dd:xz):Heap->Prop:=λh=>∃vs sl,h.get? e=O {cls:=.ref C,dict:=dd,data:=.fields vs,slots:=sl}/\(fr=xi->vs[1]?=O .none/\∃t0,vs[0]?=O (.ref t0))
noncomputable abbrev VB:xo:=[.type "ValueError", .type "Exception", .type "BaseException", .type "object"]
structure XCls(M:Model)(base:Heap)(C:UD)(bm:xo)(fI:UD):Prop where
 obj:∃nm q N bs sn sub ab col dd k0 k1 k2 k3 k5,base.get? C=O (excClassObj nm q C N bs bm xi sn sub ab col dd k0 k1 k2 k3 k5 "ValueError.__new__")
 tail:Xc VB bm
 init:Yw M C "__init__" (O (.ref fI)) base
 fn:∃o,base.get? fI=O o/\o.cls=.type "function"
 sa:Yw M C "__setattr__" (O (.builtin "object.__setattr__")) base
 ga:Yw M C "__getattribute__" (O (.builtin "BaseException.__getattribute__")) base
 gh:Yw M C "__getattr__" none base
 cl:Yw M C "__class__" (O (.builtin "object.__class__")) base
 pass:∀v,refuseLoop v "__setattr__" bm=pure ()
noncomputable def XD(dx:UD)(fs:List (Str×V)):Heap->Prop:=λh=>∃mA,h.Ns1 dx mA/\h.ExactDictFk dx/\(∀f,Sm (fs.lookup f) (mA f))/\PySem.Within mA (fs.map (·.1))
end L2
namespace L2
open PySem PySem.Spec
section
variable{prog:UC}{w:World}{A:Around}{E:UA->UB->Prop}{h:Heap}{g:Array GenState}{d:Drawn}{t:Nat}{os:OsState}{R:Result->UB->Prop}
variable{nm q:Str}{C N a:UD}{bs bm bmB:xo}{hdct:Bool}{sn:List Str}{sub:xo}{ab:Bool}{col:xy}{dd:xz}{k0 k1 k2 k3 k5:xr}{newId:String}{o:Obj}
theorem jj(T:Xc bmB bm)(ho:bmB.contains (.type "object")=xi)(hC:h.get? C=O (excClassObj nm q C N bs bm hdct sn sub ab col dd k0 k1 k2 k3 k5 newId))(hx:h.get? a=O o)(hc:o.cls=.ref C)(hq:R (.ok (.ret (.ref C))) ⟨h,g,d,t,os⟩) :
  codeAny (model prog w) A (.call (.builtin "getset_descriptor.__get__") ⟨[.builtin "object.__class__", .ref a,.ref C],[]⟩) R ⟨h,g,d,t,os⟩:=by
 have hT5:(⟨h,g,d,t,os⟩:UB).TypeIs (.builtin "object.__class__") "getset_descriptor" :=PySem.F.typeOf_object_class;have hcB:(Value.ref C::bm).contains (.type (".".intercalate ("object.__class__".cutAt '.').dropLast))=xi:=by rw[PySem.F.owner_object_class,List.contains_cons,T _ _ ho];rfl
 refine codeAny_call_builtin PySem.F.slot_gs_get.plain PySem.F.entry_gs_get (PySem.F.slot_gs_get.check _ _ _ _ _ _ _ _ hT5 (PySem.F.args_gs_get _ _ _) ?_)
 repeat (any_goals (first|assumption|(with_reducible refine QM hx ?_;rw[hc])|(with_reducible refine Ju hC ?_;rw[hcB])|wp_step))
 refine⟨Code.quiet_builtin _ (by decide +kernel),Jk PySem.F.entry_object_class ?_⟩;unfold Builtin.«object.__class__»
 repeat (any_goals (first|assumption|(with_reducible refine QM hx ?_;rw[hc])|wp_step))
theorem kF{tk:Tok}{Q:PySem.Fin->UB->Prop}(T:Xc bmB bm)(ho:bmB.contains (.type "object")=xi)(hC:h.get? C=O (excClassObj nm q C N bs bm hdct sn sub ab col dd k0 k1 k2 k3 k5 newId))(fc:Yw (model prog w) C "__class__" (O (.builtin "object.__class__")) h)(hx:h.get? a=O o)(hc:o.cls=.ref C)(hq:Q (.done (.ret (.ref C))) ⟨h,g,d,t,os⟩) :
  UH (model prog w) A (Builtin.«object.__getattribute__» ⟨[.ref a,.str "__class__" tk],[]⟩) Q E ⟨h,g,d,t,os⟩:=by
 have hT5:(⟨h,g,d,t,os⟩:UB).TypeIs (.builtin "object.__class__") "getset_descriptor" :=PySem.F.typeOf_object_class;have f5:=PySem.F.typeOf_object_class;have f6:=PySem.F.slot_gs_get.lookup;have f7:=PySem.F.slot_gs_set.lookup
 repeat (any_goals (first|assumption|(with_reducible refine QM hx ?_;rw[hc])|with_reducible refine fc.at ?_|wp_step))
 refine jj T ho hC hx hc ?_
 repeat (any_goals (first|assumption|wp_step))
theorem GB{Q:xr->UB->Prop}(FB:ExcAttrFacts "ValueError")(T:Xc VB bm)(hC:h.get? C=O (excClassObj nm q C N bs bm hdct sn sub ab col dd k0 k1 k2 k3 k5 newId))(fc:Yw (model prog w) C "__class__" (O (.builtin "object.__class__")) h)
  (fg:Yw (model prog w) C "__getattribute__" (O (.builtin "BaseException.__getattribute__")) h) (fa:Yw (model prog w) C "__getattr__" none h) (hx:h.get? a=O o) (hc:o.cls=.ref C) (hq:Q (O (.ref C)) ⟨h,g,d,t+1,os⟩) :
  UH (model prog w) A (getAttr? (.ref a) "__class__") Q E ⟨h,g,d,t,os⟩:=by
 have f3:=FB.ga.bind (.ref a);have hx0:(xj&&onTheHeap (Value.builtin "BaseException.__getattribute__"))=xj:=rfl;have hx2:(Value.builtin "BaseException.__getattribute__" == Value.builtin "object.__getattribute__")=xj:=by decide +kernel
 have hx1:(onTheHeap (Value.ref C)&&Value.builtin "BaseException.__getattribute__" == Value.builtin "object.__getattribute__")=xj:=by rw[hx2];rfl
 unfold getAttr? getAttrBy?;refine Qe (wpAny_mkText (Qe (wpAny_attempt ?_)))
 repeat (any_goals (first|assumption|(with_reducible refine QM hx ?_;rw[hc])|with_reducible refine fg.at ?_|with_reducible refine fa.at ?_|wp_step))
 refine codeAny_call_builtin FB.ga.plain PySem.F.entry_bexc_ga (qo T xf hC hx hc (kF T xf hC fc hx hc ?_))
 repeat (any_goals (first|assumption|wp_step))
end
end L2
namespace L2
open PySem PySem.Spec PyProof.Rows
section
variable{prog:UC}{w:World}{A:Around}{E:UA->UB->Prop}{h:Heap}{g:Array GenState}{d:Drawn}{t:Nat}{os:OsState}
variable{nm q nm' q':Str}{C N D N' a:UD}{bs bm bs' bm':xo}{hdct vG:Bool}{sn sn':List Str}{sub sub':xo}{ab ab':Bool}{col col':xy}{dd dd':xz}{k0 k1 k2 k3 k5 j0 j1 j2 j3 j5:xr}{newId newId':String}{o:Obj}{b:Bool}
theorem D2{Q:UA->UB->Prop}(T:Xc VB bm)(hC:h.get? C=O (excClassObj nm q C N bs bm hdct sn sub ab col dd k0 k1 k2 k3 k5 newId))(hD:h.get? D=O (excClassObj nm' q' D N' bs' bm' vG sn' sub' ab' col' dd' j0 j1 j2 j3 j5 newId'))
  (fc:Yw (model prog w) C "__class__" (O (.builtin "object.__class__")) h) (fg:Yw (model prog w) C "__getattribute__" (O (.builtin "BaseException.__getattribute__")) h) (fa:Yw (model prog w) C "__getattr__" none h)
  (hx:h.get? a=O o) (hc:o.cls=.ref C) (hb:(Value.ref C::bm).contains (.ref D)=b) (hq:∀tk,Q (.bool b) ⟨h,g,d,tk,os⟩):UH (model prog w) A (call (.builtin "isinstance") [.ref a,.ref D]) Q E ⟨h,g,d,t,os⟩:=by
 have hT:(⟨h,g,d,t,os⟩:UB).TypeIs (.ref D) "type" :=⟨_,hD,rfl⟩
 have f2:=tc_sub;refine call_isinstance_of ?_ (λz=>nomatch z);unfold Builtin.«isinstance.nested»;refine Qe ?_;unfold typeOf;refine Qe (QM hx (Qn ?_));rw[hc];by_cases e:C=D
 .subst e
  have hb1:b=xi:=by rw[←hb];simp
  subst hb1;rw[if_pos (by simp)];exact Qe (wpAny_rule (Qn (hq t)))
 .rw[if_neg (by simp[e])]
  refine Qe (Qe (QM hD (Qn ?_)));rw[Qo (show(Value.type "type" == Value.type "type")=xi by decide)]
  k_delta "plainIsInstance"
  unfold isType isInstance
  repeat (first|(with_reducible refine QM hx ?_;rw[hc])|with_reducible refine QM hD ?_|with_reducible refine QM hC ?_|(with_reducible refine Ju hC ?_;rw[hb])|wp_step)
  cases b with
  |true=>wp_walk;exact hq t
  |false=>
   rw[Qv (by decide)];refine Qe (GB PySem.F.excAttr_ValueError T hC fc fg fa hx hc ?_)
   repeat (first|with_reducible refine QM hC ?_|(with_reducible refine Ju hC ?_;rw[hb])|wp_step)
   exact hq _
theorem DD{Q:UA->UB->Prop}{X:String}(T:Xc VB bm)(hC:h.get? C=O (excClassObj nm q C N bs bm hdct sn sub ab col dd k0 k1 k2 k3 k5 newId))(hX:typeOf (.type X)=pure (.type "type"))
  (fc:Yw (model prog w) C "__class__" (O (.builtin "object.__class__")) h) (fg:Yw (model prog w) C "__getattribute__" (O (.builtin "BaseException.__getattribute__")) h) (fa:Yw (model prog w) C "__getattr__" none h)
  (hx:h.get? a=O o) (hc:o.cls=.ref C) (hb:(Value.ref C::bm).contains (.type X)=b) (hq:∀tk,Q (.bool b) ⟨h,g,d,tk,os⟩):UH (model prog w) A (call (.builtin "isinstance") [.ref a,.type X]) Q E ⟨h,g,d,t,os⟩:=by
 refine call_isinstance_of ?_ (λz=>nomatch z);unfold Builtin.«isinstance.nested»;refine Qe ?_;have ty:∀{M:Model}{A:Around}{Q:UA->UB->Prop}{E:UA->UB->Prop},Q (.ref C) ⟨h,g,d,t,os⟩->UH M A (typeOf (.ref a)) Q E ⟨h,g,d,t,os⟩:=λq=>by unfold typeOf;refine Qe (QM hx (Qn ?_));rw[hc];exact q
 refine ty ?_;rw[if_neg (by simp)];refine Qe (wpAny_of_eq hX ?_);rw[Qo (show(Value.type "type" == Value.type "type")=xi by decide)]
 k_delta "plainIsInstance"
 unfold isType isInstance
 repeat (first|(with_reducible refine QM hx ?_;rw[hc])|with_reducible refine QM hC ?_|(with_reducible refine Ju hC ?_;rw[hb])|wp_step)
 cases b with
 |true=>wp_walk;exact hq t
 |false=>
  rw[Qv (by decide)];refine Qe (GB PySem.F.excAttr_ValueError T hC fc fg fa hx hc ?_)
  repeat (first|with_reducible refine QM hC ?_|(with_reducible refine Ju hC ?_;rw[hb])|wp_step)
  exact hq _
end
noncomputable def rIsX(KC:UD->xo->Prop):List V->Hp->VK->Prop:=λxs H Q=>∃a C dd bm fr c b,xs=[.ref a,c]/\KC C bm/\H a=O (.ext (XO fr a C dd)) /\
 ((∃D bm',c=.ref D/\KC D bm'/\(Value.ref C::bm).contains (.ref D)=b) ∨ ∃T,c=.ty T/\typeOf (.type T)=pure (.type "type")/\(Value.ref C::bm).contains (.type T)=b)/\Q (.bl b) H
theorem BB{X:Cx}{KC:UD->xo->Prop}(hcls:∀C bm,KC C bm->∃fI,XCls (model X.prog X.w) X.base C bm fI):YO X (.builtin "isinstance") (rIsX KC):=by
 rintro pins s σ H xs us Q I r ⟨a,C,dd,bm,fr,c,b,rfl,kc,hx,hD,q⟩;cases r with
 |cons ra r=>
 cases r with
 |cons rc r=>
 cases r;have ra':_=Value.ref a:=ra;subst ra';obtain⟨fI,XC⟩:=hcls C bm kc;obtain⟨nm,qn,N,bs,sn,sub,ab,col,dd1,k0,k1,k2,k3,k5,hC⟩:=XC.obj;obtain⟨⟨vs,sl,ga,_⟩,_,_⟩:=I.hok a _ hx;obtain⟨hp,g,d,tk,os⟩:=s;rcases hD with ⟨D,bm',rfl,kd,hb⟩|⟨T,rfl,hT,hb⟩
 .have rc':_=Value.ref D:=rc
  subst rc';obtain⟨fI',XD'⟩:=hcls D bm' kd;obtain⟨nm',qn',N',bs',sn',sub',ab',col',dd2,j0,j1,j2,j3,j5,v8⟩:=XD'.obj;exact D2 XC.tail (I.bk _ _ hC) (I.bk _ _ v8) (XC.cl.keeps I.bk) (XC.ga.keeps I.bk) (XC.gh.keeps I.bk) ga xf hb λtk'=>⟨.bl b,H,I.tok tk',rfl,q⟩
 .have rc':_=Value.type T:=rc
  subst rc';exact DD XC.tail (I.bk _ _ hC) hT (XC.cl.keeps I.bk) (XC.ga.keeps I.bk) (XC.gh.keeps I.bk) ga xf hb λtk'=>⟨.bl b,H,I.tok tk',rfl,q⟩
noncomputable def Fc(nm:Str):List Str:=if nm = "NoWishes" then ["part", "number"]else if nm = "NoAim" then ["part"]else if nm = "NoText" then ["row"]else []
noncomputable def NY(K:Frag)(nm:Str):xz:=match PySem.W.nsIn K mainGlobals nm with|some (O (.ref C))=>O C|_=>xg
def NmAt(K:Frag)(nm:Str)(C:UD):Prop:=∃o cd,K.lookup C=O o/\o.data=.cls cd/\cd.name=nm
structure ClsK(K:Frag)(nm:Str)(C:UD)(bm:xo):Prop where
 ad:NY K nm=O C
 nmd:NmAt K nm C
 up:nm = "DealError" /\ bm=VB∨nm ≠ "DealError" /\ ∃D,NY K "DealError" = O D/\bm=.ref D::VB/\NmAt K "DealError" D
 cls:∀(M:Model)(h:Heap),K.In h->∃fI,XCls M h C bm fI
 fld:∀(M:Model)(h:Heap),K.In h->∀f∈(["part", "number", "row"]:List Str),Yw M C f xg h
noncomputable def KC(K:Frag):UD->xo->Prop:=λC bm=>∃nm,ClsK K nm C bm
section
variable{K:Frag}{nm x:Str}{C D:UD}{bm bm':xo}
theorem ClsK.ty(c:ClsK K nm C bm)(T:String):(Value.ref C::bm).contains (.type T)=VB.contains (.type T):=by
 rcases c.up with ⟨_,rfl⟩|⟨_,D',g,rfl,n⟩
 .rfl
 .rfl
end
section
variable{X:Cx}{e:UF}{st:Stmt}{sts:List Stmt}{t:TE}{ts:TS}
theorem Fb(k:X.K.In X.base):∀C bm,KC X.K C bm->∃fI,XCls (model X.prog X.w) X.base C bm fI:=λ_ _ ⟨_,c⟩=>c.cls _ _ k
end
end L2
namespace DL
open PySem PySem.Spec L2
open PyProof.Rows hiding St
abbrev D:=PyData
abbrev xk:=List D
abbrev xn:=Option D
abbrev XW:=V->St->Hp->Prop
noncomputable abbrev KX0:XW:=λ_ _ _=>False
def XFs(G:Hp)(dd:xz)(fs:List Str)(vs:List V):Prop:=match dd with
 |none=>fs=[]/\vs=[]
 |some dx=>fs.length=vs.length/\G dx=O (.ext (XD dx (fs.zip vs)))
theorem XFs.mono{G G1:Hp}{dd:xz}{fs:List Str}{vs:List V}(e:Same G G1)(h:XFs G dd fs vs):XFs G1 dd fs vs:=by
 cases dd with
 |none=>exact h
 |some dx=>exact⟨h.1,e _ _ h.2⟩
noncomputable def kD:Key->D
 |.inl i=>.int i
 |.inr x=>.str x
noncomputable def tkD(k:List Key):D:=.tuple (k.map kD)
noncomputable def pdD(ks:List (List Key))(ds:xk):List (D×D):=(.bool xi,.none)::(ks.map tkD).zip ds
mutual
inductive Rep(K:Frag)(G:Hp):V->D->Prop where
 |non:Rep K G .non .none
 |bl (b:Bool):Rep K G (.bl b) (.bool b)
 |int (i:Int):Rep K G (.int i) (.int i)
 |str (x:Str):Rep K G (.str x) (.str x)
 |lst {a:UD} {vs:List V} {ds:xk} (h:SqL K G a vs) (r:Reps K G vs ds):Rep K G (.ref a) (.list ds)
 |tup {a:UD} {vs:List V} {ds:xk} (h:SqT K G a vs) (r:Reps K G vs ds):Rep K G (.ref a) (.tuple ds)
 |dic {a:UD} (h:G a=O (.dK [])):Rep K G (.ref a) (.dict [])
 |exc {a C:UD} {dd:xz} {bm:xo} {nm:Str} {vs:List V} {ds:xk} (c:ClsK K nm C bm) (h:G a=O (.ext (XO xj a C dd))) (hd:XFs G dd (Fc nm) vs) (r:Reps K G vs ds):Rep K G (.ref a) (.dict [(.none,.tuple [.str nm,.list ds])])
 |dct {a:UD} {ks:List Key} {vs:List V} {ds:xk} {kvs:List (D×D)} (e:kvs=(ks.map kD).zip ds) (hne:ks≠[]) (hl:ks.length=ds.length) (h:G a=O (.dK (ks.zip vs))) (r:Reps K G vs ds):Rep K G (.ref a) (.dict kvs)
 |dtt {a:UD} {o:Obj} {ks:List (List Key)} {vs:List V} {ds:xk} {kvs:List (D×D)} (e:kvs=pdD ks ds) (hl:ks.length=ds.length) (h:G a=O (.frz o (.dT (ks.zip vs)))) (r:Reps K G vs ds):Rep K G (.ref a) (.dict kvs)
inductive Reps(K:Frag)(G:Hp):List V->xk->Prop where
 |nil:Reps K G [] []
 |cons {v:V} {d:D} {vs:List V} {ds:xk} (h:Rep K G v d) (t:Reps K G vs ds):Reps K G (v::vs) (d::ds)
end
variable{K:Frag}{B G0 G G1 G2 H H1 H2:Hp}
theorem Y6{a:UD}{xs:List V}(e:Same G G1)(h:SqT K G a xs):SqT K G1 a xs:=by
 rcases h with (h|⟨o,h⟩)|h
 .exact .inl (.inl (e _ _ h))
 .exact .inl (.inr ⟨o,e _ _ h⟩)
 .exact .inr h
theorem Rep.mono(e:Same G G1){v:V}{d:D}(r:Rep K G v d):Rep K G1 v d:=Rep.rec (motive_1:=λv d _=>Rep K G1 v d) (motive_2:=λvs ds _=>Reps K G1 vs ds) .non .bl .int .str (λh _ r=>.lst (e.seq h) r) (λh _ r=>.tup (Y6 e h) r) (λh=>.dic (e _ _ h)) (λc h hd _ r=>.exc c (e _ _ h) (hd.mono e) r) (λz n l h _ r=>.dct z n l (e _ _ h) r) (λz l h _ r=>.dtt z l (e _ _ h) r) .nil (λ_ _=>.cons) r
theorem Reps.mono(e:Same G G1){vs:List V}{ds:xk}(r:Reps K G vs ds):Reps K G1 vs ds:=Reps.rec (motive_1:=λv d _=>Rep K G1 v d) (motive_2:=λvs ds _=>Reps K G1 vs ds) .non .bl .int .str (λh _ r=>.lst (e.seq h) r) (λh _ r=>.tup (Y6 e h) r) (λh=>.dic (e _ _ h)) (λc h hd _ r=>.exc c (e _ _ h) (hd.mono e) r) (λz n l h _ r=>.dct z n l (e _ _ h) r) (λz l h _ r=>.dtt z l (e _ _ h) r) .nil (λ_ _=>.cons) r
section
variable{v:V}{vs ws:List V}{ds es:xk}
theorem Rep.bl_inv{b:Bool}(h:Rep K G v (.bool b)):v=.bl b:=by cases h;rfl
theorem Rep.int_inv{i:Int}(h:Rep K G v (.int i)):v=.int i:=by cases h;rfl
theorem Rep.str_inv{x:Str}(h:Rep K G v (.str x)):v=.str x:=by cases h;rfl
theorem Rep.lst_inv(h:Rep K G v (.list ds)):∃a vs,v=.ref a/\SqL K G a vs/\Reps K G vs ds:=by
 cases h with
 |lst h r=>exact⟨_,_,rfl,h,r⟩
theorem Rep.tup_inv(h:Rep K G v (.tuple ds)):∃a vs,v=.ref a/\SqT K G a vs/\Reps K G vs ds:=by
 cases h with
 |tup h r=>exact⟨_,_,rfl,h,r⟩
theorem Reps.length:∀{vs:List V}{ds:xk},Reps K G vs ds->vs.length=ds.length
 |_,_,.nil=>rfl
 |_,_,.cons _ t=>by rw[QC,QC,Reps.length t]
theorem Reps.get:∀{vs:List V}{ds:xk}{i:Nat}{d:D},Reps K G vs ds->ds[i]?=O d->∃v,vs[i]?=O v/\Rep K G v d
 |_,_,_,_,.nil,e=>by simp at e
 |_,_,0,_,.cons h _,e=>by simp at e;subst e;exact⟨_,rfl,h⟩
 |_,_,i+1,d,.cons _ t,e=>by obtain⟨u,h1,h2⟩:=Reps.get (i:=i) (d:=d) t (by simpa using e);exact⟨u,by simpa using h1,h2⟩
theorem Reps.append:∀{vs ws:List V}{ds es:xk},Reps K G vs ds->Reps K G ws es->Reps K G (vs++ws) (ds++es)
 |_,_,_,_,.nil,s=>s
 |_,_,_,_,.cons r t,s=>.cons r (Reps.append t s)
theorem Reps.take:∀{vs:List V}{ds:xk}(n:Nat),Reps K G vs ds->Reps K G (vs.take n) (ds.take n)
 |_,_,0,_=>by rw[J9,J9];exact .nil
 |_,_,_+1,.nil=>.nil
 |_,_,n+1,.cons r t=>.cons r (Reps.take n t)
theorem Reps.drop:∀{vs:List V}{ds:xk}(n:Nat),Reps K G vs ds->Reps K G (vs.drop n) (ds.drop n)
 |_,_,0,r=>r
 |_,_,_+1,.nil=>.nil
 |_,_,n+1,.cons _ t=>Reps.drop n t
theorem Reps.reverse:∀{vs:List V}{ds:xk},Reps K G vs ds->Reps K G vs.reverse ds.reverse
 |_,_,.nil=>.nil
 |_,_,.cons r t=>by rw[List.reverse_cons,List.reverse_cons];exact Reps.append (Reps.reverse t) (.cons r .nil)
theorem Reps.set{v:V}{d:D}(r:Rep K G v d):∀{vs:List V}{ds:xk}(i:Nat),Reps K G vs ds->Reps K G (vs.set i v) (ds.set i d)
 |_,_,_,.nil=>.nil
 |_,_,0,.cons _ t=>.cons r t
 |_,_,i+1,.cons q t=>.cons q (Reps.set r i t)
theorem Reps.ints:∀(ns:xm),Reps K G (ns.map V.int) (ns.map int)
 |[]=>.nil
 |n::ns=>.cons (.int n) (Reps.ints ns)
end
inductive MO where
 |l (vs:List V)|k (kvs:List (Key×V))|t (kvs:List (List Key×V))|s (S:Int->Bool) (n:Nat)
noncomputable def MO.ho:MO->HO
 |.l vs=>.lst vs
 |.k kvs=>.dK kvs
 |.t kvs=>.dT kvs
 |.s S n=>.set S n
structure Ext(G H G' H':Hp):Prop where
 h:Same H H'
 g:Same G G'
 gh:Same G' H'
 np:∀a(u:MO),H a=O u.ho->G a=xg->G' a=xg
theorem Ext.refl(e:Same G H):Ext G H G H:=⟨.refl _,.refl _,e,λ_ _ _ q=>q⟩
theorem ZT{p:UD}{o:HO}(h:H p=xg):Same H (upd H p o):=λb u e=>by rw[Zh (Xn e h)];exact e
theorem Ext.new{p:UD}{o:HO}(e:Same G H)(h:H p=xg):Ext G H (upd G p o) (upd H p o):=by
 have hg:G p=xg:=e.free h;refine⟨ZT h,ZT hg,λb u q=>?_,λa u q n=>?_⟩
 .by_cases z:b=p
  .subst z;rw[ZU]at q⊢;exact q
  .rw[Zh z]at q⊢;exact e b u q
 .rw[Zh (Xn q h)];exact n
theorem Ext.hid{p:UD}{o:HO}(e:Same G H)(h:H p=xg):Ext G H G (upd H p o):=
 ⟨ZT h,.refl _,e.trans (ZT h),λ_ _ _ n=>n⟩
inductive Pat where
 |leaf|lst (p:Pat)|tup (ps:List Pat)|dic
mutual
inductive RepO(K:Frag)(G H:Hp):Pat->V->D->xw->Prop where
 |leaf {v:V} {d:D} (r:Rep K G v d):RepO K G H .leaf v d []
 |lst {p:Pat} {a:UD} {vs:List V} {ds:xk} {fp:xw} (h:H a=O (.lst vs)) (r:RepOl K G H p vs ds fp):RepO K G H (.lst p) (.ref a) (.list ds) (a::fp)
 |tup {ps:List Pat} {a:UD} {vs:List V} {ds:xk} {fp:xw} (h:H a=O (.tup vs)) (r:RepOs K G H ps vs ds fp):RepO K G H (.tup ps) (.ref a) (.tuple ds) fp
 |dic {a:UD} {ks:List Key} {vs:List V} {ds:xk} {kvs:List (D×D)} (e:kvs=(ks.map kD).zip ds) (hl:ks.length=ds.length) (h:H a=O (.dK (ks.zip vs))) (r:Reps K G vs ds):RepO K G H .dic (.ref a) (.dict kvs) [a]
inductive RepOl(K:Frag)(G H:Hp):Pat->List V->xk->xw->Prop where
 |nil {p:Pat}:RepOl K G H p [] [] []
 |cons {p:Pat} {v:V} {d:D} {vs:List V} {ds:xk} {f1 f2:xw} (h:RepO K G H p v d f1) (t:RepOl K G H p vs ds f2):RepOl K G H p (v::vs) (d::ds) (f1++f2)
inductive RepOs(K:Frag)(G H:Hp):List Pat->List V->xk->xw->Prop where
 |nil:RepOs K G H [] [] [] []
 |cons {p:Pat} {ps:List Pat} {v:V} {d:D} {vs:List V} {ds:xk} {f1 f2:xw} (h:RepO K G H p v d f1) (t:RepOs K G H ps vs ds f2):RepOs K G H (p::ps) (v::vs) (d::ds) (f1++f2)
end
def XJ(K:Frag)(G H:Hp)(M1:Pat->V->D->xw->Prop)(M2:Pat->List V->xk->xw->Prop)(M3:List Pat->List V->xk->xw->Prop):Prop:=
 (∀{p v d fp},RepO K G H p v d fp->M1 p v d fp)/\(∀{p vs ds fp},RepOl K G H p vs ds fp->M2 p vs ds fp)/\∀{ps vs ds fp},RepOs K G H ps vs ds fp->M3 ps vs ds fp
theorem RepO.ind3{M1:Pat->V->D->xw->Prop}{M2:Pat->List V->xk->xw->Prop}{M3:List Pat->List V->xk->xw->Prop}
  (c1:∀{v d},Rep K G v d->M1 .leaf v d []) (c2:∀{p a vs ds fp},H a=O (.lst vs)->M2 p vs ds fp->M1 (.lst p) (.ref a) (.list ds) (a::fp)) (c3:∀{ps a vs ds fp},H a=O (.tup vs)->M3 ps vs ds fp->M1 (.tup ps) (.ref a) (.tuple ds) fp)
  (c4:∀{a:UD}{ks:List Key}{vs:List V}{ds:xk}{kvs:List (D×D)},kvs=(ks.map kD).zip ds->ks.length=ds.length->H a=O (.dK (ks.zip vs))->Reps K G vs ds->M1 .dic (.ref a) (.dict kvs) [a])
  (c5:∀{p},M2 p [] [] []) (c6:∀{p v d vs ds f1 f2},M1 p v d f1->M2 p vs ds f2->M2 p (v::vs) (d::ds) (f1++f2)) (c7:M3 [] [] [] []) (c8:∀{p ps v d vs ds f1 f2},M1 p v d f1->M3 ps vs ds f2->M3 (p::ps) (v::vs) (d::ds) (f1++f2)) :
  XJ K G H M1 M2 M3:=
 ⟨λh=>RepO.rec (motive_1:=λp v d fp _=>M1 p v d fp) (motive_2:=λp v d fp _=>M2 p v d fp) (motive_3:=λp v d fp _=>M3 p v d fp) c1 (λh _=>c2 h) (λh _=>c3 h) c4 c5 (λ_ _=>c6) c7 (λ_ _=>c8) h,
  λh=>RepOl.rec (motive_1:=λp v d fp _=>M1 p v d fp) (motive_2:=λp v d fp _=>M2 p v d fp) (motive_3:=λp v d fp _=>M3 p v d fp) c1 (λh _=>c2 h) (λh _=>c3 h) c4 c5 (λ_ _=>c6) c7 (λ_ _=>c8) h,
  λh=>RepOs.rec (motive_1:=λp v d fp _=>M1 p v d fp) (motive_2:=λp v d fp _=>M2 p v d fp) (motive_3:=λp v d fp _=>M3 p v d fp) c1 (λh _=>c2 h) (λh _=>c3 h) c4 c5 (λ_ _=>c6) c7 (λ_ _=>c8) h⟩
theorem RepO.mono3(sg:Same G G1)(sh:Same H H1):XJ K G H (RepO K G1 H1) (RepOl K G1 H1) (RepOs K G1 H1):=
 RepO.ind3 (λr=>.leaf (r.mono sg)) (λh r=>.lst (sh _ _ h) r) (λh r=>.tup (sh _ _ h) r) (λe hl h r=>.dic e hl (sh _ _ h) (r.mono sg)) .nil .cons .nil .cons
theorem RepO.mono(sg:Same G G1)(sh:Same H H1){p:Pat}{v:V}{d:D}{fp:xw}(r:RepO K G H p v d fp):RepO K G1 H1 p v d fp:=(RepO.mono3 sg sh).1 r
theorem RepO.upd3{a:UD}{o:HO}(nt:∀vs,H a≠O (.tup vs)):XJ K G H (λp v d fp=>a∉fp->RepO K G (upd H a o) p v d fp) (λp v d fp=>a∉fp->RepOl K G (upd H a o) p v d fp) (λp v d fp=>a∉fp->RepOs K G (upd H a o) p v d fp):=
 RepO.ind3
 (λr _=>.leaf r) (λh r n=>.lst (by rw[Zh (λz=>n (by rw[z];exact Qk))];exact h) (r λz=>n (Qi _ z))) (λh r n=>.tup (by rw[Zh (λz=>by subst z;exact nt _ h)];exact h) (r n))
 (λe hl h r n=>.dic e hl (by rw[Zh (λz=>n (by rw[z];exact Qk))];exact h) r) (λ_=>.nil) (λh t n=>.cons (h λz=>n (Q9 _ z)) (t λz=>n (QH _ z))) (λ_=>.nil) (λh t n=>.cons (h λz=>n (Q9 _ z)) (t λz=>n (QH _ z)))
theorem RepO.upd{a:UD}{o:HO}(nt:∀vs,H a≠O (.tup vs)){p:Pat}{v:V}{d:D}{fp:xw}(r:RepO K G H p v d fp)(n:a∉fp):RepO K G (upd H a o) p v d fp:=(RepO.upd3 nt).1 r n
theorem RepO.rep3(gh:Same G H):XJ K G H (λ_ v d _=>Rep K H v d) (λ_ v d _=>Reps K H v d) (λ_ v d _=>Reps K H v d):=
 RepO.ind3 (λr=>r.mono gh) (λh r=>.lst (SqL.of h) r) (λh r=>.tup (SqT.of h) r)
 (λ{a ks vs ds kvs} e hl h r=>by
  cases ks with
  |nil=>subst e;exact .dic h
  |cons k ks=>exact .dct e (λz=>by cases z) hl h (r.mono gh)) .nil .cons .nil .cons
theorem RepO.rep(gh:Same G H){p:Pat}{v:V}{d:D}{fp:xw}(r:RepO K G H p v d fp):Rep K H v d:=(RepO.rep3 gh).1 r
theorem RepO.isl3:XJ K G H (λ_ _ _ fp=>∀a∈fp,∃u:MO,H a=O u.ho) (λ_ _ _ fp=>∀a∈fp,∃u:MO,H a=O u.ho) (λ_ _ _ fp=>∀a∈fp,∃u:MO,H a=O u.ho):=
 RepO.ind3 (λ_ a m=>by cases m)
 (λh r b m=>(QL.mp m).elim (λe=>⟨.l _,e ▸ h⟩) (r b)) (λ_ r=>r) (λ_ _ h _ b m=>⟨.k _,QZ.mp m ▸ h⟩) (λa m=>by cases m) (λh t b m=>(QU.mp m).elim (h b) (t b)) (λa m=>by cases m) (λh t b m=>(QU.mp m).elim (h b) (t b))
theorem RepO.isl{p:Pat}{v:V}{d:D}{fp:xw}(r:RepO K G H p v d fp):∀a∈fp,∃u:MO,H a=O u.ho:=RepO.isl3.1 r
theorem RepO.uniq3(sh:Same H H1):XJ K G H (λp v _ fp=>∀d' fp',RepO K G1 H1 p v d' fp'->fp=fp') (λp v _ fp=>∀d' fp',RepOl K G1 H1 p v d' fp'->fp=fp') (λp v _ fp=>∀d' fp',RepOs K G1 H1 p v d' fp'->fp=fp'):=
 RepO.ind3
 (λ_ d' fp' h=>by cases h;rfl)
 (λh r d' fp' h'=>by
  cases h' with
  |lst h2 r2=>have e:=sh _ _ h;rw[h2]at e;cases e;rw[r _ _ r2])
 (λh r d' fp' h'=>by
  cases h' with
  |tup h2 r2=>have e:=sh _ _ h;rw[h2]at e;cases e;exact r _ _ r2)
 (λ_ _ _ _ d' fp' h=>by cases h;rfl) (λd' fp' h=>by cases h;rfl)
 (λh t d' fp' h'=>by
  cases h' with
  |cons h2 t2=>rw[h _ _ h2,t _ _ t2])
 (λd' fp' h=>by cases h;rfl)
 (λh t d' fp' h'=>by
  cases h' with
  |cons h2 t2=>rw[h _ _ h2,t _ _ t2])
theorem RepO.uniq(sh:Same H H1){p:Pat}{v:V}{d d':D}{fp fp':xw}(r:RepO K G H p v d fp)(r':RepO K G1 H1 p v d' fp'):fp=fp':=(RepO.uniq3 sh).1 r _ _ r'
inductive Sl where
 |pub (d:D)|own (ds:xk)|deep (p:Pat) (d:D)
abbrev U0:=List (Option Sl)
abbrev xu:=Option U0
def DpOk(K:Frag)(B G H:Hp)(σ:St)(Z:U0):Prop:=∃ω:UD->Nat,
 (∀(i:Nat) p d,Z[i]?=O (O (.deep p d))->∃v fp,σ[i]?=O (O v)/\RepO K G H p v d fp/\fp.Nodup/\∀a∈fp,B a=xg/\G a=xg/\ω a=i) /\
 (∀(i:Nat) ds a,Z[i]?=O (O (.own ds))->σ[i]?=O (O (.ref a))->ω a=i)
theorem DpOk.of{σ:St}{Z:U0}(h1:∀(i:Nat) p d,Z[i]?=O (O (.deep p d))->False)(h2:∀(i:Nat) ds,Z[i]?=O (O (.own ds))->False):DpOk K B G H σ Z:=
 ⟨λ_=>0,λi p d q=>(h1 i p d q).elim,λi ds a q=>(h2 i ds q).elim⟩
theorem DpOk.map{B1:Hp}{σ σ1:St}{Z Z1:U0}(k:DpOk K B G H σ Z)
  (h1:∀(i:Nat) p d,Z1[i]?=O (O (.deep p d))->Z[i]?=O (O (.deep p d))/\σ1[i]?=σ[i]?)
  (h2:∀(i:Nat) ds,Z1[i]?=O (O (.own ds))->∃es,Z[i]?=O (O (.own es))/\σ1[i]?=σ[i]?)
  (h3:∀(i:Nat) p d v fp,Z[i]?=O (O (.deep p d))->σ[i]?=O (O v)->RepO K G H p v d fp->(∀a∈fp,B a=xg/\G a=xg)->(∀(j:Nat) ds a,Z[j]?=O (O (.own ds))->σ[j]?=O (O (.ref a))->a∉fp)->RepO K G1 H1 p v d fp/\∀a∈fp,B1 a=xg/\G1 a=xg):DpOk K B1 G1 H1 σ1 Z1:=by
 obtain⟨ω,k1,k2⟩:=k;refine⟨ω,λi p d q=>?_,λi ds a q s=>?_⟩
 .obtain⟨q1,e1⟩:=h1 i p d q
  obtain⟨v,fp,s,r,n,w⟩:=k1 i p d q1;obtain⟨r1,w1⟩:=h3 i p d v fp q1 s r (λa m=>⟨(w a m).1,(w a m).2.1⟩) λj ds a qj sj m=>by have z1:=k2 j ds a qj sj;have z2:=(w a m).2.2;rw[z1]at z2;subst z2;rw[q1]at qj;cases qj
  exact⟨v,fp,by rw[e1];exact s,r1,n,λa m=>⟨(w1 a m).1,(w1 a m).2,(w a m).2.2⟩⟩
 .obtain⟨es,q1,e1⟩:=h2 i ds q
  rw[e1]at s;exact k2 i es a q1 s
structure EOk(K:Frag)(B G0 G H:Hp)(σ:St)(Z:U0):Prop where
 bh:Same B H
 gh:Same G H
 g0:Same G0 G
 np:∀a(u:MO),B a=O u.ho->G0 a=xg->G a=xg
 len:Z.length=σ.length
 pub:∀(i:Nat) d,Z[i]?=O (O (.pub d))->∃v,σ[i]?=O (O v)/\Rep K G v d
 own:∀(i:Nat) ds,Z[i]?=O (O (.own ds))->∃a vs,σ[i]?=O (O (.ref a))/\B a=xg/\G a=xg/\H a=O (.lst vs)/\Reps K G vs ds
 sep:∀(i j:Nat) a ds es,Z[i]?=O (O (.own ds))->Z[j]?=O (O (.own es))->σ[i]?=O (O (.ref a))->σ[j]?=O (O (.ref a))->i=j
 dp:DpOk K B G H σ Z
theorem EOk.ext{G' H':Hp}{σ:St}{Z:U0}(k:EOk K B G0 G H σ Z)(e:Ext G H G' H'):EOk K B G0 G' H' σ Z where
 bh:=k.bh.trans e.h
 gh:=e.gh
 g0:=k.g0.trans e.g
 np:=λa o q n=>e.np a o (k.bh a _ q) (k.np a o q n)
 len:=k.len
 pub:=λi d q=>let ⟨v,h1,h2⟩:=k.pub i d q;⟨v,h1,h2.mono e.g⟩
 own:=λi ds q=>let ⟨a,vs,h1,h2,h3,h4,h5⟩:=k.own i ds q;⟨a,vs,h1,h2,e.np a (.l _) h4 h3,e.h a _ h4,h5.mono e.g⟩
 sep:=k.sep
 dp:=k.dp.map (λ_ _ _ q=>⟨q,rfl⟩) (λ_ ds q=>⟨ds,q,rfl⟩) λi p d v fp q s r w n=>⟨r.mono e.g e.h,λa m=>let ⟨_,hl⟩:=r.isl a m;⟨(w a m).1,e.np a _ hl (w a m).2⟩⟩
theorem EOk.publish{σ:St}{Z:U0}{i:Nat}{ds:xk}(k:EOk K B G0 G H σ Z)(h:Z[i]?=O (O (.own ds))) :
  ∃a G',σ[i]?=O (O (.ref a))/\Same G G'/\Rep K G' (.ref a) (.list ds)/\EOk K B G0 G' H σ (Z.set i (O (.pub (.list ds)))):=by
 obtain⟨a,vs,h1,h2,h3,h4,h5⟩:=k.own i ds h;have sg:Same G (upd G a (.lst vs)):=ZT h3;have hr:Rep K (upd G a (.lst vs)) (.ref a) (.list ds):=.lst (SqL.of ZU) (h5.mono sg);refine⟨a,upd G a (.lst vs),h1,sg,hr,⟨k.bh,λb u q=>?_,k.g0.trans sg,λb o q n=>?_,by rw[Jf];exact k.len,λj d q=>?_,λj es q=>?_,λj l c es fs q1 q2 s1 s2=>?_,?_⟩⟩
 .by_cases z:b=a
  .subst z;rw[ZU]at q;cases q;exact h4
  .rw[Zh z]at q;exact k.gh b u q
 .have z:b≠a:=λz=>by subst z;rw[h2]at q;cases q
  rw[Zh z];exact k.np b o q n
 .by_cases z:i=j
  .subst z
   have hl:i<Z.length:=(Qg.mp h).1;rw[QK hl]at q;cases q;exact⟨.ref a,h1,hr⟩
  .rw[Qx z]at q
   obtain⟨v,g1,g2⟩:=k.pub j d q;exact⟨v,g1,g2.mono sg⟩
 .by_cases z:i=j
  .subst z
   have hl:i<Z.length:=(Qg.mp h).1;rw[QK hl]at q;cases q
  .rw[Qx z]at q
   obtain⟨b,ws,g1,g2,g3,g4,g5⟩:=k.own j es q;have zb:b≠a:=λe=>z (k.sep i j a ds es h q h1 (by rw[←e];exact g1))
   exact⟨b,ws,g1,g2,by rw[Zh zb];exact g3,g4,g5.mono sg⟩
 .have nz:∀{m:Nat}{ts:xk},(Z.set i (O (Sl.pub (.list ds))))[m]?=O (O (.own ts))->Z[m]?=O (O (.own ts)):=λ{m ts} q=>by
   by_cases z:i=m
   .subst z
    have hl:i<Z.length:=(Qg.mp h).1;rw[QK hl]at q;cases q
   .rw[Qx z]at q;exact q
  exact k.sep j l c es fs (nz q1) (nz q2) s1 s2
 .have hl:i<Z.length:=(Qg.mp h).1
  have nz:∀{m:Nat}{s:Sl},(Z.set i (O (Sl.pub (.list ds))))[m]?=O (O s)->(∃d,s=.pub d)∨Z[m]?=O (O s):=λ{m s} q=>by
   by_cases z:i=m
   .subst z
    rw[QK hl]at q;cases q;exact .inl ⟨_,rfl⟩
   .rw[Qx z]at q;exact .inr q
  refine k.dp.map (λm p d q=>?_) (λm es q=>?_) λm p d v fp q s r w n=>⟨r.mono sg (.refl _),λb mb=>⟨(w b mb).1,?_⟩⟩
  .rcases nz q with ⟨_,e⟩|q
   .cases e
   .exact⟨q,rfl⟩
  .rcases nz q with ⟨_,e⟩|q
   .cases e
   .exact⟨es,q,rfl⟩
  .rw[Zh (λz=>by subst z;exact n i ds b h h1 mb)];exact(w b mb).2
inductive Res(α:Type) where
 |ok (a:α) (Z:U0)|bad
noncomputable abbrev M(α:Type):=U0->Res α
noncomputable def U5{α:Type}(a:α):M α:=λZ=>.ok a Z
noncomputable def Ko{α:Type}(o:Option α):M α:=λZ=>match o with|some a=>.ok a Z|none=>.bad
noncomputable def Kn{α β:Type}(f:M α)(k:α->M β):M β:=λZ=>match f Z with | .ok a Z'=>k a Z' | .bad=>.bad
section
variable(K:Frag)(B G0:Hp)
def aft{α γ:Type}(R:Hp->γ->α->Prop)(r:Res α)(G:Hp)(σ:St)(Q:γ->Hp->Prop):Prop:=
 match r with
 |.ok d Z'=>∀v G' H',EOk K B G0 G' H' σ Z'->Same G G'->R G' v d->Q v H'
 |.bad=>False
noncomputable def tM{α γ:Type}(R:Hp->γ->α->Prop)(f:M α):St->Hp->(γ->Hp->Prop)->Prop:=λσ H Q=>
 ∃G Z,EOk K B G0 G H σ Z/\aft K B G0 R (f Z) G σ Q
noncomputable abbrev tD(f:M D):TE:=tM K B G0 (Rep K) f
noncomputable abbrev tDs(f:M xk):TA:=tM K B G0 (Reps K) f
noncomputable abbrev tBo(f:M Bool):TT:=tM K B G0 (λ_ b c=>b=c) f
noncomputable abbrev tOi(f:M xq):TO:=tM K B G0 (λ_ b c=>b=c) f
end
section
variable{K:Frag}{B G0:Hp}{α β γ δ ε:Type}{R:Hp->γ->α->Prop}{S:Hp->δ->β->Prop}{T:Hp->ε->α->Prop}{σ:St}{H:Hp}
theorem aft.mono{r:Res α}{G G':Hp}{Q:γ->Hp->Prop}(e:Same G G')(h:aft K B G0 R r G σ Q):aft K B G0 R r G' σ Q:=by
 cases r with
 |ok d Z=>exact λv G2 H2 k s q=>h v G2 H2 k (e.trans s) q
 |bad=>exact h
theorem aft.done{d:α}{Z:U0}{G G' H H':Hp}{v:γ}{Q:γ->Hp->Prop}(h:aft K B G0 R (.ok d Z) G σ Q)(k:EOk K B G0 G H σ Z)(e:Ext G H G' H')(r:R G' v d):Q v H':=
 h v G' H' (k.ext e) e.g r
theorem aft.now{d:α}{Z:U0}{G H:Hp}{v:γ}{Q:γ->Hp->Prop}(h:aft K B G0 R (.ok d Z) G σ Q)(k:EOk K B G0 G H σ Z)(r:R G v d):Q v H:=
 h v G H k (.refl _) r
theorem aft.opt{o:Option α}{Z:U0}{G:Hp}{Q:γ->Hp->Prop}(h:aft K B G0 R (Ko o Z) G σ Q):∃d,o=O d/\aft K B G0 R (.ok d Z) G σ Q:=by
 cases o with
 |none=>exact h.elim
 |some d=>exact⟨d,rfl,h⟩
theorem tM.bind{f:M α}{k:α->M β}{Q:δ->Hp->Prop}(h:tM K B G0 S (Kn f k) σ H Q) :
  tM K B G0 R f σ H (λv H1=>∃G Z d,EOk K B G0 G H1 σ Z/\R G v d/\aft K B G0 S (k d Z) G σ Q):=by
 obtain⟨G,Z,e,a⟩:=h;refine⟨G,Z,e,?_⟩;unfold Kn at a;cases q:f Z with
 |bad=>rw[q]at a;exact a.elim
 |ok d Z1=>rw[q]at a;exact λv G' H' e' s r=>⟨G',Z1,d,e',r,aft.mono s a⟩
theorem tM.bind2{α' γ':Type}{R':Hp->γ'->α'->Prop}{f:M α}{g:α->M α'}{k:α->α'->M β}{Q:δ->Hp->Prop}(mo:∀G G' v d,Same G G'->R G v d->R G' v d)
  (h:tM K B G0 S (Kn f λx=>Kn (g x) λy=>k x y) σ H Q) :
  tM K B G0 R f σ H (λv H1=>∃x,tM K B G0 R' (g x) σ H1 λu H2=>∃G Z y,EOk K B G0 G H2 σ Z/\R G v x/\R' G u y/\aft K B G0 S (k x y Z) G σ Q):=by
 obtain⟨G,Z,e,a⟩:=tM.bind (R:=R) h;refine⟨G,Z,e,?_⟩;cases q:f Z with
 |bad=>rw[q]at a;exact a.elim
 |ok d Z1=>
  rw[q]at a;intro v G' H' e' s r;obtain⟨G2,Z2,d2,e2,r2,a2⟩:=a v G' H' e' s r;refine⟨d2,G2,Z2,e2,?_⟩;unfold Kn at a2;cases q2:g d2 Z2 with
  |bad=>rw[q2]at a2;exact a2.elim
  |ok d3 Z3=>rw[q2]at a2;exact λu G3 H3 e3 s3 r3=>⟨G3,Z3,d3,e3,mo _ _ _ _ s3 r2,r3,aft.mono s3 a2⟩
end
theorem Ll{K:Frag}(G G':Hp)(v:V)(d:D)(e:Same G G')(r:Rep K G v d):Rep K G' v d:=r.mono e
theorem tM.two{K:Frag}{B G0:Hp}{β δ:Type}{S:Hp->δ->β->Prop}{σ:St}{H:Hp}{f g:M D}{k:D->D->M β}{Q:δ->Hp->Prop}{P:V->V->Hp->Prop}
  (h:tM K B G0 S (Kn f λx=>Kn g λy=>k x y) σ H Q)
  (i:∀v u H2 G Z x y,EOk K B G0 G H2 σ Z->Rep K G v x->Rep K G u y->aft K B G0 S (k x y Z) G σ Q->P v u H2) :
  tD K B G0 f σ H (λv H1=>tD K B G0 g σ H1 λu H2=>P v u H2):=by
 obtain⟨G,Z,e,a⟩:=tM.bind2 (R:=Rep K) (R':=Rep K) Ll h;refine⟨G,Z,e,?_⟩;cases q:f Z with
 |bad=>rw[q]at a;exact a.elim
 |ok d Z1=>
  rw[q]at a;intro v G' H' e' s r;obtain⟨x,G2,Z2,e2,a2⟩:=a v G' H' e' s r;refine⟨G2,Z2,e2,?_⟩;cases q2:g Z2 with
  |bad=>rw[q2]at a2;exact a2.elim
  |ok d3 Z3=>rw[q2]at a2;intro u G3 H3 e3 s3 r3;obtain⟨G4,Z4,y,e4,r4,r5,a5⟩:=a2 u G3 H3 e3 s3 r3;exact i v u H3 G4 Z4 x y e4 r4 r5 a5
theorem tM.one{K:Frag}{B G0:Hp}{α β γ δ:Type}{R:Hp->γ->α->Prop}{S:Hp->δ->β->Prop}{σ:St}{H:Hp}{f:M α}{k:α->M β}{Q:δ->Hp->Prop}{P:γ->Hp->Prop}
  (h:tM K B G0 S (Kn f k) σ H Q) (i:∀v H2 G Z x,EOk K B G0 G H2 σ Z->R G v x->aft K B G0 S (k x Z) G σ Q->P v H2):tM K B G0 R f σ H P:=by
 obtain⟨G,Z,e,a⟩:=tM.bind (R:=R) h;refine⟨G,Z,e,?_⟩;cases q:f Z with
 |bad=>rw[q]at a;exact a.elim
 |ok d Z1=>rw[q]at a;intro v G' H' e' s r;obtain⟨G2,Z2,d2,e2,r2,a2⟩:=a v G' H' e' s r;exact i v H' G2 Z2 d2 e2 r2 a2
section
variable{X:Cx}{B G0:Hp}{e a b:UF}{pos:Pos}
theorem KG{t t':TE}(h:PE X e t)(i:∀σ H Q,t' σ H Q->t σ H Q):PE X e t':=λpins s σ H Q I q=>h pins s σ H Q I (i σ H Q q)
theorem YK{t t':TT}(h:PT X e t)(i:∀σ H Q,t' σ H Q->t σ H Q):PT X e t':=λpins s σ H Q I q=>h pins s σ H Q I (i σ H Q q)
theorem paof{es:xp}{t t':TA}(h:PA X es t)(i:∀σ H Q,t' σ H Q->t σ H Q):PA X es t':=λps pins s σ H Q I q=>h ps pins s σ H Q I (i σ H Q q)
theorem poof{eo:Option UF}{t t':TO}(h:PO X eo t)(i:∀σ H Q,t' σ H Q->t σ H Q):PO X eo t':=λpins s σ H Q I q=>h pins s σ H Q I (i σ H Q q)
theorem ZL{st:Stmt}{t t':TS}(h:PS X st t)(i:∀D σ H,t' D σ H->t D σ H):PS X st t':=λpins s σ H D I q=>h pins s σ H D I (i D σ H q)
theorem NX{st:List Stmt}{t t':TS}(h:PSs X st t)(i:∀D σ H,t' D σ H->t D σ H):PSs X st t':=λpins s σ H D I q=>h pins s σ H D I (i D σ H q)
noncomputable def UZ(i:Nat):M D:=λZ=>match Z[i]? with
 |some (O (.pub d))=>.ok d Z
 |some (O (.own ds))=>.ok (.list ds) (Z.set i (O (.pub (.list ds))))
 |_=>.bad
theorem Ym{i:Nat}(h:PE X e (Zy i)):PE X e (tD X.K B G0 (UZ i)):=KG h λσ H Q ⟨G,Z,k,a⟩=>by
 unfold UZ at a;cases q:Z[i]? with
 |none=>rw[q]at a;exact a.elim
 |some o=>
  cases o with
  |none=>rw[q]at a;exact a.elim
  |some sl=>
   cases sl with
   |deep _ _=>rw[q]at a;exact a.elim
   |pub d=>rw[q]at a;obtain⟨v,h1,h2⟩:=k.pub i d q;exact⟨v,h1,a.now k h2⟩
   |own ds=>rw[q]at a;obtain⟨ad,G',h1,h2,h3,h4⟩:=k.publish q;exact⟨.ref ad,h1,a (.ref ad) G' H h4 h2 h3⟩
theorem R4{v:V}{d:D}(h:PE X e (tC v))(r:∀G,Rep X.K G v d):PE X e (tD X.K B G0 (U5 d)):=KG h λσ H Q ⟨G,Z,k,a⟩=>a.now k (r G)
theorem N3{i:Int}{j}:PE X (.Constant (.int i) j pos) (tD X.K B G0 (U5 (.int i))):=R4 EQ λ_=>.int i
theorem D1{i:Bool}{j}:PE X (.Constant (.bool i) j pos) (tD X.K B G0 (U5 (.bool i))):=R4 EG λ_=>.bl i
theorem D0{j}:PE X (.Constant .none j pos) (tD X.K B G0 (U5 .none)):=R4 EO λ_=>.non
theorem DC{x:Str}{j}:PE X (.Constant (.str x) j pos) (tD X.K B G0 (U5 (.str x))):=R4 EN λ_=>.str x
noncomputable def U6{β:Type}(op:D->D->Option β)(f g:M D):M β:=Kn f λx=>Kn g λy=>Ko (op x y)
def OpD(X:Cx)(f:UA->UA->Sem UA)(op:D->D->xn):Prop:=
 ∃r:R2,OpR X f r/\∀v u G H x y d Q,Same G H->Rep X.K G v x->Rep X.K G u y->op x y=O d->(∀w G' H',Ext G H G' H'->Rep X.K G' w d->Q w H')->r v u H Q
theorem Vq{op:Operator}{p:D->D->xn}{f g:M D}(o:OpD X (binaryOp op) p)(ha:PE X a (tD X.K B G0 f))(hb:PE X b (tD X.K B G0 g)):PE X (.BinOp a op b pos) (tD X.K B G0 (U6 p f g)):=by
 obtain⟨r,h,i⟩:=o;refine KG (NV h ha hb) λσ H Q q=>?_;refine tM.two q λv u H2 G Z x y k rx ry a=>?_
 obtain⟨d,e,a⟩:=a.opt;exact i v u G H2 x y d Q k.gh rx ry e λw G' H' ex rw=>a.done k ex rw
theorem OpD.or{f:UA->UA->Sem UA}{p q:D->D->xn}(h:OpD X f p)(h':OpD X f q):OpD X f (λx y=>(p x y).orElse λ_=>q x y):=by
 obtain⟨r,h1,i1⟩:=h;obtain⟨r',h2,i2⟩:=h';refine⟨_,h1.or h2,λv u G H x y d Q s rx ry e k=>?_⟩;dsimp only at e;cases z:p x y with
 |some d'=>rw[z]at e;have e':d'=d:=Q5 e;subst e';exact .inl (i1 v u G H x y d' Q s rx ry z k)
 |none=>rw[z]at e;exact .inr (i2 v u G H x y d Q s rx ry e k)
noncomputable def oII(g:Int->Int->xn):D->D->xn
 |.int i,.int j=>g i j
 |_,_=>xg
theorem Lk{g:Int->Int->xn}{x y d:D}(e:oII g x y=O d):∃i j,x=.int i/\y=.int j/\g i j=O d:=by
 unfold oII at e;split at e
 .exact⟨_,_,rfl,rfl,e⟩
 .cases e
theorem OpD.int{f:UA->UA->Sem UA}{C:Int->Int->Prop}{g:Int->Int->V}{p:Int->Int->xn}(h:OpR X f (rI C g))(i:∀i j d,p i j=O d->C i j/\∀G,Rep X.K G (g i j) d):OpD X f (oII p):=by refine⟨_,h,λv u G H x y d Q s rx ry e k=>?_⟩;obtain⟨a,b,rfl,rfl,e⟩:=Lk e;obtain⟨c,r⟩:=i a b d e;exact⟨a,b,rx.int_inv,ry.int_inv,c,k _ G H (.refl s) (r G)⟩
theorem OpD.int0{f:UA->UA->Sem UA}{g:Int->Int->V}{p:Int->Int->D}(h:OpR X f (rI0 g))(i:∀i j G,Rep X.K G (g i j) (p i j)):OpD X f (oII λi j=>O (p i j)):=by refine⟨_,h,λv u G H x y d Q s rx ry e k=>?_⟩;obtain⟨a,b,rfl,rfl,e⟩:=Lk e;cases e;exact⟨a,b,rx.int_inv,ry.int_inv,k _ G H (.refl s) (i a b G)⟩
end
section
variable{X:Cx}{B G0:Hp}{e a b c:UF}{pos:Pos}
theorem DB:OpD X (binaryOp .Add) (oII λi j=>O (.int (i+j))):=.int0 Dj λ_ _ _=>.int _
theorem DA:OpD X (binaryOp .Sub) (oII λi j=>O (.int (i-j))):=.int0 Di λ_ _ _=>.int _
noncomputable def YB(i j:Int):xn:=if(-(2 ^ 64)<i/\i<2 ^ 64)∨(-(2 ^ 64)<j/\j<2 ^ 64)then O (.int (i*j))else xg
theorem DZ:OpD X (binaryOp .Mult) (oII YB):=.int Dh λi j d h=>by
 unfold YB at h;split at h
 .rename_i c
  cases h;exact⟨c,λ_=>.int _⟩
 .cases h
noncomputable def WP(i j:Int):xn:=if 0<j then O (.int (i % j))else xg
theorem Dy:OpD X (binaryOp .Mod) (oII WP):=.int Dg λi j d h=>by
 unfold WP at h;split at h
 .rename_i c
  cases h;exact⟨c,λ_=>.int _⟩
 .cases h
theorem BA:OpR X (binaryOp .FloorDiv) (rI (λi j=>0<j/\j<2 ^ 64) λi j=>.int (i / j)):=opI λi j _ _ _ _ _ hc q=>by
 have h1:(0:Int)<j:=hc.1;have h2:j<2 ^ 64:=hc.2;refine floordiv_int (by omega) (by rw[Int.fdiv_eq_ediv_of_nonneg i (by omega)];exact q) (.inl (PyProof.noPylong_of_log2 ?_));have h0:j.natAbs≠0:=by omega
 have:j.natAbs.log2<64:=(Nat.log2_lt h0).mpr (by omega);omega
noncomputable def WQ(i j:Int):xn:=if 0<j/\j<2 ^ 64 then O (.int (i / j))else xg
theorem Dx:OpD X (binaryOp .FloorDiv) (oII WQ):=.int BA λi j d h=>by
 unfold WQ at h;split at h
 .rename_i c
  cases h;exact⟨c,λ_=>.int _⟩
 .cases h
noncomputable def WO(i j:Int):xn:=if 0<=j/\j<=1000000/\i.natAbs<2 ^ 64 then O (.int (i ^ j.toNat))else xg
theorem Dw:OpD X (binaryOp .Pow) (oII WO):=.int Df λi j d h=>by
 unfold WO at h;split at h
 .rename_i c
  cases h;exact⟨c,λ_=>.int _⟩
 .cases h
theorem lim:(1000000:Nat)<=UG:=by decide
noncomputable def RT:D->D->xn
 |.str x,.str y=>if x.length+y.length<=1000000 then O (.str (x++y))else xg
 |_,_=>xg
theorem DY:OpD X (binaryOp .Add) RT:=by
 refine⟨_,jn,λv u G H x y d Q s rx ry e k=>?_⟩;unfold RT at e;split at e
 .split at e
  .rename_i c
   cases e;exact⟨_,_,rx.str_inv,ry.str_inv,QR c lim,k _ G H (.refl s) (.str _)⟩
  .cases e
 .cases e
noncomputable def Fa(K:Frag):R2:=λx y H Q=>∃l b xs zs,x=.ref l/\y=.ref b/\SqL K H l xs/\SqL K H b zs/\xs.length+zs.length<=UG/\∀p,H p=xg->Q (.ref p) (upd H p (.lst (xs++zs)))
theorem DX:OpR X (binaryOp .Add) (Fa X.K):=by
 intro pins s σ H x y v u Q I rx ry h;obtain⟨l,b,xs,zs,rfl,rfl,hH,hB,hz,q⟩:=h;cases rx;cases ry;obtain⟨its,r,⟨⟨c1,d1,t1,s1⟩,n1,e1,wG,wF,wE⟩,z1⟩:=I.list hH;obtain⟨its2,r2,⟨⟨c2,d2,t2,s2⟩,n2,e2,ec2,ed2,et2⟩,z2⟩:=I.list hB;simp only at wG wF wE ec2 ed2 et2;subst wG wF wE ec2 ed2 et2;have hl:=r.length;have hl2:=r2.length;refine concat_meets ⟨_,e1,rfl⟩ ⟨_,e2,rfl⟩ noFill_list_add seq_list_add PySem.F.slot_list_add PySem.F.entry_list_add (PySem.F.args_list_add_2 _ _) (list_addW l b its.toArray its2.toArray n1 n2 xg xg s1 s2 (by rw[QJ,QJ];omega)) ⟨e1,e2,?_⟩;have ea:its.toArray++its2.toArray=(its++its2).toArray:=by simp
 rw[ea];exact⟨.ref _,_,I.lnew (t':=s.toks) (r.append r2) (by rw[Qm];omega),rfl,q _ I.fresh⟩
theorem GZ(a:Int)(t:Tok)(l:UD)(items:Array UA)(n:Nat)(sl:Array xr) :
  Meets (Builtin.«int.__rmul__» ⟨[.int a t,.ref l],[]⟩) (λ_ R s=>s.heap.get? l=O {cls:=.type "list", dict:=xg,data:=.seq items n,slots:=sl}/\R (.ok (.ret Value.notImplemented)) s):=
 .of_wp λprog w A R s h=>by obtain⟨hp,g,d,tk,os⟩:=s;obtain⟨hl,h⟩:=h;wp_walk;exact⟨_,rfl,h⟩
theorem mulW(l:UD)(items:Array UA)(n:Nat)(x:Int)(u:Tok)(sl:Array xr)(hc0:¬(!Builtin.List.listFitsIndex x)=xi)(hc1:¬items.size*x.toNat > (2 ^ 63-1) / 8)(hc2:¬Builtin.List.listTooLong (items.size*x.toNat)=xi) :
  Meets (Builtin.«list.__mul__» ⟨[.ref l,.int x u],[]⟩) (λ_ R s=>s.heap.get? l=O {cls:=.type "list", dict:=xg,data:=.seq items n,slots:=sl}/\R (.ok (.ret (Value.ref s.heap.objs.size))) {s with heap:=s.heap.push {cls:=Value.type "list", data:=Data.seq (List.foldl (λx1 x2=>x1++x2) #[] (UL (if items.isEmpty=xi then 0 else x.toNat) items))},toks:=s.toks}):=
 .of_wp λprog w A R s h=>by
  obtain⟨hp,g,d,tk,os⟩:=s;obtain⟨hl,h⟩:=h;have hsz:=AutoListH.joined_fits hc2
  wp_walk;refine wpAny_ite_false (QI (Nat.not_lt.mpr hsz)) ?_;wp_walk;exact⟨_,rfl,h⟩
noncomputable def GY(K:Frag):R2:=λx y H Q=>∃l k xs,x=.ref l/\y=.int k/\SqL K H l xs /\ -(2 ^ 63)<=k/\k<2 ^ 63/\xs.length*k.toNat<=UG /\
 ∀p,H p=xg->Q (.ref p) (upd H p (.lst (UL k.toNat xs).flatten))
theorem Lj:OpR X (binaryOp .Mult) (GY X.K):=by
 intro pins s σ H x y v u Q I rx ry h;obtain⟨l,k,xs,rfl,rfl,hH,h1,h2,hz,q⟩:=h;cases rx;obtain⟨t,rfl⟩:=ry;obtain⟨its,r,⟨⟨c1,d1,t1,sl⟩,n,e,wG,wF,wE⟩,z⟩:=I.list hH;simp only at wG wF wE;subst wG wF wE;have hl:=r.length;have hlen:its.toArray.size*k.toNat<=UG:=by rw[QJ,←hl];exact hz
 have hcap:¬its.toArray.size*k.toNat > (2 ^ 63-1) / 8:=by
  have:(UG:Nat)<=(2 ^ 63-1) / 8:=by decide
  omega
 have hfit:¬(!Builtin.List.listFitsIndex k)=xi:=by rw[fitsIndex_both h1 h2];exact JO
 have wn:¬Builtin.List.listTooLong (its.toArray.size*k.toNat)=xi:=by rw[AI hlen];exact JO
 have hnew:List.foldl (λx1 x2=>x1++x2) #[] (UL (if its.toArray.isEmpty=xi then 0 else k.toNat) its.toArray)=(UL k.toNat its).flatten.toArray:=by
  have f0:∀m:Nat,List.foldl (λx1 x2=>x1++x2) #[] (UL m its.toArray)=(UL m its).flatten.toArray:=λm=>by have:=HC its m [];rw[Jn]at this;exact this
  rw[f0];cases its with
  |nil=>simp
  |cons a r'=>rw[if_neg (by simp)]
 refine wpAny_binaryOp_repeat_ref (T:= "list") (U:= "int") (by decide) ⟨_,e,rfl⟩ (λs'=>typeIs_int s' k t) noFill_list_mul F.fills_int_mul F.slot_int_rmul repeat_list F.slot_int_index.lookup
  (call_meets F.slot_int_rmul (typeIs_int s k t) F.entry_int_rmul (F.args_int_rmul_2 _ _) (GZ k t l its.toArray n sl)
   ⟨e,rfl,⟨_,e,rfl⟩,call_meets F.slot_list_mul ⟨_,e,rfl⟩ F.entry_list_mul (F.args_list_mul_2 _ _) (mulW l its.toArray n k t sl hfit hcap wn) ⟨e,?_⟩⟩)
 rw[hnew];exact⟨.ref _,_,I.lnew (t':=s.toks) (r.rep k.toNat) (by rw[C6,Nat.mul_comm];exact hz),rfl,q _ I.fresh⟩
noncomputable def RS:D->D->xn
 |.list x,.list y=>if x.length+y.length<=1000000 then O (.list (x++y))else xg
 |_,_=>xg
theorem DW:OpD X (binaryOp .Add) RS:=by
 refine⟨_,DX,λv u G H x y d Q s rx ry e k=>?_⟩;unfold RS at e;split at e
 .split at e
  .rename_i c
   cases e;obtain⟨l,vs,rfl,h1,r1⟩:=rx.lst_inv;obtain⟨b,ws,rfl,h2,r2⟩:=ry.lst_inv;refine⟨l,b,vs,ws,rfl,rfl,s.seq h1,s.seq h2,by rw[r1.length,r2.length];exact QR c lim,λp hp=>k _ _ _ (Ext.new s hp) ?_⟩;exact .lst (SqL.of ZU) ((r1.append r2).mono (ZT (s.free hp)))
  .cases e
 .cases e
theorem Reps.rep{K:Frag}{G:Hp}{vs:List V}{ds:xk}(r:Reps K G vs ds):∀n:Nat,Reps K G (UL n vs).flatten (UL n ds).flatten
 |0=>.nil
 |n+1=>by rw[Q0,Q0,QP,QP];exact r.append (r.rep n)
noncomputable def RR:D->D->xn
 |.list x,.int k=>if -1000000<=k/\k<=1000000/\x.length*k.toNat<=1000000 then O (.list (UL k.toNat x).flatten)else xg
 |_,_=>xg
theorem DV:OpD X (binaryOp .Mult) RR:=by
 refine⟨_,Lj,λv u G H x y d Q s rx ry e k=>?_⟩;unfold RR at e;split at e
 .split at e
  .rename_i c
   cases e;obtain⟨l,vs,rfl,h1,r1⟩:=rx.lst_inv;refine⟨l,_,vs,rfl,ry.int_inv,s.seq h1,by omega,by omega,by rw[r1.length];exact QR c.2.2 lim,λp hp=>k _ _ _ (Ext.new s hp) ?_⟩;exact .lst (SqL.of ZU) ((r1.rep _).mono (ZT (s.free hp)))
  .cases e
 .cases e
noncomputable def Kf:D->D->xn
 |.int i,.int j=>O (.int (i+j))
 |.str x,.str y=>if x.length+y.length<=1000000 then O (.str (x++y))else xg
 |.list x,.list y=>if x.length+y.length<=1000000 then O (.list (x++y))else xg
 |_,_=>xg
noncomputable def Zc:D->D->xn
 |.int i,.int j=>O (.int (i-j))
 |_,_=>xg
noncomputable def KJ:D->D->xn
 |.int i,.int j=>YB i j
 |.list x,.int k=>if -1000000<=k/\k<=1000000/\x.length*k.toNat<=1000000 then O (.list (UL k.toNat x).flatten)else xg
 |_,_=>xg
noncomputable def YA:D->D->xn
 |.int i,.int j=>WP i j
 |_,_=>xg
noncomputable def X5:D->D->xn
 |.int i,.int j=>WQ i j
 |_,_=>xg
noncomputable def X4:D->D->xn
 |.int i,.int j=>WO i j
 |_,_=>xg
theorem OpD.congr{f:UA->UA->Sem UA}{p q:D->D->xn}(h:OpD X f p)(e:∀x y,q x y=p x y):OpD X f q:=by
 have:q=p:=by funext x y;exact e x y
 rw[this];exact h
theorem NW:OpD X (binaryOp .Add) Kf:=(DB.or (DY.or DW)).congr λx y=>by cases x<;>cases y<;>first|rfl|(simp only[Kf,oII,RT,RS,Option.orElse];done)|(simp only[Kf,oII,RT,RS,Option.orElse];split<;>rfl)
theorem NJ:OpD X (binaryOp .Sub) Zc:=DA.congr λx y=>by cases x<;>cases y<;>rfl
theorem NI:OpD X (binaryOp .Mult) KJ:=(DZ.or DV).congr λx y=>by cases x<;>cases y<;>first|rfl|(simp only[KJ,oII,RR,Option.orElse];done)|(simp only[KJ,oII,RR,Option.orElse];split<;>first|rfl|assumption)
theorem GX:OpD X (binaryOp .Mod) YA:=Dy.congr λx y=>by cases x<;>cases y<;>rfl
theorem GW:OpD X (binaryOp .FloorDiv) X5:=Dx.congr λx y=>by cases x<;>cases y<;>rfl
theorem GV:OpD X (binaryOp .Pow) X4:=Dw.congr λx y=>by cases x<;>cases y<;>rfl
end
section
variable{X:Cx}{B G0:Hp}{e a b c:UF}{pos:Pos}
def OpB(X:Cx)(f:UA->UA->Sem UA)(op:D->D->xy):Prop:=
 ∃r:R2,OpR X f r/\∀v u G H x y d Q,Same G H->Rep X.K G v x->Rep X.K G u y->op x y=O d->Q (.bl d) H->r v u H Q
theorem OpB.or{f:UA->UA->Sem UA}{p q:D->D->xy}(h:OpB X f p)(h':OpB X f q):OpB X f (λx y=>(p x y).orElse λ_=>q x y):=by
 obtain⟨r,h1,i1⟩:=h;obtain⟨r',h2,i2⟩:=h';refine⟨_,h1.or h2,λv u G H x y d Q s rx ry e k=>?_⟩;dsimp only at e;cases z:p x y with
 |some d'=>rw[z]at e;have e':d'=d:=Q5 e;subst e';exact .inl (i1 v u G H x y d' Q s rx ry z k)
 |none=>rw[z]at e;exact .inr (i2 v u G H x y d Q s rx ry e k)
theorem OpB.congr{f:UA->UA->Sem UA}{p q:D->D->xy}(h:OpB X f p)(e:∀x y,q x y=p x y):OpB X f q:=by
 have:q=p:=by funext x y;exact e x y
 rw[this];exact h
theorem Ou{op:CmpOp}{p:D->D->xy}{f g:M D}(o:OpB X (UJ op) p)(ha:PE X a (tD X.K B G0 f))(hb:PE X b (tD X.K B G0 g))(hm:behindInMarks op b=xj) :
  PT X (.Compare a [op] [b] pos) (tBo X.K B G0 (U6 p f g)):=by
 obtain⟨r,h,i⟩:=o;refine YK (Ox h ha hb hm) λσ H Q q=>?_;refine tM.two q λv u H2 G Z x y k rx ry a=>?_
 obtain⟨d,e,a⟩:=a.opt;exact i v u G H2 x y d _ k.gh rx ry e ⟨d,rfl,a.now k xf⟩
noncomputable def Ke{α β:Type}(h:α->β)(f:M α):M β:=Kn f λx=>U5 (h x)
theorem tM.map{K:Frag}{α β γ δ:Type}{R:Hp->γ->α->Prop}{S:Hp->δ->β->Prop}{σ:St}{H:Hp}{h:α->β}{f:M α}{Q:δ->Hp->Prop}(j:γ->δ)(q:tM K B G0 S (Ke h f) σ H Q)
  (i:∀G v x,R G v x->S G (j v) (h x)):tM K B G0 R f σ H (λv H'=>Q (j v) H'):=
 tM.one (R:=R) (f:=f) q λv H2 G Z x k r a=>aft.now (show aft K B G0 S (.ok (h x) Z) G σ Q from a) k (i G v x r)
theorem tBo.val{K:Frag}{σ:St}{H:Hp}{f:M Bool}{Q:VK}(q:tD K B G0 (Ke UN f) σ H Q):tBo K B G0 f σ H (λb H'=>Q (.bl b) H'):=
 tM.map (R:=λ_ b c=>b=c) V.bl q λG v x e=>by rw[e];exact .bl x
theorem DU{op:CmpOp}{p:D->D->xy}{f g:M D}(o:OpB X (UJ op) p)(ha:PE X a (tD X.K B G0 f))(hb:PE X b (tD X.K B G0 g))(hm:behindInMarks op b=xj) :
  PE X (.Compare a [op] [b] pos) (tD X.K B G0 (Ke UN (U6 p f g))):=by
 obtain⟨r,h,i⟩:=o;refine KG (Oy h ha hb hm) λσ H Q q=>?_;refine tM.two (tBo.val q) λv u H2 G Z x y k rx ry a=>?_
 obtain⟨d,e,a⟩:=a.opt;exact i v u G H2 x y d _ k.gh rx ry e (a.now k xf)
noncomputable def VW(p q:D->D->xy)(f g h:M D):M Bool:=Kn f λx=>Kn g λy=>Kn (Ko (p x y)) λt=>if t=xi then Kn h λz=>Ko (q y z)else U5 xj
theorem qm{op op':CmpOp}{p q:D->D->xy}{f g h:M D}(o:OpB X (UJ op) p)(o':OpB X (UJ op') q)(ha:PE X a (tD X.K B G0 f))(hb:PE X b (tD X.K B G0 g))(hc:PE X c (tD X.K B G0 h))
  (hm:lastMarks [op,op'] [b,c]=xj:=by with_unfolding_all rfl):PT X (.Compare a [op,op'] [b,c] pos) (tBo X.K B G0 (VW p q f g h)):=by
 obtain⟨r,h1,i⟩:=o;obtain⟨r',h2,i'⟩:=o';refine YK (AN h1 h2 ha hb hc hm) λσ H Q w=>?_;refine tM.two w λv u H2 G Z x y k rx ry a=>?_
 cases z:p x y with
 |none=>rw[z]at a;exact a.elim
 |some t=>
  rw[z]at a;refine i v u G H2 x y t _ k.gh rx ry z ⟨t,rfl,?_⟩;cases t with
  |false=>rw[Qv JO];exact⟨xj,rfl,aft.now a k xf⟩
  |true=>
   rw[Qo xf];refine⟨G,Z,k,?_⟩;have a4:aft X.K B G0 (λ_ (b:Bool) c=>b=c) ((Kn h λz=>Ko (q y z)) Z) G σ Q:=a;unfold Kn at a4;cases z2:h Z with
   |bad=>rw[z2]at a4;exact a4.elim
   |ok d Z1=>rw[z2]at a4;intro w G5 H5 k5 s5 r5;obtain⟨t2,e2,a6⟩:=a4.opt;exact i' u w G5 H5 y d t2 _ k5.gh (ry.mono s5) r5 e2 ⟨t2,rfl,a6 t2 G5 H5 k5 s5 xf⟩
theorem ql{op op':CmpOp}{p q:D->D->xy}{f g h:M D}(o:OpB X (UJ op) p)(o':OpB X (UJ op') q)(ha:PE X a (tD X.K B G0 f))(hb:PE X b (tD X.K B G0 g))(hc:PE X c (tD X.K B G0 h))
  (hm:lastMarks [op,op'] [b,c]=xj:=by with_unfolding_all rfl):PE X (.Compare a [op,op'] [b,c] pos) (tD X.K B G0 (Ke UN (VW p q f g h))):=by
 obtain⟨r,h1,i⟩:=o;obtain⟨r',h2,i'⟩:=o';refine KG (AO h1 h2 ha hb hc hm) λσ H Q w=>?_;refine tM.two (tBo.val w) λv u H2 G Z x y k rx ry a=>?_
 cases z:p x y with
 |none=>rw[z]at a;exact a.elim
 |some t=>
  rw[z]at a;refine i v u G H2 x y t _ k.gh rx ry z ⟨t,rfl,?_⟩;cases t with
  |false=>rw[Qv JO];exact aft.now (v:=xj) a k xf
  |true=>
   rw[Qo xf];refine⟨G,Z,k,?_⟩;have a4:aft X.K B G0 (λ_ (b:Bool) c=>b=c) ((Kn h λz=>Ko (q y z)) Z) G σ (λb H'=>Q (.bl b) H'):=a;unfold Kn at a4;cases z2:h Z with
   |bad=>rw[z2]at a4;exact a4.elim
   |ok d Z1=>rw[z2]at a4;intro w G5 H5 k5 s5 r5;obtain⟨t2,e2,a6⟩:=a4.opt;exact i' u w G5 H5 y d t2 _ k5.gh (ry.mono s5) r5 e2 (a6 t2 G5 H5 k5 s5 xf)
noncomputable def oIB(g:Int->Int->Bool):D->D->xy
 |.int i,.int j=>O (g i j)
 |_,_=>xg
theorem OpB.int{f:UA->UA->Sem UA}{g:Int->Int->Bool}(h:OpR X f (rI0 λi j=>.bl (g i j))):OpB X f (oIB g):=by
 refine⟨_,h,λv u G H x y d Q s rx ry e k=>?_⟩;unfold oIB at e;split at e
 .cases e
  exact⟨_,_,rx.int_inv,ry.int_inv,k⟩
 .cases e
theorem B_lt:OpB X (UJ .Lt) (oIB λi j=>decide (i<j)):=.int Fn
theorem B_le:OpB X (UJ .LtE) (oIB λi j=>decide (i<=j)):=.int Fm
theorem B_gt:OpB X (UJ .Gt) (oIB λi j=>decide (j<i)):=.int Fl
theorem B_ge:OpB X (UJ .GtE) (oIB λi j=>decide (j<=i)):=.int Fk
mutual
theorem YW{pins:List (UD×Obj)}{s:UB}{σ:St}{G H:Hp}(I:Inv X pins σ H s)(sg:Same G H):∀{v:V}{d:D}{u:UA},Rep X.K G v d->RelV v u->d.canLay0=xi->∃as,Reads s.heap u d as
 |_,_,_,.non,r,_=>by cases r;exact⟨_,.none⟩
 |_,_,_,.bl b,r,_=>by cases r;exact⟨_,.bool b⟩
 |_,_,_,.int i,r,_=>by obtain⟨t,rfl⟩:=r;exact⟨_,.int i t⟩
 |_,_,_,.str x,r,_=>by obtain⟨t,rfl⟩:=r;exact⟨_,.str x t⟩
 |_,_,_,.lst h q,r,c=>by cases r;obtain⟨its,rv,⟨o,n,e,hc,_,hd⟩,hz⟩:=I.list (sg.seq h);obtain⟨as,ra⟩:=readsAll_of I sg q rv (show UQ _=xi by simpa[PyData.canLay0]using c);exact⟨_,.list e hc hd (by simpa using ra)⟩
 |_,_,_,.tup h q,r,c=>by cases r;obtain⟨its,rv,p,hz⟩:=I.tuple (Y6 sg h);obtain⟨o,e,hc,n,hd⟩:=p;obtain⟨as,ra⟩:=readsAll_of I sg q rv (show UQ _=xi by simpa[PyData.canLay0]using c);exact⟨_,.tuple e hc hd (by simpa using ra)⟩
 |_,_,_,.dic h,r,c=>by simp[PyData.canLay0]at c
 |_,_,_,.exc _ _ _ _,r,c=>by simp[PyData.canLay0]at c
 |_,_,_,.dct _ _ _ _ _,r,c=>by simp[PyData.canLay0]at c
 |_,_,_,.dtt _ _ _ _,r,c=>by simp[PyData.canLay0]at c
theorem readsAll_of{pins:List (UD×Obj)}{s:UB}{σ:St}{G H:Hp}(I:Inv X pins σ H s)(sg:Same G H):∀{vs:List V}{ds:xk}{us:xo},Reps X.K G vs ds->Vals vs us->UQ ds=xi->∃as,ReadsAll s.heap us ds as
 |_,_,_,.nil,r,_=>by cases r;exact⟨_,.nil⟩
 |_,_,_,.cons h t,r,c=>by
  cases r with
  |cons r1 r2=>have c':=c;rw[UQ,Jh]at c';obtain⟨as,ra⟩:=YW I sg h r1 c'.1;obtain⟨bs,rb⟩:=readsAll_of I sg t r2 c'.2;exact⟨_,.cons ra rb⟩
end
noncomputable def oEq(x y:D):xy:=if x.canLay0=xi/\y.canLay0=xi/\x.depth<=60 then O (US x y)else xg
noncomputable def oNe(x y:D):xy:=if x.canLay0=xi/\y.canLay0=xi/\x.depth<=60 then O (!US x y)else xg
theorem B_eq(hu:X.A.units+64<cLine):OpB X (UJ .Eq) oEq:=by
 refine⟨λv u H Q=>∃G x y d,Same G H/\Rep X.K G v x/\Rep X.K G u y/\oEq x y=O d/\Q (.bl d) H,?_,λv u G H x y d Q s rx ry e k=>⟨G,x,y,d,s,rx,ry,e,k⟩⟩;intro pins s σ H x y v u Q I rx ry ⟨G,dx,dy,d,sg,px,py,e,q⟩;unfold oEq at e;split at e
 .rename_i c
  cases e;obtain⟨as,ra⟩:=YW I sg px rx c.1;obtain⟨bs,rb⟩:=YW I sg py ry c.2.1;exact SeqAt.compareEq_reads ra rb c.1 c.2.1 (by have:=c.2.2;omega) ⟨.bl _,H,I,rfl,q⟩
 .cases e
theorem B_ne(hu:X.A.units+64<cLine):OpB X (UJ .NotEq) oNe:=by
 refine⟨λv u H Q=>∃G x y d,Same G H/\Rep X.K G v x/\Rep X.K G u y/\oNe x y=O d/\Q (.bl d) H,?_,λv u G H x y d Q s rx ry e k=>⟨G,x,y,d,s,rx,ry,e,k⟩⟩;intro pins s σ H x y v u Q I rx ry ⟨G,dx,dy,d,sg,px,py,e,q⟩;unfold oNe at e;split at e
 .rename_i c
  cases e;obtain⟨as,ra⟩:=YW I sg px rx c.1;obtain⟨bs,rb⟩:=YW I sg py ry c.2.1;exact SeqAt.compareNe_reads ra rb c.1 c.2.1 (by have:=c.2.2;omega) ⟨.bl _,H,I,rfl,q⟩
 .cases e
noncomputable def isNon:D->Bool
 |.none=>xi
 |_=>xj
theorem Rep.isNon{K:Frag}{G:Hp}{v:V}{d:D}(r:Rep K G v d):DL.isNon d=decide (v=.non):=by cases r<;>simp[DL.isNon]
end
section
variable{X:Cx}{B G0:Hp}{e a b c:UF}{pos:Pos}{es rest:xp}
theorem tM.nx{K:Frag}{α β γ δ:Type}{R:Hp->γ->α->Prop}{S:Hp->δ->β->Prop}{σ:St}{G H:Hp}{Z:U0}{f:M α}{g:α->M β}{Q:δ->Hp->Prop}{P:γ->Hp->Prop}
  (k:EOk K B G0 G H σ Z) (a:aft K B G0 S (Kn f g Z) G σ Q) (i:∀v H' G' Z' x,EOk K B G0 G' H' σ Z'->Same G G'->R G' v x->aft K B G0 S (g x Z') G' σ Q->P v H'):tM K B G0 R f σ H P:=by
 refine⟨G,Z,k,?_⟩;unfold Kn at a;cases q:f Z with
 |bad=>rw[q]at a;exact a.elim
 |ok d Z1=>rw[q]at a;exact λv G' H' e s r=>i v H' G' Z1 d e s r (aft.mono s a)
noncomputable def Yc(f g:M Bool):M Bool:=Kn f λt=>if t=xi then g else U5 xj
noncomputable def mOr(f g:M Bool):M Bool:=Kn f λt=>if t=xi then U5 xi else g
noncomputable def Zd(f:M Bool):M Bool:=Ke (λt=>!t) f
theorem DT{K:Frag}{f g:M Bool}{σ:St}{H:Hp}{Q:Bool->Hp->Prop}(q:tBo K B G0 (Yc f g) σ H Q):tAnd (tBo K B G0 f) (tBo K B G0 g) σ H Q:=
 tM.one (R:=λ_ b c=>b=c) q λv H2 G Z x k r a=>by
  have r:v=x:=r;subst r;cases v with
  |true=>exact⟨G,Z,k,a⟩
  |false=>exact aft.now (v:=xj) a k xf
theorem Ef{K:Frag}{f g:M Bool}{σ:St}{H:Hp}{Q:Bool->Hp->Prop}(q:tBo K B G0 (mOr f g) σ H Q):tOr (tBo K B G0 f) (tBo K B G0 g) σ H Q:=
 tM.one (R:=λ_ b c=>b=c) q λv H2 G Z x k r a=>by
  have r:v=x:=r;subst r;cases v with
  |false=>exact⟨G,Z,k,a⟩
  |true=>exact aft.now (v:=xi) a k xf
theorem pwof{t t':TT}(h:PW X e t)(i:∀σ H Q,t' σ H Q->t σ H Q):PW X e t':=λwh pins s σ H Q I q=>h wh pins s σ H Q I (i σ H Q q)
theorem Bz{f:M Bool}(ha:PT X a (tBo X.K B G0 f)):PW X (.BoolOp .And [a] pos) (tBo X.K B G0 f):=CZ ha
theorem DS{f:M Bool}(ha:PT X a (tBo X.K B G0 f)):PW X (.BoolOp .Or [a] pos) (tBo X.K B G0 f):=EK ha
theorem DR{f g:M Bool}(ha:PT X a (tBo X.K B G0 f))(hb:PW X (.BoolOp .And (b::rest) pos) (tBo X.K B G0 g)):PW X (.BoolOp .And (a::b::rest) pos) (tBo X.K B G0 (Yc f g)):=pwof (EJ ha hb) λ_ _ _ q=>DT q
theorem Ee{f g:M Bool}(ha:PT X a (tBo X.K B G0 f))(hb:PW X (.BoolOp .Or (b::rest) pos) (tBo X.K B G0 g)):PW X (.BoolOp .Or (a::b::rest) pos) (tBo X.K B G0 (mOr f g)):=pwof (EE ha hb) λ_ _ _ q=>Ef q
theorem DQ{f:M Bool}(ha:PT X a (tBo X.K B G0 f)):PT X (.UnaryOp .Not a pos) (tBo X.K B G0 (Zd f)):=YK (Dv ha) λσ H Q q=>tM.map (R:=λ_ b c=>b=c) (λt=>!t) q λ_ v x e=>by rw[e]
noncomputable def Yg(f:M D):M Bool:=Kn f λx=>match x with | .bool t=>U5 t|_=>λ_=>.bad
theorem DP{f:M D}(h:PE X e (tD X.K B G0 f))(he:∀whole,isTrue e X.env whole=(do let v ←whole;standAt e.pos;holding [v] (truthy v)):=by intro _;rfl):PT X e (tBo X.K B G0 (Yg f)):=
 YK (EL h he) λσ H Q q=>tM.one (R:=Rep X.K) q λv H2 G Z x k r a=>by
  cases x with
  |bool t=>exact⟨t,r.bl_inv,aft.now (v:=t) a k xf⟩
  |_=>exact a.elim
noncomputable def XV(f g:M D):M D:=Kn f λx=>match x with | .bool xi=>g | .bool xj=>U5 (.bool xj)|_=>λ_=>.bad
noncomputable def X6(f g:M D):M D:=Kn f λx=>match x with | .bool xi=>U5 (.bool xi) | .bool xj=>g|_=>λ_=>.bad
noncomputable def RQ(f:M D):M D:=Kn f λx=>match x with | .bool t=>U5 (.bool (!t))|_=>λ_=>.bad
theorem DO{f g:M D}(ha:PE X a (tD X.K B G0 f))(hb:PE X (.BoolOp .And (b::rest) pos) (tD X.K B G0 g)):PE X (.BoolOp .And (a::b::rest) pos) (tD X.K B G0 (XV f g)):=
 KG (Dt ha hb) λσ H Q q=>tM.one (R:=Rep X.K) q λv H2 G Z x k r a=>by
  cases x with
  |bool t=>
   refine⟨t,r.bl_inv,?_⟩;cases t with
   |true=>exact⟨G,Z,k,a⟩
   |false=>exact aft.now a k (.bl xj)
  |_=>exact a.elim
theorem Ed{f g:M D}(ha:PE X a (tD X.K B G0 f))(hb:PE X (.BoolOp .Or (b::rest) pos) (tD X.K B G0 g)):PE X (.BoolOp .Or (a::b::rest) pos) (tD X.K B G0 (X6 f g)):=
 KG (EB ha hb) λσ H Q q=>tM.one (R:=Rep X.K) q λv H2 G Z x k r a=>by
  cases x with
  |bool t=>
   refine⟨t,r.bl_inv,?_⟩;cases t with
   |false=>exact⟨G,Z,k,a⟩
   |true=>exact aft.now a k (.bl xi)
  |_=>exact a.elim
theorem DN{op}{f:M D}(h:PE X a (tD X.K B G0 f)):PE X (.BoolOp op [a] pos) (tD X.K B G0 f):=Du h
theorem DM{f:M D}(ha:PE X a (tD X.K B G0 f)):PE X (.UnaryOp .Not a pos) (tD X.K B G0 (RQ f)):=
 KG (Ds ha) λσ H Q q=>tM.one (R:=Rep X.K) q λv H2 G Z x k r a=>by
  cases x with
  |bool t=>exact⟨t,r.bl_inv,aft.now a k (.bl _)⟩
  |_=>exact a.elim
noncomputable def mIf{α:Type}(f:M Bool)(g h:M α):M α:=Kn f λt=>if t=xi then g else h
theorem qk{f:M Bool}{g h:M D}(hc:PT X c (tBo X.K B G0 f))(ha:PE X a (tD X.K B G0 g))(hb:PE X b (tD X.K B G0 h)):PE X (.IfExp c a b pos) (tD X.K B G0 (mIf f g h)):=
 KG (Av hc ha hb) λσ H Q q=>tM.one (R:=λ_ b c=>b=c) q λv H2 G Z x k r a=>by
  have r:v=x:=r;subst r;cases v with
  |true=>exact⟨G,Z,k,a⟩
  |false=>exact⟨G,Z,k,a⟩
theorem DK{f:M D}{j p2}(ha:PE X a (tD X.K B G0 f)):PT X (.Compare a [.Is] [.Constant .none j p2] pos) (tBo X.K B G0 (Ke isNon f)):=
 YK (N9 (Ma ha)) λσ H Q q=>tM.one (R:=Rep X.K) q λv H2 G Z x k r a=>⟨_,rfl,aft.now a k (by rw[r.isNon])⟩
theorem LD{f:M D}{j p2}(ha:PE X a (tD X.K B G0 f)):PT X (.Compare a [.IsNot] [.Constant .none j p2] pos) (tBo X.K B G0 (Ke (λd=>!isNon d) f)):=
 YK (N9 (C0 ha)) λσ H Q q=>tM.one (R:=Rep X.K) q λv H2 G Z x k r a=>⟨_,rfl,aft.now a k (by dsimp only;rw[r.isNon])⟩
theorem DJ{f:M D}{j p2}(ha:PE X a (tD X.K B G0 f)):PE X (.Compare a [.Is] [.Constant .none j p2] pos) (tD X.K B G0 (Ke (λd=>.bool (isNon d)) f)):=
 KG (EM (Ma ha)) λσ H Q q=>tM.one (R:=Rep X.K) q λv H2 G Z x k r a=>aft.now a k (by dsimp only;rw[r.isNon];exact .bl _)
noncomputable def U1:M xk:=U5 []
noncomputable def U2(f:M D)(g:M xk):M xk:=Kn f λx=>Kn g λxs=>U5 (x::xs)
theorem SJ:PA X [] (tDs X.K B G0 U1):=paof SB λσ H Q ⟨G,Z,k,a⟩=>aft.now a k .nil
theorem tM.twoA{K:Frag}{σ:St}{H:Hp}{f:M D}{g:M xk}{β δ:Type}{S:Hp->δ->β->Prop}{k:D->xk->M β}{Q:δ->Hp->Prop}{P:V->List V->Hp->Prop}
  (h:tM K B G0 S (Kn f λx=>Kn g λy=>k x y) σ H Q)
  (i:∀v u H2 G Z x y,EOk K B G0 G H2 σ Z->Rep K G v x->Reps K G u y->aft K B G0 S (k x y Z) G σ Q->P v u H2) :
  tD K B G0 f σ H (λv H1=>tDs K B G0 g σ H1 λu H2=>P v u H2):=by
 obtain⟨G,Z,e,a⟩:=tM.bind2 (R:=Rep K) (R':=Reps K) Ll h;refine⟨G,Z,e,?_⟩;cases q:f Z with
 |bad=>rw[q]at a;exact a.elim
 |ok d Z1=>
  rw[q]at a;intro v G' H' e' s r;obtain⟨x,G2,Z2,e2,a2⟩:=a v G' H' e' s r;refine⟨G2,Z2,e2,?_⟩;cases q2:g Z2 with
  |bad=>rw[q2]at a2;exact a2.elim
  |ok d3 Z3=>rw[q2]at a2;intro u G3 H3 e3 s3 r3;obtain⟨G4,Z4,y,e4,r4,r5,a5⟩:=a2 u G3 H3 e3 s3 r3;exact i v u H3 G4 Z4 x y e4 r4 r5 a5
theorem Xk{f:M D}{g:M xk}(ha:PE X e (tD X.K B G0 f))(hr:PA X es (tDs X.K B G0 g))(hs:UI (e::es) X.env=(xj,eval e X.env)::UI es X.env:=by rfl) :
  PA X (e::es) (tDs X.K B G0 (U2 f g)):=paof (V7 ha hr hs) λσ H Q q=>tM.twoA q λv u H2 G Z x y k r1 r2 a=>aft.now a k (.cons r1 r2)
noncomputable def KQ(f:M xk):M D:=Kn f λxs=>if xs.length<=1000000 then U5 (.tuple xs)else λ_=>.bad
noncomputable def Kx(f:M xk):M D:=Kn f λxs=>if xs.length<=1000000 then U5 (.list xs)else λ_=>.bad
theorem Pm{x1}{f:M xk}(h:PA X es (tDs X.K B G0 f)):PE X (.Tuple es x1 pos) (tD X.K B G0 (KQ f)):=
 KG (Dc h) λσ H Q q=>tM.one (R:=Reps X.K) q λv H2 G Z x k r a=>by
  split at a
  .rename_i c
   refine⟨by rw[r.length];exact QR c lim,λp hp=>?_⟩;exact aft.done a k (Ext.new k.gh hp) (.tup (SqT.of ZU) (r.mono (ZT (k.gh.free hp))))
  .exact a.elim
theorem Ot{f:M xk}(h:PA X es (tDs X.K B G0 f)):PE X (.List es pos) (tD X.K B G0 (Kx f)):=
 KG (N5 h) λσ H Q q=>tM.one (R:=Reps X.K) q λv H2 G Z x k r a=>by
  split at a
  .rename_i c
   refine⟨by rw[r.length];exact QR c lim,λp hp=>?_⟩;exact aft.done a k (Ext.new k.gh hp) (.lst (SqL.of ZU) (r.mono (ZT (k.gh.free hp))))
  .exact a.elim
noncomputable def oIx:D->D->xn
 |.list xs,.int i=>atI xs i
 |.tuple xs,.int i=>atI xs i
 |.str z,.int i=>if z.length<=1000000 then(atI z.cps.toList i).map λc=>.str ⟨#[c]⟩else xg
 |_,_=>xg
theorem Reps.atI{K:Frag}{G:Hp}{vs:List V}{ds:xk}{i:Int}{d:D}(r:Reps K G vs ds)(h:L2.atI ds i=O d):∃v,L2.atI vs i=O v/\Rep K G v d:=by
 unfold L2.atI at h⊢;rw[r.length];cases z:ixN ds.length i with
 |none=>rw[z]at h;cases h
 |some j=>rw[z]at h;exact r.get (i:=j) h
theorem N0{K:Frag}{v u:V}{G H:Hp}{x y d:D}{Q:VK}(s:Same G H)(rx:Rep K G v x)(ry:Rep K G u y)(e:oIx x y=O d)(k:∀w,Rep K G w d->Q w H):rIx K v u H Q:=by
 unfold oIx at e;split at e
 .obtain⟨l,vs,rfl,h1,r1⟩:=rx.lst_inv
  obtain⟨w,e1,r2⟩:=r1.atI e;exact .inl ⟨l,vs,_,w,rfl,ry.int_inv,s.seq h1,e1,k w r2⟩
 .obtain⟨l,vs,rfl,h1,r1⟩:=rx.tup_inv
  obtain⟨w,e1,r2⟩:=r1.atI e;exact .inr (.inl ⟨l,vs,_,w,rfl,ry.int_inv,Y6 s h1,e1,k w r2⟩)
 .split at e
  .rename_i z i hz
   cases q:L2.atI z.cps.toList i with
   |none=>rw[q]at e;cases e
   |some ch=>rw[q]at e;cases e;exact .inr (.inr ⟨z,i,ch,rx.str_inv,ry.int_inv,QR hz lim,q,k _ (.str _)⟩)
  .cases e
 .cases e
theorem Ec{f g:M D}(ha:PE X a (tD X.K B G0 f))(hb:PE X b (tD X.K B G0 g))(hs:Ov b):PE X (.Subscript a b pos) (tD X.K B G0 (U6 oIx f g)):=
 KG (NT N4 ha hb hs) λσ H Q q=>tM.two q λv u H2 G Z x y k rx ry a=>by obtain⟨d,e,a⟩:=a.opt;exact N0 k.gh rx ry e λw r=>a.now k r
noncomputable def Kj(i:Nat)(g:M D):M D:=λZ=>match Z[i]? with
 |some (O (.pub d))=>(Kn g λy=>Ko (oIx d y)) Z
 |some (O (.own _))=>(Kn g λy=>λZ'=>match Z'[i]? with|some (O (.own ds))=>Ko (oIx (.list ds) y) Z'|_=>.bad) Z
 |_=>.bad
theorem SI{i:Nat}{g:M D}(ha:PE X a (Zy i))(hb:PE X b (tD X.K B G0 g))(hs:Ov b):PE X (.Subscript a b pos) (tD X.K B G0 (Kj i g)):=
 KG (NT N4 ha hb hs) λσ H Q ⟨G,Z,k,a⟩=>by
  unfold Kj at a;cases q:Z[i]? with
  |none=>rw[q]at a;exact a.elim
  |some o=>
   cases o with
   |none=>rw[q]at a;exact a.elim
   |some sl=>
    cases sl with
    |deep _ _=>rw[q]at a;exact a.elim
    |pub d=>
     rw[q]at a;obtain⟨v,h1,h2⟩:=k.pub i d q;refine⟨v,h1,G,Z,k,?_⟩;dsimp only[Kn]at a;cases z:g Z with
     |bad=>rw[z]at a;exact a.elim
     |ok y Z1=>rw[z]at a;intro u G' H' k' s' r';obtain⟨d',e',a'⟩:=aft.opt a;exact N0 k'.gh (h2.mono s') r' e' λw r=>a' w G' H' k' s' r
    |own ds=>
     rw[q]at a;obtain⟨ad,vs,h1,h2,h3,h4,h5⟩:=k.own i ds q;refine⟨.ref ad,h1,G,Z,k,?_⟩;dsimp only[Kn]at a;cases z:g Z with
     |bad=>rw[z]at a;exact a.elim
     |ok y Z1=>
      rw[z]at a;dsimp only at a;intro u G' H' k' s' r';cases z2:Z1[i]? with
      |none=>rw[z2]at a;exact a.elim
      |some o2=>
       cases o2 with
       |none=>rw[z2]at a;exact a.elim
       |some sl2=>
        cases sl2 with
        |deep _ _=>rw[z2]at a;exact a.elim
        |pub d2=>rw[z2]at a;exact a.elim
        |own es2=>
         rw[z2]at a;obtain⟨d',e',a'⟩:=aft.opt a;obtain⟨ad',vs',g1,g2,g3,g4,g5⟩:=k'.own i es2 z2;rw[h1]at g1;cases g1;unfold oIx at e';cases y with
         |int j=>obtain⟨w,e1,r2⟩:=g5.atI e';exact .inl ⟨ad,vs',j,w,rfl,r'.int_inv,SqL.of g4,e1,a' w G' H' k' s' r2⟩
         |_=>cases e'
noncomputable def cutD(xs:xk)(lo hi:xq):xk:=(xs.drop (HT.sIx xs.length 0 lo)).take (HT.sIx xs.length xs.length hi-HT.sIx xs.length 0 lo)
theorem Reps.cut{K:Frag}{G:Hp}{vs:List V}{ds:xk}(r:Reps K G vs ds)(lo hi:xq):Reps K G (XB vs lo hi) (cutD ds lo hi):=by unfold XB cutD;rw[r.length];exact(r.drop _).take _
noncomputable def YG:D->Option xq
 |.int i=>O (O i)
 |_=>xg
theorem By:PO X xg (tOi X.K B G0 (U5 xg)):=poof Bb λσ H Q ⟨G,Z,k,a⟩=>aft.now a k xf
theorem Bx{f:M D}(h:PE X e (tD X.K B G0 f)):PO X (O e) (tOi X.K B G0 (Kn f λx=>Ko (YG x))):=poof (Ba h) λσ H Q q=>tM.one (R:=Rep X.K) q λv H2 G Z x k r a=>by
 cases x with
 |int i=>exact⟨i,r.int_inv,aft.now (v:=O i) a k xf⟩
 |_=>exact a.elim
end
noncomputable def WR:List (D×D)->Bool
 |(.none,_)::_=>xi
 |_=>xj
noncomputable def Xv:D->String
 |.none=> "NoneType"
 |.bool _=> "bool"
 |.int _=> "int"
 |.str _=> "str"
 |.list _=> "list"
 |.tuple _=> "tuple"
 |.dict kvs=>if WR kvs=xi then "" else "dict"
noncomputable def Ze(d:D)(c:String):Bool:=Xv d==c || (Xv d == "bool" && c == "int")
noncomputable def Rg:D->Bool
 |.dict kvs=>WR kvs
 |_=>xj
theorem NZ{ks:List Key}{ds:xk}:Xv (.dict ((ks.map kD).zip ds)) = "dict" /\ Rg (.dict ((ks.map kD).zip ds))=xj:=by
 cases ks with
 |nil=>exact⟨rfl,rfl⟩
 |cons k ks=>
  cases ds with
  |nil=>exact⟨rfl,rfl⟩
  |cons d ds=>cases k<;>exact⟨rfl,rfl⟩
theorem DI(K:Frag)(d:D)(c:String)(nx:Rg d=xj)(hc:c = "int" ∨ c = "bool" ∨ c = "str" ∨ c = "list" ∨ c = "tuple" ∨ c = "dict"):PySem.W.kitOne K (.type (Xv d)) (.type c)=O (Ze d c):=by
 cases d with
 |dict kvs=>
  have e:Xv (.dict kvs) = "dict" :=by
   have nx:WR kvs=xj:=nx
   show(if WR kvs=xi then "" else "dict")=_
   rw[nx];rfl
  unfold Ze;rw[e];rcases hc with rfl|rfl|rfl|rfl|rfl|rfl<;>rfl
 |_=>rcases hc with rfl|rfl|rfl|rfl|rfl|rfl<;>rfl
section
variable{X:Cx}{B G0:Hp}{e a b c:UF}{pos:Pos}{es rest:xp}
def Y3(X:Cx)(f:UA)(p:xk->xn):Prop:=
 ∃r,YO X f r/\∀vs G H ds d Q,Same G H->Reps X.K G vs ds->p ds=O d->(∀w G' H',Ext G H G' H'->Rep X.K G' w d->Q w H')->r vs H Q
noncomputable def Zt(p:xk->xn)(f:M xk):M D:=Kn f λxs=>Ko (p xs)
theorem Td{x:Str}{p2:Pos}{id:String}{p:xk->xn}{f:M xk}(hc:Y3 X (.builtin id) p)(hg:Gl X x)(hm:X.mg x=xg)(hv:bootBuiltins x=O (.builtin id))(ha:PA X (e::es) (tDs X.K B G0 f))(hn:x ≠ "__name__" :=by decide)(hdb:(x==("__debug__" : Str))=xj:=by decide)
  (he:UI (e::es) X.env=(xj,eval e X.env)::UI es X.env:=by rfl) (hpl:(backTo pos (UI es X.env)).any (·.1)=xj:=by rfl):PE X (.Call (.Name x p2) (e::es) [] pos) (tD X.K B G0 (Zt p f)):=by
 obtain⟨r,h,i⟩:=hc;refine KG (Px h hg hm hv ha hn hdb he hpl) λσ H Q q=>tM.one (R:=Reps X.K) q λv H2 G Z x k rr a=>?_
 obtain⟨d,e,a⟩:=a.opt;exact i v G H2 x d Q k.gh rr e λw G' H' ex rw=>a.done k ex rw
theorem ji{x:Str}{p2:Pos}{T:String}{p:xk->xn}{f:M xk}(hc:Y3 X (.type T) p)(hg:Gl X x)(hm:X.mg x=xg)(hv:bootBuiltins x=O (.type T))(ha:PA X (e::es) (tDs X.K B G0 f))(hn:x ≠ "__name__" :=by decide)(hdb:(x==("__debug__" : Str))=xj:=by decide)
  (he:UI (e::es) X.env=(xj,eval e X.env)::UI es X.env:=by rfl) (hpl:(backTo pos (UI es X.env)).any (·.1)=xj:=by rfl):PE X (.Call (.Name x p2) (e::es) [] pos) (tD X.K B G0 (Zt p f)):=by
 obtain⟨r,h,i⟩:=hc;refine KG (PX h hg hm hv ha hn hdb he hpl) λσ H Q q=>tM.one (R:=Reps X.K) q λv H2 G Z x k rr a=>?_
 obtain⟨d,e,a⟩:=a.opt;exact i v G H2 x d Q k.gh rr e λw G' H' ex rw=>a.done k ex rw
theorem Reps.nil_inv{K:Frag}{G:Hp}{vs:List V}(r:Reps K G vs []):vs=[]:=by cases r;rfl
theorem Reps.one_inv{K:Frag}{G:Hp}{vs:List V}{d:D}(r:Reps K G vs [d]):∃v,vs=[v]/\Rep K G v d:=by
 cases r with
 |cons h t=>cases t;exact⟨_,rfl,h⟩
theorem Reps.two_inv{K:Frag}{G:Hp}{vs:List V}{d d':D}(r:Reps K G vs [d,d']):∃v v',vs=[v,v']/\Rep K G v d/\Rep K G v' d':=by
 cases r with
 |cons h t=>obtain⟨v',rfl,r'⟩:=t.one_inv;exact⟨_,v',rfl,h,r'⟩
noncomputable def Kt:xk->xn
 |[.list xs]=>O (.int xs.length)
 |[.tuple xs]=>O (.int xs.length)
 |[.str z]=>if z.length<=1000000 then O (.int z.length)else xg
 |_=>xg
theorem NH:Y3 X (.builtin "len") Kt:=by
 refine⟨_,LF,λvs G H ds d Q s r e k=>?_⟩;unfold Kt at e;split at e
 .cases e
  obtain⟨v,rfl,q⟩:=r.one_inv;obtain⟨l,ws,rfl,h1,r1⟩:=q.lst_inv;exact⟨.ref l,ws.length,rfl,.inl ⟨ws,s.seq h1,rfl⟩,by rw[r1.length];exact k _ G H (.refl s) (.int _)⟩
 .cases e
  obtain⟨v,rfl,q⟩:=r.one_inv;obtain⟨l,ws,rfl,h1,r1⟩:=q.tup_inv;exact⟨.ref l,ws.length,rfl,.inr ⟨ws,Y6 s h1,rfl⟩,by rw[r1.length];exact k _ G H (.refl s) (.int _)⟩
 .split at e
  .rename_i z hz
   cases e;obtain⟨v,rfl,q⟩:=r.one_inv;exact⟨.str z,z.length,by rw[q.str_inv],⟨QR hz lim,rfl⟩,k _ G H (.refl s) (.int _)⟩
  .cases e
 .cases e
noncomputable def Rf:xk->xn
 |[.int i,.int j]=>O (.int (if j > i then j else i))
 |_=>xg
theorem Eb(hc:X.calm=xi):Y3 X (.builtin "max") Rf:=by
 refine⟨_,qw hc,λvs G H ds d Q s r e k=>?_⟩;unfold Rf at e;split at e
 .cases e
  obtain⟨v,v',rfl,r1,r2⟩:=r.two_inv;exact⟨_,_,by rw[r1.int_inv,r2.int_inv],k _ G H (.refl s) (.int _)⟩
 .cases e
noncomputable def Zv(i:Nat):M D:=λZ=>match Z[i]? with
 |some (O (.pub d))=>Ko (Kt [d]) Z
 |some (O (.own ds))=>.ok (.int ds.length) Z
 |_=>.bad
theorem LC{i:Nat}{p2:Pos}(hg:Gl X "len")(hm:X.mg "len" = xg)(ha:PE X e (Zy i))(he:UI [e] X.env=[(xj,eval e X.env)]:=by rfl):PE X (.Call (.Name "len" p2) [e] [] pos) (tD X.K B G0 (Zv i)):=by
 refine KG (Px LF hg hm PySem.boot_len (V7 ha SB (by rw[he];rfl)) (by decide) (by decide) (by rw[he];rfl) xf) λσ H Q ⟨G,Z,k,a⟩=>?_
 unfold Zv at a;cases q:Z[i]? with
 |none=>rw[q]at a;exact a.elim
 |some o=>
  cases o with
  |none=>rw[q]at a;exact a.elim
  |some sl=>
   cases sl with
   |deep _ _=>rw[q]at a;exact a.elim
   |pub d=>
    rw[q]at a;obtain⟨v,h1,h2⟩:=k.pub i d q;refine⟨v,h1,?_⟩;obtain⟨d',e',a'⟩:=aft.opt a;obtain⟨r,hr,ir⟩:=@NH X;show ∃x n,[v]=[x]/\LenV X.K x H n/\Q (.int n) H;unfold Kt at e';split at e'
    .rename_i xs he'
     injection he' with wv vq;subst wv;cases e'
     obtain⟨l,ws,rfl,g1,r1⟩:=h2.lst_inv;exact⟨.ref l,ws.length,rfl,.inl ⟨ws,k.gh.seq g1,rfl⟩,by rw[r1.length];exact a'.now k (.int _)⟩
    .rename_i xs he'
     injection he' with wv vq;subst wv;cases e'
     obtain⟨l,ws,rfl,g1,r1⟩:=h2.tup_inv;exact⟨.ref l,ws.length,rfl,.inr ⟨ws,Y6 k.gh g1,rfl⟩,by rw[r1.length];exact a'.now k (.int _)⟩
    .rename_i z he'
     injection he' with wv vq;subst wv
     split at e'
     .rename_i hz
      cases e';exact⟨.str z,z.length,by rw[h2.str_inv],⟨QR hz lim,rfl⟩,a'.now k (.int _)⟩
     .cases e'
    .cases e'
   |own ds=>rw[q]at a;obtain⟨ad,vs,h1,g2,g3,h4,h5⟩:=k.own i ds q;exact⟨.ref ad,h1,.ref ad,vs.length,rfl,.inl ⟨vs,SqL.of h4,rfl⟩,by rw[h5.length];exact aft.now a k (.int _)⟩
theorem DH{pins:List (UD×Obj)}{s:UB}{σ:St}{G H:Hp}{v:V}{u:UA}{d:D}{cv:UA}{t:Bool}{A:Around}{E:UA->UB->Prop}{Q:UA->UB->Prop}(I:Inv X pins σ H s)(sg:Same G H)(r:Rep X.K G v d)(rv:RelV v u)(nx:Rg d=xj)
  (ek:PySem.W.kitOne X.K (.type (Xv d)) cv=O t) (h:∀tk,Q (.bool t) {s with toks:=tk}):UH (model X.prog X.w) A (call (.builtin "isinstance") [u,cv]) Q E s:=by
 cases r with
 |non=>cases rv;exact JM PySem.W.kitx_none I.kIn True.intro ek (λz=>nomatch z) h
 |bl y=>cases rv;exact JM PySem.W.kitx_bool I.kIn True.intro ek (λz=>nomatch z) h
 |int i=>obtain⟨t',rfl⟩:=rv;exact JM PySem.W.kitx_int I.kIn True.intro ek (λz=>nomatch z) h
 |str y=>obtain⟨t',rfl⟩:=rv;exact JM PySem.W.kitx_str I.kIn True.intro ek (λz=>nomatch z) h
 |lst hl _=>cases rv;obtain⟨its,r,⟨o,n,e,hc,_,hd⟩,hz⟩:=I.list (sg.seq hl);exact JM PySem.W.kitx_list I.kIn ⟨o,e,hc⟩ ek (λz=>nomatch z) h
 |tup hl _=>cases rv;obtain⟨its,r,p,hz⟩:=I.tuple (Y6 sg hl);obtain⟨o,e,hc,_⟩:=p;exact JM PySem.W.kitx_tuple I.kIn ⟨o,e,hc⟩ ek (λz=>nomatch z) h
 |@dic ad hd=>
  cases rv;obtain⟨_,_,vs,_,p⟩:=(show Yy X.prog X.w H s.heap ad (.dK [])from I.hok ad _ (sg _ _ hd))
  obtain⟨o,es,ep,h1,h2,_⟩:=p;exact JM PySem.W.kitx_dict I.kIn ⟨o,h1,h2.1⟩ ek (λz=>nomatch z) h
 |exc _ _ _ _=>cases nx
 |@dct ad ks vs ds kvs e0 _ _ hd _=>
  cases rv;subst e0;rw[NZ.1]at ek;obtain⟨_,_,vs,_,p⟩:=(show Yy X.prog X.w H s.heap ad (.dK (ks.zip _))from I.hok ad _ (sg _ _ hd))
  obtain⟨o,es,ep,h1,h2,_⟩:=p;exact JM PySem.W.kitx_dict I.kIn ⟨o,h1,h2.1⟩ ek (λz=>nomatch z) h
 |@dtt ad ob ks vs ds kvs e0 _ hd _=>
  cases rv;subst e0;obtain⟨_,_,_,xs,_,o,es,ep,h1,h2,_⟩:=(show Yy X.prog X.w H s.heap ad (.frz ob (.dT (ks.zip _)))from I.hok ad _ (sg _ _ hd))
  exact JM PySem.W.kitx_dict I.kIn ⟨o,h1,h2.1⟩ ek (λz=>nomatch z) h
theorem DG(c:String)(hc:c = "int" ∨ c = "bool" ∨ c = "str" ∨ c = "list" ∨ c = "tuple" ∨ c = "dict"):typeOf (.type c)=pure (.type "type"):=by rcases hc with rfl|rfl|rfl|rfl|rfl|rfl<;>kernel_rfl
theorem Bw:YO X (.builtin "isinstance") (λxs H Q=>∃v c G d,xs=[v,.ty c]/\Same G H/\Rep X.K G v d/\(c = "int" ∨ c = "bool" ∨ c = "str" ∨ c = "list" ∨ c = "tuple" ∨ c = "dict")/\Q (.bl (Ze d c)) H):=by
 intro pins s σ H xs us Q I r h;obtain⟨v,c,G,d,rfl,sg,rp,hc,q⟩:=h;obtain⟨u,w',rfl,r1,r2⟩:=P7 r;cases (show w'=Value.type c from r2);by_cases nx:Rg d=xi
 .cases rp with
  |@exc a C dd bm nm vs ds ck hx hd rr=>
   refine BB (Fb I.ok.mod.kin) pins s σ H [.ref a,.ty c] [u,.type c] Q I r ⟨a,C,dd,bm,xj,.ty c,xj,rfl,⟨nm,ck⟩,sg _ _ hx,.inr ⟨c,rfl,DG c hc,?_⟩,?_⟩
   .rw[ck.ty];rcases hc with rfl|rfl|rfl|rfl|rfl|rfl<;>rfl
   .have e:Ze (.dict [(.none,.tuple [.str nm,.list ds])]) c=xj:=by rcases hc with rfl|rfl|rfl|rfl|rfl|rfl<;>rfl
    rw[e]at q;exact q
  |dct e _ _ _ _=>subst e;rw[NZ.2]at nx;cases nx
  |dtt e _ _ _=>subst e;cases nx
  |_=>cases nx
 .have nx:Rg d=xj:=by simpa using nx
  exact DH I sg rp r1 nx (DI X.K d c nx hc) λtk=>⟨.bl _,H,I.tok tk,rfl,q⟩
theorem xc:bootBuiltins "isinstance" = O (.builtin "isinstance"):=by decide +kernel
theorem RF{f:M D}{p2 p3:Pos}{c:String}(hc:c = "int" ∨ c = "bool" ∨ c = "str" ∨ c = "list" ∨ c = "tuple" ∨ c = "dict")(hg:Gl X "isinstance")(hm:X.mg "isinstance" = xg)(hg2:Gl X (UU c))(hm2:X.mg (UU c)=xg)
  (hv2:bootBuiltins (UU c)=O (.type c)) (ha:PE X e (tD X.K B G0 f)) (hn2:(UU c) ≠ "__name__") (hd2:((UU c)==("__debug__" : Str))=xj)
  (hs:UI [e,.Name (UU c) p3] X.env=(xj,eval e X.env)::UI [.Name (UU c) p3] X.env:=by rfl)
  (hs2:UI [.Name (UU c) p3] X.env=[(xj,eval (.Name (UU c) p3) X.env)]:=by rfl) :
  PE X (.Call (.Name "isinstance" p2) [e,.Name (UU c) p3] [] pos) (tD X.K B G0 (Ke (λd=>.bool (Ze d c)) f)):=by
 refine KG (Px Bw hg hm xc (V7 ha (V7 (C3 (v:=.ty c) hg2 hm2 hv2 xf hn2 hd2) SB (by rw[hs2];rfl)) hs) (by decide) (by decide) hs (by rw[hs2];rfl)) λσ H Q q=>?_
 refine tM.one (R:=Rep X.K) q λv H2 G Z x k r a=>?_
 exact⟨v,c,G,x,rfl,k.gh,r,hc,aft.now a k (.bl _)⟩
end
noncomputable def spD(K:Frag)(n:Nat)(F:xk->xn):Sp:=λvs H Q _=>∃G ds d,vs.length=n/\Same G H/\Reps K G vs ds/\F ds=O d/\∀v G' H',Ext G H G' H'->Rep K G' v d->Q v H'
section
variable{K:Frag}{B G0 G H:Hp}{σ:St}{Z:U0}
theorem EOk.exit(k:EOk K B G0 G H σ Z):Ext G0 B G H:=⟨k.bh,k.g0,k.gh,k.np⟩
theorem X2{α:Type}{l:List α}{i:Nat}{x y:α}(h:(l.set i x)[i]?=O y):y=x:=by
 by_cases hl:i<l.length
 .rw[QK hl]at h;cases h;rfl
 .rw[QE (by rw[Jf];omega)]at h;cases h
theorem DpOk.setOther{i:Nat}{x:Option V}{y:Option Sl}(k:DpOk K B G H σ Z)(hy:∀s,y=O s->∃d,s=.pub d):DpOk K B G H (σ.set i x) (Z.set i y):=by
 have nz:∀{m:Nat}{s:Sl},(Z.set i y)[m]?=O (O s)->(∃d,s=.pub d)∨(Z[m]?=O (O s)/\(σ.set i x)[m]?=σ[m]?):=λ{m s} q=>by
  by_cases z:i=m
  .subst z
   exact .inl (hy s (X2 q).symm)
  .rw[Qx z]at q⊢;exact .inr ⟨q,rfl⟩
 refine k.map (λm p d q=>?_) (λm es q=>?_) λm p d v fp q s r w n=>⟨r,w⟩
 .rcases nz q with ⟨_,e⟩|q
  .cases e
  .exact q
 .rcases nz q with ⟨_,e⟩|q
  .cases e
  .exact⟨es,q⟩
theorem EOk.setPub{i:Nat}{v:V}{d:D}(k:EOk K B G0 G H σ Z)(r:Rep K G v d)(hi:i<Z.length):EOk K B G0 G H (σ.set i (O v)) (Z.set i (O (.pub d))) where
 bh:=k.bh
 gh:=k.gh
 g0:=k.g0
 np:=k.np
 len:=by rw[Jf,Jf];exact k.len
 pub:=λj d' q=>by
  by_cases z:i=j
  .subst z
   have:=X2 q;cases this;exact⟨v,QK (by rw[←k.len];exact hi),r⟩
  .rw[Qx z]at q⊢
   exact k.pub j d' q
 own:=λj ds q=>by
  by_cases z:i=j
  .subst z
   have:=X2 q;cases this
  .rw[Qx z]at q⊢
   exact k.own j ds q
 sep:=λj l c es fs q1 q2 s1 s2=>by
  have z1:i≠j:=λz=>by subst z;have:=X2 q1;cases this
  have z2:i≠l:=λz=>by subst z;have:=X2 q2;cases this
  rw[Qx z1]at q1 s1;rw[Qx z2]at q2 s2;exact k.sep j l c es fs q1 q2 s1 s2
 dp:=k.dp.setOther (λs e=>by cases e;exact⟨_,rfl⟩)
structure NewL(K:Frag)(B G H:Hp)(σ:St)(Z:U0)(a:UD)(vs:List V)(ds:xk):Prop where
 b:B a=xg
 g:G a=xg
 h:H a=O (.lst vs)
 r:Reps K G vs ds
 f:∀(j:Nat) es,Z[j]?=O (O (.own es))->σ[j]?≠O (O (.ref a))
 dp:∀(j:Nat) p d v fp,Z[j]?=O (O (.deep p d))->σ[j]?=O (O v)->RepO K G H p v d fp->a∉fp
theorem EOk.freshD{H':Hp}{a:UD}(k:EOk K B G0 G H σ Z)(e:Same H H')(ha:H a=xg){G':Hp}{j:Nat}{p:Pat}{d:D}{v:V}{fp:xw}(q:Z[j]?=O (O (.deep p d)))(s:σ[j]?=O (O v))(r:RepO K G' H' p v d fp):a∉fp:=λm=>by obtain⟨ω,k1,k2⟩:=k.dp;obtain⟨v',fp',s',r',n,w⟩:=k1 j p d q;rw[s]at s';cases s';have u:=r'.uniq e r;subst u;obtain⟨ws,hl⟩:=r'.isl a m;rw[ha]at hl;cases hl
theorem EOk.setOwn{i:Nat}{a:UD}{vs:List V}{ds:xk}(k:EOk K B G0 G H σ Z)(n:NewL K B G H σ Z a vs ds)(hi:i<Z.length):EOk K B G0 G H (σ.set i (O (.ref a))) (Z.set i (O (.own ds))) where
 bh:=k.bh
 gh:=k.gh
 g0:=k.g0
 np:=k.np
 len:=by rw[Jf,Jf];exact k.len
 pub:=λj d' q=>by
  by_cases z:i=j
  .subst z
   have:=X2 q;cases this
  .rw[Qx z]at q⊢
   exact k.pub j d' q
 own:=λj es q=>by
  by_cases z:i=j
  .subst z
   have:=X2 q;cases this;exact⟨a,vs,QK (by rw[←k.len];exact hi),n.b,n.g,n.h,n.r⟩
  .rw[Qx z]at q⊢
   exact k.own j es q
 sep:=λj l c es fs q1 q2 s1 s2=>by
  have hs:i<σ.length:=by rw[←k.len];exact hi
  by_cases z1:i=j
  .subst z1
   rw[QK hs]at s1;cases s1;by_cases z2:i=l
   .exact z2
   .rw[Qx z2]at q2 s2
    exact absurd s2 (n.f l fs q2)
  .by_cases z2:i=l
   .subst z2
    rw[QK hs]at s2;cases s2;rw[Qx z1]at q1 s1;exact absurd s1 (n.f j es q1)
   .rw[Qx z1]at q1 s1
    rw[Qx z2]at q2 s2;exact k.sep j l c es fs q1 q2 s1 s2
 dp:=by
  obtain⟨ω,k1,k2⟩:=k.dp;have hs:i<σ.length:=by rw[←k.len];exact hi
  refine⟨λb=>if b=a then i else ω b,λj p d q=>?_,λj es b q s=>?_⟩
  .by_cases z:i=j
   .subst z;have:=X2 q;cases this
   .rw[Qx z]at q⊢
    obtain⟨v,fp,s,r,nn,w⟩:=k1 j p d q;refine⟨v,fp,s,r,nn,λb m=>⟨(w b m).1,(w b m).2.1,?_⟩⟩;dsimp only;rw[Qv (λz=>n.dp j p d v fp q s r (by rw[←z];exact m))];exact(w b m).2.2
  .by_cases z:i=j
   .subst z
    rw[QK hs]at s;cases s;dsimp only;rw[Qo xf]
   .rw[Qx z]at q s
    dsimp only;rw[Qv (λe=>n.f j es q (by rw[←e];exact s))];exact k2 j es b q s
theorem EOk.change{i:Nat}{a:UD}{vs:List V}{ds es:xk}(k:EOk K B G0 G H σ Z)(q:Z[i]?=O (O (.own ds)))(ha:σ[i]?=O (O (.ref a)))(r:Reps K G vs es) :
  EOk K B G0 G (upd H a (.lst vs)) σ (Z.set i (O (.own es))):=by
 obtain⟨a',ws,h1,h2,h3,h4,h5⟩:=k.own i ds q;rw[ha]at h1;cases h1;have hi:i<Z.length:=(Qg.mp q).1;refine⟨λb o e=>?_,λb o e=>?_,k.g0,k.np,by rw[Jf];exact k.len,λj d' e=>?_,λj fs e=>?_,λj l c fs gs q1 q2 s1 s2=>?_,?_⟩
 .rw[Zh (Xn e h2)];exact k.bh b o e
 .rw[Zh (Xn e h3)];exact k.gh b o e
 .by_cases z:i=j
  .subst z
   have:=X2 e;cases this
  .rw[Qx z]at e
   exact k.pub j d' e
 .by_cases z:i=j
  .subst z
   have:=X2 e;cases this;exact⟨a,vs,ha,h2,h3,ZU,r⟩
  .rw[Qx z]at e
   obtain⟨c,us,g1,g2,g3,g4,g5⟩:=k.own j fs e;have zc:c≠a:=λw=>z (k.sep i j a ds fs q e ha (by rw[←w];exact g1))
   exact⟨c,us,g1,g2,g3,by rw[Zh zc];exact g4,g5⟩
 .have f:∀{m:Nat}{ts:xk},(Z.set i (O (Sl.own es)))[m]?=O (O (.own ts))->∃ts',Z[m]?=O (O (.own ts')):=λ{m ts} e=>by
   by_cases z:i=m
   .subst z;exact⟨ds,q⟩
   .rw[Qx z]at e;exact⟨ts,e⟩
  obtain⟨f1,w1⟩:=f q1;obtain⟨f2,w2⟩:=f q2;exact k.sep j l c f1 f2 w1 w2 s1 s2
 .refine k.dp.map (λj p d e=>?_) (λj fs e=>?_) λj p d v fp qj s rj w n=>⟨rj.upd (λ_ z=>by rw[h4]at z;cases z) (n i ds a q ha),w⟩
  .by_cases z:i=j
   .subst z;have:=X2 e;cases this
   .rw[Qx z]at e;exact⟨e,rfl⟩
  .by_cases z:i=j
   .subst z;exact⟨ds,q,rfl⟩
   .rw[Qx z]at e;exact⟨fs,e,rfl⟩
end
inductive Out where
 |nx (Z:U0)|rt (d:D)|bk (Z:U0)|ct (Z:U0)|ex (Z:U0) (d:D)|ro (ds:xk)|bad
abbrev SM:=U0->Out
section
variable(K:Frag)(B G0:Hp)(KX:XW)
def aftS(o:Out)(G1:Hp)(Dn:Ends):Prop:=
 match o with
 |.nx Z=>∀σ G H,EOk K B G0 G H σ Z->Same G1 G->Dn.nx σ H
 |.bk Z=>∀σ G H,EOk K B G0 G H σ Z->Same G1 G->Dn.bk σ H
 |.ct Z=>∀σ G H,EOk K B G0 G H σ Z->Same G1 G->Dn.ct σ H
 |.rt d=>∀v G H,Ext G0 B G H->Rep K G v d->Dn.rt v H
 |.ro ds=>∀a vs G H,Ext G0 B G H->B a=xg->G a=xg->H a=O (.lst vs)->Reps K G vs ds->Dn.rt (.ref a) H
 |.ex Z d=>∀v σ G H,EOk K B G0 G H σ Z->Same G1 G->Rep K G v d->KX v σ H
 |.bad=>False
noncomputable def tS(g:SM):TS:=λDn σ H=>∃G Z,EOk K B G0 G H σ Z/\aftS K B G0 KX (g Z) G Dn
noncomputable def sB{α:Type}(f:M α)(g:α->SM):SM:=λZ=>match f Z with | .ok a Z'=>g a Z' | .bad=>.bad
end
section
variable{X:Cx}{B G0:Hp}{KX:XW}{e a b c:UF}{pos:Pos}{es rest:xp}{st:Stmt}{sts sts2:List Stmt}
theorem aftS.mono{K:Frag}{o:Out}{G G':Hp}{Dn:Ends}(e:Same G G')(h:aftS K B G0 KX o G Dn):aftS K B G0 KX o G' Dn:=by
 cases o with
 |nx Z=>exact λσ G2 H2 k s=>h σ G2 H2 k (e.trans s)
 |bk Z=>exact λσ G2 H2 k s=>h σ G2 H2 k (e.trans s)
 |ct Z=>exact λσ G2 H2 k s=>h σ G2 H2 k (e.trans s)
 |rt d=>exact h
 |ro ds=>exact h
 |ex Z d=>exact λv σ G2 H2 k s r=>h v σ G2 H2 k (e.trans s) r
 |bad=>exact h
theorem tS.bnd{K:Frag}{α γ:Type}{R:Hp->γ->α->Prop}{f:M α}{g:α->SM}{Dn:Ends}{σ:St}{H:Hp}{P:γ->Hp->Prop}(q:tS K B G0 KX (sB f g) Dn σ H)
  (i:∀v H' G' Z' x,EOk K B G0 G' H' σ Z'->R G' v x->aftS K B G0 KX (g x Z') G' Dn->P v H'):tM K B G0 R f σ H P:=by
 obtain⟨G,Z,k,a⟩:=q;refine⟨G,Z,k,?_⟩;unfold sB at a;cases z:f Z with
 |bad=>rw[z]at a;exact a.elim
 |ok d Z1=>rw[z]at a;exact λv G' H' e s r=>i v H' G' Z1 d e r (aftS.mono s a)
noncomputable def sNx:SM:=λZ=>.nx Z
noncomputable def U7(g h:SM):SM:=λZ=>match g Z with | .nx Z'=>h Z'|o=>o
theorem Od:PSs X [] (tS X.K B G0 KX sNx):=NX CY λD σ H ⟨G,Z,k,a⟩=>a σ G H k (.refl _)
theorem SH{g h:SM}(h1:PS X st (tS X.K B G0 KX g))(h2:PSs X sts (tS X.K B G0 KX h)):PSs X (st::sts) (tS X.K B G0 KX (U7 g h)):=NX (Au h1 h2) λD σ H ⟨G,Z,k,a⟩=>by
 refine⟨G,Z,k,?_⟩;unfold U7 at a;cases z:g Z with
 |nx Z1=>rw[z]at a;exact λσ' G' H' k' s'=>⟨G',Z1,k',aftS.mono s' a⟩
 |rt d=>rw[z]at a;exact a
 |ro ds=>rw[z]at a;exact a
 |bk Z1=>rw[z]at a;exact a
 |ct Z1=>rw[z]at a;exact a
 |ex Z1 d=>rw[z]at a;exact a
 |bad=>rw[z]at a;exact a.elim
theorem SA{g:SM}(h1:PS X st (tS X.K B G0 KX g)):PSs X [st] (tS X.K B G0 KX g):=CW h1
noncomputable def Wr:SM:=λ_=>.bad
theorem Bv:PS X st (tS X.K B G0 KX Wr):=λ_ _ _ _ _ _ ⟨_,_,_,a⟩=>a.elim
noncomputable def Kh(f:M D):SM:=sB f λd _=>.rt d
theorem Mr{f:M D}(h:PE X e (tD X.K B G0 f)):PS X (.Return (O e) pos) (tS X.K B G0 KX (Kh f)):=ZL (Dr h) λD σ H q=>tS.bnd (R:=Rep X.K) q λv H' G' Z' x k r a=>a v G' H' k.exit r
noncomputable def XU(f:M D):SM:=sB f λ_ Z=>.nx Z
theorem DF{f:M D}(h:PE X e (tD X.K B G0 f))(hs:swapsWith e xg pos.line X.env=pure xj:=by rfl):PS X (.Expr e pos) (tS X.K B G0 KX (XU f)):=ZL (Lu h hs) λD σ H q=>tS.bnd (R:=Rep X.K) q λv H' G' Z' x k r a=>a σ G' H' k (.refl _)
noncomputable def sIf(f:M Bool)(g h:SM):SM:=sB f λt=>if t=xi then g else h
theorem P2{f:M Bool}{g h:SM}(hc:PT X c (tBo X.K B G0 f))(ha:PSs X sts (tS X.K B G0 KX g))(hb:PSs X sts2 (tS X.K B G0 KX h)):PS X (.If c sts sts2 pos) (tS X.K B G0 KX (sIf f g h)):=
 ZL (Fu hc ha hb) λD σ H q=>tS.bnd (R:=λ_ b c=>b=c) q λv H' G' Z' x k r a=>by
  have r:v=x:=r;subst r;cases v with
  |true=>exact⟨G',Z',k,a⟩
  |false=>exact⟨G',Z',k,a⟩
noncomputable def tG(K:Frag)(B G0:Hp)(s:D->U0->xu):TG:=λv σ H Q=>∃G Z d Z',EOk K B G0 G H σ Z/\Rep K G v d/\s d Z=O Z'/\∀σ' G' H',EOk K B G0 G' H' σ' Z'->Same G G'->Q σ' H'
noncomputable def tGs(K:Frag)(B G0:Hp)(s:xk->U0->xu):TGs:=λv σ H Q=>∃G Z d Z',EOk K B G0 G H σ Z/\Reps K G v d/\s d Z=O Z'/\∀σ' G' H',EOk K B G0 G' H' σ' Z'->Same G G'->Q σ' H'
theorem pgof{t t':TG}(h:PG X e t)(i:∀v σ H Q,t' v σ H Q->t v σ H Q):PG X e t':=λpins s σ H v u Q I r q=>h pins s σ H v u Q I r (i v σ H Q q)
theorem NG{t t':TGs}(h:PGs X es t)(i:∀v σ H Q,t' v σ H Q->t v σ H Q):PGs X es t':=λpins s σ H v u Q I r q=>h pins s σ H v u Q I r (i v σ H Q q)
noncomputable def gN(i:Nat):D->U0->xu:=λd Z=>if i<Z.length then O (Z.set i (O (.pub d)))else xg
theorem Wo{i:Nat}(h:PG X e (P6 i)):PG X e (tG X.K B G0 (gN i)):=pgof h λv σ H Q ⟨G,Z,d,Z',k,r,e,q⟩=>by
 unfold gN at e;split at e
 .rename_i hi
  cases e;exact q _ G H (k.setPub r hi) (.refl _)
 .cases e
noncomputable def gN0:xk->U0->xu:=λd Z=>match d with | []=>O Z|_=>xg
noncomputable def gNC(s:D->U0->xu)(t:xk->U0->xu):xk->U0->xu:=λds Z=>match ds with|d::r=>(s d Z).bind (t r) | []=>xg
theorem R3:PGs X [] (tGs X.K B G0 gN0):=NG CV λv σ H Q ⟨G,Z,d,Z',k,r,e,q⟩=>by
 cases r with
 |nil=>cases e;exact⟨rfl,q σ G H k (.refl _)⟩
 |cons _ _=>cases e
theorem WB{s:D->U0->xu}{t:xk->U0->xu}(h1:PG X e (tG X.K B G0 s))(h2:PGs X es (tGs X.K B G0 t))
  (hs:(UX (e::es) X.env).map (·.2)=assign e X.env::(UX es X.env).map (·.2):=by rfl):PGs X (e::es) (tGs X.K B G0 (gNC s t)):=NG (At h1 h2 hs) λv σ H Q ⟨G,Z,d,Z',k,r,e,q⟩=>by
 cases r with
 |nil=>cases e
 |@cons w dw ws dws rw rt=>
  unfold gNC at e;dsimp only at e;cases z:s dw Z with
  |none=>rw[z]at e;cases e
  |some Z1=>rw[z]at e;refine⟨w,ws,rfl,G,Z,dw,Z1,k,rw,z,λσ' G' H' k' s'=>?_⟩;exact⟨G',Z1,dws,Z',k',rt.mono s',e,λσ2 G2 H2 k2 s2=>q σ2 G2 H2 k2 (s'.trans s2)⟩
noncomputable def gT(n:Nat)(t:xk->U0->xu):D->U0->xu:=λd Z=>match d with | .tuple ds=>if ds.length=n then t ds Z else xg|_=>xg
theorem R1{k1:Nat}{t:xk->U0->xu}{n:Nat}(hc:X.calm=xi)(h:PGs X es (tGs X.K B G0 t))
  (hn:(UX es X.env).length=n:=by rfl) (hst:(UX es X.env).findIdx? (·.1)=xg:=by rfl):PG X (.Tuple es k1 pos) (tG X.K B G0 (gT n t)):=pgof (Dq hc h hn hst) λv σ H Q ⟨G,Z,d,Z',k,r,e,q⟩=>by
 unfold gT at e;split at e
 .split at e
  .rename_i hl
   obtain⟨ad,vs,rfl,h1,r1⟩:=r.tup_inv;exact⟨ad,vs,rfl,Y6 k.gh h1,by rw[r1.length];exact hl,G,Z,_,Z',k,r1,e,q⟩
  .cases e
 .cases e
noncomputable def Z8(f:M D)(s:D->U0->xu):SM:=sB f λd Z=>match s d Z with|some Z'=>.nx Z'|none=>.bad
theorem Ea{tg:UF}{f:M D}{s:D->U0->xu}(he:PE X e (tD X.K B G0 f))(hg:PG X tg (tG X.K B G0 s))(hs:swapsWithSole [tg] e pos.line X.env=pure xj:=by rfl)(hw:swappedStores [tg] e X.env=pure xg:=by rfl)
  (h1:(UX [tg] X.env).map (·.2)=[assign tg X.env]:=by rfl):PS X (.Assign [tg] e pos) (tS X.K B G0 KX (Z8 f s)):=
 ZL (Dp he hg hs hw h1) λD σ H q=>tS.bnd (R:=Rep X.K) q λv H' G' Z' x k r a=>by
  cases z:s x Z' with
  |none=>rw[z]at a;exact a.elim
  |some Z2=>rw[z]at a;exact⟨G',Z',x,Z2,k,r,z,λσ2 G2 H2 k2 s2=>a σ2 G2 H2 k2 s2⟩
noncomputable def Km(i:Nat)(f:M D):SM:=Z8 f (gN i)
theorem F9{i:Nat}{x:Str}{f:M D}{p2:Pos}(hN:X.N.Nodup)(hi:X.N[i]?=O x)(hx:Loc X.env.scope x)(he:PE X e (tD X.K B G0 f))(hs:swapsWith e (O (.Name x p2)) pos.line X.env=pure xj:=by rfl)
  (hf:X.fn x=xi∨X.env.scope.names.lookup x=O .local:=by first|exact .inl rfl|exact .inr rfl|assumption):PS X (.Assign [.Name x p2] e pos) (tS X.K B G0 KX (Km i f)):=
 ZL (N8 hN hi hx he hs hf) λD σ H q=>tS.bnd (R:=Rep X.K) q λv H' G' Z' x k r a=>by
  unfold gN at a;split at a
  .rename_i Z2 hz
   split at hz
   .rename_i hi2
    cases hz;exact a _ G' H' (k.setPub r hi2) (.refl _)
   .cases hz
  .exact a.elim
noncomputable def tL(K:Frag)(B G0:Hp)(f:M xk):TE:=λσ H Q=>∃G Z,EOk K B G0 G H σ Z/\match f Z with
 |.ok ds Z'=>∀a vs G' H',EOk K B G0 G' H' σ Z'->Same G G'->NewL K B G' H' σ Z' a vs ds->Q (.ref a) H'
 |.bad=>False
noncomputable def Zg(i:Nat)(f:M xk):SM:=sB f λds Z=>if i<Z.length then .nx (Z.set i (O (.own ds)))else .bad
theorem Li{i:Nat}{x:Str}{f:M xk}{p2:Pos}(hN:X.N.Nodup)(hi:X.N[i]?=O x)(hx:Loc X.env.scope x)(he:PE X e (tL X.K B G0 f))(hs:swapsWith e (O (.Name x p2)) pos.line X.env=pure xj:=by rfl)
  (hf:X.fn x=xi∨X.env.scope.names.lookup x=O .local:=by first|exact .inl rfl|exact .inr rfl|assumption):PS X (.Assign [.Name x p2] e pos) (tS X.K B G0 KX (Zg i f)):=
 ZL (N8 hN hi hx he hs hf) λD σ H ⟨G,Z,k,a⟩=>by
  refine⟨G,Z,k,?_⟩;unfold Zg sB at a;cases z:f Z with
  |bad=>rw[z]at a;exact a.elim
  |ok ds Z1=>
   rw[z]at a;intro ad vs G' H' k' s' n;dsimp only at a;split at a
   .rename_i hl
    exact a _ G' H' (k'.setOwn n hl) s'
   .exact a.elim
theorem NewL.of{K:Frag}{G H:Hp}{σ:St}{Z:U0}{p:UD}{vs:List V}{ds:xk}(k:EOk K B G0 G H σ Z)(hp:H p=xg)(r:Reps K G vs ds):NewL K B G (upd H p (.lst vs)) σ Z p vs ds where
 b:=k.bh.free hp
 g:=k.gh.free hp
 h:=ZU
 r:=r
 f:=λj es q z=>by obtain⟨a,ws,h1,h2,h3,h4,h5⟩:=k.own j es q;rw[z]at h1;cases h1;rw[hp]at h4;cases h4
 dp:=λj pt d v fp q s rr=>k.freshD (ZT hp) hp q s rr
theorem Lh{f:M xk}(h:PA X es (tDs X.K B G0 f)):PE X (.List es pos) (tL X.K B G0 (Kn f λxs=>if xs.length<=1000000 then U5 xs else λ_=>.bad)):=
 KG (N5 h) λσ H Q ⟨G,Z,k,a⟩=>by
  refine⟨G,Z,k,?_⟩;unfold Kn at a;cases z:f Z with
  |bad=>rw[z]at a;exact a.elim
  |ok ds Z1=>
   rw[z]at a;dsimp only at a;intro v G' H' k' s' r;by_cases c:ds.length<=1000000
   .rw[Qo c]at a
    refine⟨by rw[r.length];exact QR c lim,λp hp=>?_⟩;exact a p v G' _ (k'.ext (Ext.hid k'.gh hp)) s' (NewL.of k' hp r)
   .rw[Qv c]at a;exact a.elim
noncomputable def ZG(i:Nat)(f:M D):SM:=λZ0=>match Z0[i]? with
 |some (O (.own _))=>sB f (λd Z=>match Z[i]? with
  |some (O (.own ds))=>if ds.length<1000000 then .nx (Z.set i (O (.own (ds++[d]))))else .bad
  |_=>.bad) Z0
 |_=>.bad
theorem Mq{i:Nat}{f:M D}{o:UF}{apos cpos:Pos}(ho:PE X o (Zy i))(he:PE X e (tD X.K B G0 f))
  (hbase:attributeBase o "append" X.env (eval o X.env)=eval o X.env:=by rfl)
  (hfew:((backTo cpos (UI [e] X.env)).all (λx=>!x.1)&&(backToKw cpos (keywordEach [] X.env)).all (λx=>x.1.isSome)
   && decide ([e].length+([]:List Keyword).length+(if([]:List Keyword).isEmpty then 0 else 1)<30))=xi:=by rfl)
  (hline:(apos.endLine==cpos.line)=xi:=by rfl) (hs:UI [e] X.env=[(xj,eval e X.env)]:=by rfl)
  (hsw:swapsWith (.Call (.Attribute o "append" apos) [e] [] cpos) xg pos.line X.env=pure xj:=by rfl) :
  PS X (.Expr (.Call (.Attribute o "append" apos) [e] [] cpos) pos) (tS X.K B G0 KX (ZG i f)):=
 ZL (Lu (RX PySem.F.plainAttrs_list PySem.F.slot_list_append PySem.F.type_list_append HB ho (V7 he SB (by rw[hs];rfl)) hbase hfew hline (by rw[hs];rfl) xf) hsw) λD σ H ⟨G,Z,k,a⟩=>by
  unfold ZG at a;cases q0:Z[i]? with
  |none=>rw[q0]at a;exact a.elim
  |some o0=>
   cases o0 with
   |none=>rw[q0]at a;exact a.elim
   |some sl0=>
    cases sl0 with
    |deep _ _=>rw[q0]at a;exact a.elim
    |pub d=>rw[q0]at a;exact a.elim
    |own vf=>
     rw[q0]at a;obtain⟨ad,vs0,h1,h2,h3,h4,h5⟩:=k.own i vf q0;refine⟨.ref ad,h1,.inl ⟨rfl,_,SqL.of h4⟩,G,Z,k,?_⟩;unfold sB at a;cases z:f Z with
     |bad=>rw[z]at a;exact a.elim
     |ok d Z1=>
      rw[z]at a;dsimp only at a;intro v G' H' k' s' r';cases q:Z1[i]? with
      |none=>rw[q]at a;exact a.elim
      |some o=>
       cases o with
       |none=>rw[q]at a;exact a.elim
       |some sl=>
        cases sl with
        |deep _ _=>rw[q]at a;exact a.elim
        |pub d=>rw[q]at a;exact a.elim
        |own ds=>
         rw[q]at a;dsimp only at a;split at a
         .rename_i hl
          obtain⟨ad',vs,g1,g2,g3,g4,g5⟩:=k'.own i ds q;rw[h1]at g1;cases g1;refine⟨ad,vs,v,rfl,rfl,g4,by rw[g5.length];exact Qz hl lim,?_⟩;exact a σ G' _ (k'.change q h1 (g5.append (.cons r' .nil))) s'
         .exact a.elim
end
structure XN(K:Frag)(J:It)(ds:xk)(G1:Hp):Prop where
 go:∀i G H,Same G1 G->Same G H->i<ds.length->J.go i H
 stop:∀i G H,Same G1 G->Same G H->ds.length<=i->J.stop i H
 yld:∀i G H x H' d,Same G1 G->Same G H->ds[i]?=O d->J.yld i H x H'->∃G',Ext G H G' H'/\Rep K G' x d
noncomputable def iD(K:Frag)(B G0:Hp)(f:M xk):TI:=λσ H R=>∃G Z,EOk K B G0 G H σ Z/\match f Z with
 |.ok ds Z'=>∀J G' H',EOk K B G0 G' H' σ Z'->Same G G'->XN K J ds G'->R J H'
 |.bad=>False
section
variable{X:Cx}{B G0:Hp}{KX:XW}{e a b c tg:UF}{pos:Pos}{es rest:xp}{st:Stmt}{sts sts2:List Stmt}
theorem Xx{t t':TI}(h:PI X tg e t)(i:∀σ H R,t' σ H R->t σ H R):PI X tg e t':=λpins s σ H R I q=>h pins s σ H R I (i σ H R q)
theorem tM.toI{K:Frag}{α γ:Type}{R0:Hp->γ->α->Prop}{f:M α}{g:α->M xk}{σ:St}{H:Hp}{R:It->Hp->Prop}{P:γ->Hp->Prop}(q:iD K B G0 (Kn f g) σ H R)
  (i:∀v H' G' Z' x,EOk K B G0 G' H' σ Z'->R0 G' v x->(match g x Z' with
   |.ok ds Z2=>∀J G2 H2,EOk K B G0 G2 H2 σ Z2->Same G' G2->XN K J ds G2->R J H2
   |.bad=>False)->P v H'):tM K B G0 R0 f σ H P:=by
 obtain⟨G,Z,k,a⟩:=q;refine⟨G,Z,k,?_⟩;unfold Kn at a;cases z:f Z with
 |bad=>rw[z]at a;exact a.elim
 |ok d Z1=>
  rw[z]at a;intro v G' H' e s r;refine i v H' G' Z1 d e r ?_;dsimp only at a;cases z2:g d Z1 with
  |bad=>rw[z2]at a;exact a.elim
  |ok ds Z2=>rw[z2]at a;exact λJ G2 H2 k2 s2 it=>a J G2 H2 k2 (s.trans s2) it
theorem jh{K:Frag}{G1:Hp}{ad:UD}{vs:List V}{ds:xk}(h:SqL K G1 ad vs)(r:Reps K G1 vs ds):XN K (Itl K ad) ds G1 where
 go:=λi G H s1 s2 hi=>by
  have hi':i<vs.length:=by rw[r.length];exact hi
  exact⟨vs,vs[i],(s1.trans s2).seq h,Qf hi'⟩
 stop:=λi G H s1 s2 hi=>⟨vs,(s1.trans s2).seq h,by rw[r.length];exact hi⟩
 yld:=λi G H x H' d s1 s2 e y=>by obtain⟨rfl,y⟩:=y;obtain⟨v,e1,r1⟩:=r.get e;have:=y vs ((s1.trans s2).seq h);rw[e1]at this;cases this;exact⟨G,.refl s2,r1.mono s1⟩
noncomputable def Yx(lo hi:Int):xk:=(UK (hi-lo).toNat).map λ(k:Nat)=>.int (lo+k)
theorem X0(lo hi:Int):(Yx lo hi).length=(hi-lo).toNat:=by unfold Yx;rw[Qb,Qq]
theorem GA{K:Frag}{G1:Hp}(lo hi:Int):XN K (Itr lo (hi-lo).toNat) (Yx lo hi) G1 where
 go:=λi G H s1 s2 h=>by rw[X0]at h;exact h
 stop:=λi G H s1 s2 h=>by rw[X0]at h;exact h
 yld:=λi G H x H' d s1 s2 e y=>by
  obtain⟨rfl,rfl⟩:=y;unfold Yx at e;rw[Qd]at e;have hi:i<(UK (hi-lo).toNat).length:=by refine Nat.lt_of_not_le λz=>?_;rw[QE z]at e;cases e
  rw[Qf hi,Ud]at e;cases e;exact⟨G,.refl s2,.int _⟩
noncomputable def Sv:xk->Option xk
 |[.int j]=>if j<=1000000 /\ -1000000<=j then O (Yx 0 j)else xg
 |_=>xg
noncomputable def Su:xk->Option xk
 |[.int i,.int j]=>if j<=1000000 /\ -1000000<=j/\i<=1000000 /\ -1000000<=i then O (Yx i j)else xg
 |_=>xg
noncomputable def XT(f:M xk):M xk:=Kn f λx=>Ko (Sv x)
noncomputable def RP(f:M xk):M xk:=Kn f λx=>Ko (Su x)
theorem qi{f:M xk}{p2:Pos}(hg:Gl X "range")(hm:X.mg "range" = xg)(ha:PA X [a] (tDs X.K B G0 f))(hs:UI [a] X.env=[(xj,eval a X.env)]:=by rfl) :
  PI X tg (.Call (.Name "range" p2) [a] [] pos) (iD X.K B G0 (XT f)):=Xx (jR hg hm ha hs) λσ H R q=>tM.toI (R0:=Reps X.K) q λv H' G' Z' x k r a=>by
 cases z:Sv x with
 |none=>rw[z]at a;exact a.elim
 |some ds=>
  rw[z]at a;unfold Sv at z;split at z
  .split at z
   .rename_i j c
    cases z;obtain⟨w,rfl,r'⟩:=r.one_inv;refine⟨j,by rw[r'.int_inv],by omega,by omega,?_⟩;have it:=GA (K:=X.K) (G1:=G') 0 j;rw[Int.sub_zero]at it;exact a _ G' H' k (.refl _) it
   .cases z
  .cases z
theorem qh{f:M xk}{p2:Pos}(hg:Gl X "range")(hm:X.mg "range" = xg)(ha:PA X [a,b] (tDs X.K B G0 f))(hs:UI [a,b] X.env=[(xj,eval a X.env),(xj,eval b X.env)]:=by rfl)(hs2:UI [b] X.env=[(xj,eval b X.env)]:=by rfl) :
  PI X tg (.Call (.Name "range" p2) [a,b] [] pos) (iD X.K B G0 (RP f)):=Xx (jQ hg hm ha hs hs2) λσ H R q=>tM.toI (R0:=Reps X.K) q λv H' G' Z' x k r a=>by
 cases z:Su x with
 |none=>rw[z]at a;exact a.elim
 |some ds=>
  rw[z]at a;unfold Su at z;split at z
  .split at z
   .rename_i i j c
    cases z;obtain⟨w,w',rfl,r1,r2⟩:=r.two_inv;refine⟨i,j,by rw[r1.int_inv,r2.int_inv],⟨by omega,by omega,by omega,by omega⟩,?_⟩;exact a _ G' H' k (.refl _) (GA i j)
   .cases z
  .cases z
noncomputable def Yv(n:Nat):xk->xk
 |[]=>[]
 |d::r=>.tuple [.int n,d]::Yv (n+1) r
theorem YH:∀(n:Nat)(ds:xk),(Yv n ds).length=ds.length
 |_,[]=>rfl
 |n,d::r=>by rw[Yv,QC,QC,YH]
theorem Na:∀(n:Nat)(ds:xk)(i:Nat),(Yv n ds)[i]?=ds[i]?.map λd=>.tuple [.int ((n+i:Nat):Int),d]
 |_,[],i=>by simp[Yv]
 |n,d::r,0=>by simp[Yv]
 |n,d::r,i+1=>by
  rw[Yv,Ua,Ua,Na (n+1) r i];have:n+1+i=n+(i+1):=by omega
  rw[this]
theorem jg{K:Frag}{G1:Hp}{ad:UD}{vs:List V}{ds:xk}(h:SqL K G1 ad vs)(r:Reps K G1 vs ds):XN K (Ite K ad) (Yv 0 ds) G1 where
 go:=λi G H s1 s2 hi=>by
  rw[YH]at hi;have hi':i<vs.length:=by rw[r.length];exact hi
  exact⟨vs,vs[i],(s1.trans s2).seq h,Qf hi'⟩
 stop:=λi G H s1 s2 hi=>by rw[YH]at hi;exact⟨vs,(s1.trans s2).seq h,by rw[r.length];exact hi⟩
 yld:=λi G H x H' d s1 s2 e y=>by
  obtain⟨p,v,hp,rfl,y,rfl⟩:=y;rw[Na]at e;cases z:ds[i]? with
  |none=>rw[z]at e;cases e
  |some d0=>rw[z]at e;cases e;obtain⟨w,e1,r1⟩:=r.get z;have:=y vs ((s1.trans s2).seq h);rw[e1]at this;cases this;refine⟨upd G p (.tup [.int i,v]),Ext.new s2 hp,.tup (SqT.of ZU) (.cons ?_ (.cons ((r1.mono s1).mono (ZT (s2.free hp))) .nil))⟩;rw[Q6];exact .int _
noncomputable def Re:xk->Option xk
 |[.list ds]=>O (Yv 0 ds)
 |_=>xg
noncomputable def YS(f:M xk):M xk:=Kn f λx=>Ko (Re x)
theorem Lg{f:M xk}{p2:Pos}{elts:xp}{x1}{tp:Pos}(hg:Gl X "enumerate")(hm:X.mg "enumerate" = xg)(ha:PA X [a] (tDs X.K B G0 f))(hs:UI [a] X.env=[(xj,eval a X.env)]:=by rfl) :
  PI X (.Tuple elts x1 tp) (.Call (.Name "enumerate" p2) [a] [] pos) (iD X.K B G0 (YS f)):=Xx (D3 hg hm ha hs) λσ H R q=>tM.toI (R0:=Reps X.K) q λv H' G' Z' x k r a=>by
 cases z:Re x with
 |none=>rw[z]at a;exact a.elim
 |some ds=>
  rw[z]at a;unfold Re at z;split at z
  .cases z
   obtain⟨w,rfl,r'⟩:=r.one_inv;obtain⟨ad,vs,rfl,h1,r1⟩:=r'.lst_inv;exact⟨ad,vs,rfl,k.gh.seq h1,a _ G' H' k (.refl _) (jg h1 r1)⟩
  .cases z
noncomputable def Vp(s:D->U0->xu)(g:SM):xk->SM
 |[],Z=>.nx Z
 |d::r,Z=>match s d Z with
  |none=>.bad
  |some Z1=>match g Z1 with
   |.nx Z2=>Vp s g r Z2
   |.ct Z2=>Vp s g r Z2
   |.bk Z2=>.nx Z2
   |.rt d=>.rt d
   |.ro ds=>.ro ds
   |.ex Z2 d=>.ex Z2 d
   |.bad=>.bad
noncomputable def KI(f:M xk)(s:D->U0->xu)(g:SM):SM:=sB f λds=>Vp s g ds
theorem Oh{iter:UF}{body:List Stmt}{f:M xk}{s:D->U0->xu}{g:SM}(hp:PassesOwn (model X.prog X.w) X.A X.env X.xe)(hc:X.calm=xi)(hi:PI X tg iter (iD X.K B G0 f))(hg:PG X tg (tG X.K B G0 s))(hb:PSs X body (tS X.K B G0 KX g))
  (hs:∀x,UY iter X.env x=pure x:=by intro _;rfl):PS X (.For tg iter body [] pos) (tS X.K B G0 KX (KI f s g)):=
 ZL (Dk hp hc hi hg hb hs) λDn σ H ⟨G,Z,k,a⟩=>by
  refine⟨G,Z,k,?_⟩;unfold KI sB at a;cases z:f Z with
  |bad=>rw[z]at a;exact a.elim
  |ok ds Z1=>
   rw[z]at a;dsimp only at a⊢;intro J G1 H1 k1 s1 it;refine⟨λi m σ' H'=>m=ds.length-i/\∃G' Z',EOk X.K B G0 G' H' σ' Z'/\Same G1 G'/\aftS X.K B G0 KX (Vp s g (ds.drop i) Z') G' Dn,⟨ds.length,by omega,G1,Z1,k1,.refl _,by rw[List.drop_zero];exact aftS.mono s1 a⟩,?_⟩;rintro i m σ' H' ⟨rfl,G',Z',k',s',a'⟩;by_cases hi:i<ds.length
   .right
    refine⟨it.go i G' H' s' k'.gh hi,λσ2 H2=>∃G2 Z2,EOk X.K B G0 G2 H2 σ2 Z2/\Same G1 G2/\aftS X.K B G0 KX (Vp s g (ds.drop (i+1)) Z2) G2 Dn,λσ2 H2 h2=>⟨ds.length-(i+1),by omega,rfl,h2⟩,λx H2 y=>?_⟩;obtain⟨G2,ex,rx⟩:=it.yld i G' H' x H2 ds[i] s' k'.gh (Qf hi) y;rw[QQ hi,Vp]at a';cases z2:s ds[i] Z' with
    |none=>rw[z2]at a';exact a'.elim
    |some Z2=>
     rw[z2]at a';dsimp only at a';refine⟨G2,Z',ds[i],Z2,k'.ext ex,rx,z2,λσ3 G3 H3 k3 s3=>⟨G3,Z2,k3,?_⟩⟩;have s13:Same G1 G3:=(s'.trans ex.g).trans s3;cases z3:g Z2 with
     |nx Z3=>rw[z3]at a';exact λσ4 G4 H4 k4 s4=>⟨G4,Z3,k4,s13.trans s4,aftS.mono ((ex.g.trans s3).trans s4) a'⟩
     |ct Z3=>rw[z3]at a';exact λσ4 G4 H4 k4 s4=>⟨G4,Z3,k4,s13.trans s4,aftS.mono ((ex.g.trans s3).trans s4) a'⟩
     |bk Z3=>rw[z3]at a';exact λσ4 G4 H4 k4 s4=>a' σ4 G4 H4 k4 ((ex.g.trans s3).trans s4)
     |rt d=>rw[z3]at a';exact a'
     |ro ds=>rw[z3]at a';exact a'
     |ex Z3 d=>rw[z3]at a';exact λv σ4 G4 H4 k4 s4 r4=>a' v σ4 G4 H4 k4 ((ex.g.trans s3).trans s4) r4
     |bad=>rw[z3]at a';exact a'.elim
   .left
    rw[Ue (by omega)]at a';exact⟨it.stop i G' H' s' k'.gh (by omega),a' σ' G' H' k' (.refl _)⟩
theorem Bu{k:Nat}{f:UD}{fd:UE}{ps:List Str}{F:xk->xn}{g:M xk}{x:Str}{p2:Pos}{n:Nat}(FK:FnOk X.prog X.w X.K X.mg X.base CX0 k f fd ps (spD X.K n F))(hr:Room k X.A)(hg:Gl X x)(hm:X.mg x=O (.ref f))(hk:PySem.W.keepIn X.K (.ref f)=xi)
  (hb:Vr X.K fd ps []) (ha:PA X (e::es) (tDs X.K B G0 g)) (hn:(e::es).length=n) (hdb:(x==("__debug__" : Str))=xj:=by decide) (he:UI (e::es) X.env=(xj,eval e X.env)::UI es X.env:=by rfl) (hpl:(backTo pos (UI es X.env)).any (·.1)=xj:=by rfl) :
  PE X (.Call (.Name x p2) (e::es) [] pos) (tD X.K B G0 (Kn g λxs=>if xs.length=n then Ko (F xs)else λ_=>.bad)):=
 KG (Bd FK hr hg hm hk hb .nil Fe ha hdb he hpl) λσ H Q q=>tM.one (R:=Reps X.K) q λv H2 G Z ds k r a=>by
  split at a
  .rename_i hl
   obtain⟨d,e,a⟩:=a.opt;exact⟨G,ds,d,by rw[Je,r.length];exact hl,k.gh,by rw[Je];exact r,e,λw G' H' ex rw=>a.done k ex rw⟩
  .exact a.elim
end
noncomputable def Xr(N:List Str)(ds:xk):U0:=(ds.map λd=>O (Sl.pub d))++UL (N.length-ds.length) xg
theorem Bt{K:Frag}{N:List Str}{G H:Hp}{vs:List V}{ds:xk}(s:Same G H)(r:Reps K G vs ds):EOk K H G G H (L2.XX N vs) (Xr N ds) where
 bh:=.refl _
 gh:=s
 g0:=.refl _
 np:=λ_ _ _ n=>n
 len:=by unfold L2.XX Xr;rw[Qm,Qm,Qb,Qb,QF,QF,r.length]
 pub:=λi d q=>by
  unfold Xr at q;unfold L2.XX;by_cases hi:i<ds.length
  .rw[Qw (by rw[Qb];exact hi),Qd]at q
   cases z:ds[i]? with
   |none=>rw[z]at q;cases q
   |some d'=>rw[z]at q;cases q;obtain⟨v,e1,r1⟩:=r.get z;refine⟨v,?_,r1⟩;rw[Qw (by rw[Qb,r.length];exact hi),Qd,e1];rfl
  .rw[Qt (by rw[Qb];omega),QA]at q
   split at q<;>cases q
 own:=λi es q=>by
  unfold Xr at q;by_cases hi:i<ds.length
  .rw[Qw (by rw[Qb];exact hi),Qd]at q
   cases z:ds[i]? with
   |none=>rw[z]at q;cases q
   |some d'=>rw[z]at q;cases q
  .rw[Qt (by rw[Qb];omega),QA]at q
   split at q<;>cases q
 sep:=λi j a es fs q _ _ _=>by
  unfold Xr at q;by_cases hi:i<ds.length
  .rw[Qw (by rw[Qb];exact hi),Qd]at q
   cases z:ds[i]? with
   |none=>rw[z]at q;cases q
   |some d'=>rw[z]at q;cases q
  .rw[Qt (by rw[Qb];omega),QA]at q
   split at q<;>cases q
 dp:=by
  have key:∀{i:Nat}{s:Sl},(Xr N ds)[i]?=O (O s)->∃d,s=.pub d:=λ{i s} q=>by
   unfold Xr at q;by_cases hi:i<ds.length
   .rw[Qw (by rw[Qb];exact hi),Qd]at q
    cases z:ds[i]? with
    |none=>rw[z]at q;cases q
    |some d'=>rw[z]at q;cases q;exact⟨_,rfl⟩
   .rw[Qt (by rw[Qb];omega),QA]at q
    split at q<;>cases q
  exact .of (λi p d q=>by obtain⟨_,e⟩:=key q;cases e) λi ds q=>by obtain⟨_,e⟩:=key q;cases e
noncomputable def Kq(N:List Str)(g:SM)(ds:xk):xn:=match g (Xr N ds)with
 |.rt d=>O d
 |.nx _=>O .none
 |_=>xg
theorem okD{P:UC}{w:World}{K:Frag}{mg:Str->xr}{base:Heap}{x qual:Str}{st:Stmt}{f:UD}{fd:UE}{N ps:List Str}{k n:Nat}{g:SM}(F:Fun K x qual st f fd)(S:Ru N ps (Yk st))(hn:ps.length=n)
  (der:∀(cdv:UA)(A:Around)(outer:List Env)(s:UB)(H:Hp)(E:XK)(B G0:Hp),Room k (A.deeper (envOfC qual (Yk st) s.heap.objs.size f cdv)) ->
   PSs (Xa CX0 P w K mg base N qual (Yk st) f cdv A outer s H E).nox (WC st) (tS K B G0 KX0 g)):FnOk P w K mg base CX0 (k+1) f fd ps (spD K n (Kq N g)):=by
 refine F.ok S (λvs H Q E h=>?_) (λcdv A outer s H vs Q E hr h=>?_)
 .obtain⟨_,_,_,hl,_⟩:=h
  rw[hl,hn]
 .obtain⟨G,ds,d,hl,sg,r,hF,q⟩:=h
  refine⟨_,der cdv A outer s H E H G hr,G,Xr N ds,Bt sg r,?_⟩;unfold Kq at hF;cases z:g (Xr N ds)with
  |rt d'=>rw[z]at hF;cases hF;exact λv G' H' ex rr=>q v G' H' ex rr
  |nx Z=>rw[z]at hF;cases hF;exact λσ' G' H' k' _=>q .non G' H' k'.exit .non
  |ro ds=>rw[z]at hF;cases hF
  |bk Z=>rw[z]at hF;cases hF
  |ct Z=>rw[z]at hF;cases hF
  |ex Z d=>rw[z]at hF;cases hF
  |bad=>rw[z]at hF;cases hF
section
variable{X:Cx}{B G0:Hp}{e a b c tg:UF}{pos:Pos}{es rest:xp}
noncomputable def oNeg:D->xn
 |.int i=>O (.int (-i))
 |_=>xg
noncomputable def Ye(f:M D):M D:=Kn f λx=>Ko (oNeg x)
theorem Lo{f:M D}(h:PE X a (tD X.K B G0 f)):PE X (.UnaryOp .USub a pos) (tD X.K B G0 (Ye f)):=
 KG (Fo De h) λσ H Q q=>tM.one (R:=Rep X.K) q λv H2 G Z x k r a=>by
  cases x with
  |int i=>exact⟨i,r.int_inv,aft.now a k (.int _)⟩
  |_=>exact a.elim
end
def Def(P:UC)(w:World)(K:Frag)(mg:Str->xr)(base:Heap)(x:Str)(k n:Nat)(F:xk->xn):Prop:=
 ∃(f:UD)(fd:UE)(ps:List Str),mg x=O (.ref f)/\PySem.W.keepIn K (.ref f)=xi/\Vr K fd ps []/\FnOk P w K mg base CX0 k f fd ps (spD K n F)
noncomputable def Kb(n:Nat)(F:xk->xn)(g:M xk):M D:=Kn g λxs=>if xs.length=n then Ko (F xs)else λ_=>.bad
section
variable{X:Cx}{B G0:Hp}{e:UF}{pos:Pos}{es:xp}
theorem DE{k n:Nat}{F:xk->xn}{g:M xk}{x:Str}{p2:Pos}(d:Def X.prog X.w X.K X.mg X.base x k n F)(hr:Room k X.A)(hg:Gl X x)(ha:PA X (e::es) (tDs X.K B G0 g))(hn:(e::es).length=n:=by rfl)
  (hdb:(x==("__debug__" : Str))=xj:=by decide) (he:UI (e::es) X.env=(xj,eval e X.env)::UI es X.env:=by rfl) (hpl:(backTo pos (UI es X.env)).any (·.1)=xj:=by rfl) :
  PE X (.Call (.Name x p2) (e::es) [] pos) (tD X.K B G0 (Kb n F g)):=by
 obtain⟨f,fd,ps,h1,h2,h3,h4⟩:=d;exact Bu h4 hr hg h1 h2 h3 ha hn hdb he hpl
end
theorem Def.mk{P:UC}{w:World}{K:Frag}{mg:Str->xr}{base:Heap}{x:Str}{k n:Nat}{F:xk->xn}{st:Stmt}{f:UD}{fd:UE}{ps:List Str}(hm:mg x=O (.ref f))(FU:Fun K x x st f fd)(hb:Vr K fd ps [])(ok:FnOk P w K mg base CX0 k f fd ps (spD K n F)) :
  Def P w K mg base x k n F:=⟨f,fd,ps,hm,FU.kp,hb,ok⟩
theorem F8{K:Frag}{H:Hp}{a:UD}{ns:xm}{F:xk->xn}{E:XK}(hS:SqL K H a (ns.map V.int))(h:F [.list (ns.map int)]=O (.bool xi)):spD K 1 F [.ref a] H (λv _=>v=.bl xi) E:=
 ⟨H,[.list (ns.map int)],.bool xi,rfl,.refl _,.cons (.lst hS (Reps.ints ns)) .nil,h,λ_ _ _ _ r=>r.bl_inv⟩
end DL
namespace L2
open PySem PySem.Spec PyProof.Rows
theorem mem_of_lookup{x:Str}{k:NameKind}:∀{l:List (Str×NameKind)},l.lookup x=O k->(x,k)∈l
 |[],h=>by cases h
 |(y,j)::r,h=>by
  rw[Q2]at h;split at h
  .rename_i e
   cases h;have:x=y:=by simpa using e
   rw[this];exact Qk
  .exact Qi _ (mem_of_lookup h)
theorem Ny{env:Env}:∀(l:List (Str×NameKind))(acc:List (Str×UD)),(∀y∈l,y.2=.free->∃c,env.cells.lookup y.1=O c) ->
  ∃cl,(forIn l acc (λx r=>if(x.2==NameKind.free)=xi then(do let a ←cellOf env x.1;pure (ForInStep.yield ((x.1,a)::r)))else pure (ForInStep.yield r)):Sem (List (Str×UD)))=pure cl /\
   (∀x c,cl.lookup x=O c->acc.lookup x=O c∨env.cells.lookup x=O c)/\(∀y∈l,y.2=.free->∃c,cl.lookup y.1=O c)/\(∀x c,acc.lookup x=O c->∃c',cl.lookup x=O c')
 |[],acc,_=>⟨acc,rfl,λ_ _ h=>.inl h,λ_ h=>absurd h (by simp),λx c h=>⟨c,h⟩⟩
 |(n,k)::r,acc,h=>by
  by_cases hk:k=.free
  .subst hk
   obtain⟨c,hc⟩:=h (n,.free) Qk xf;obtain⟨cl,e,p1,p2,p3⟩:=Ny r ((n,c)::acc) λy hy=>h y (Qi _ hy)
   have hco:cellOf env n=pure c:=by unfold cellOf;rw[hc]
   have key:∀x c',((n,c)::acc).lookup x=O c'->acc.lookup x=O c'∨env.cells.lookup x=O c':=λx c' q=>by
    rw[Q2]at q;split at q
    .rename_i e1
     cases q;have:x=n:=by simpa using e1
     subst this;exact .inr hc
    .exact .inl q
   have own:((n,c)::acc).lookup n=O c:=by rw[List.lookup_cons];simp
   refine⟨cl,?_,λx c' q=>?_,λy hy hf=>?_,λx c' q=>?_⟩
   .rw[List.forIn_cons]
    have:(if(((n,NameKind.free):Str×NameKind).2==NameKind.free)=xi then(do let a ←cellOf env n;pure (ForInStep.yield ((n,a)::acc)))else pure (ForInStep.yield acc):Sem _)=pure (ForInStep.yield ((n,c)::acc)):=by rw[Qo (show((n,NameKind.free).snd==NameKind.free)=xi from rfl),hco];rfl
    refine Eq.trans ?_ e;dsimp only at this⊢;rw[this];rfl
   .rcases p1 x c' q with z|z
    .exact key x c' z
    .exact .inr z
   .rcases QL.mp hy with z|z
    .subst z
     exact p3 n c own
    .exact p2 y z hf
   .by_cases hx:x=n
    .subst hx;exact p3 x c own
    .refine p3 x c' ?_
     have hb:(x==n)=xj:=by simpa using hx
     rw[Q2,hb];exact q
  .obtain⟨cl,e,p1,p2,p3⟩:=Ny r acc λy hy=>h y (Qi _ hy)
   refine⟨cl,?_,p1,λy hy hf=>?_,p3⟩
   .rw[List.forIn_cons]
    have hb:(k==NameKind.free)=xj:=by cases k<;>first|rfl|exact absurd xf hk
    refine Eq.trans ?_ e;dsimp only;rw[hb,Qv (by decide)];rfl
   .rcases QL.mp hy with z|z
    .subst z;exact absurd hf hk
    .exact p2 y z hf
theorem jf{scope:Scope}{env:Env}(h:∀y∈scope.names,y.2=.free->∃c,env.cells.lookup y.1=O c) :
  ∃cl,closureFor scope env=pure cl/\(∀x c,cl.lookup x=O c->env.cells.lookup x=O c)/\∀y∈scope.names,y.2=.free->∃c,cl.lookup y.1=O c:=by
 obtain⟨cl,e,p1,p2,_⟩:=Ny scope.names [] h;refine⟨cl,?_,λx c q=>(p1 x c q).elim (λz=>by cases z) id,p2⟩;have e2:((forIn scope.names [] (λx r=>if(x.2==NameKind.free)=xi then(do let a ←cellOf env x.1;pure (ForInStep.yield ((x.1,a)::r)))else pure (ForInStep.yield r)):Sem (List (Str×UD))) >>= λs=>pure s)=pure cl:=by rw[e];rfl
 exact e2
theorem Gz{env:Env}{x:Str}{k:NameKind}:∀{names:List (Str×NameKind)},(names.map λ(n,k)=>if(k==NameKind.free&&env.scope.kind==.function&&env.kindOf n==O .cell)then(n,NameKind.cell)else(n,k)).lookup x=O k ->
  names.lookup x=O k∨(names.lookup x=O .free/\k=.cell)
 |[],h=>by cases h
 |(n,j)::r,h=>by
  have ih:=@Gz env x k r;have h:List.lookup x ((if(j==NameKind.free&&env.scope.kind==.function&&env.kindOf n==O .cell)=xi then(n,NameKind.cell)else(n,j))::_)=O k:=h;cases hx:x==n with
  |true=>
   by_cases hc:(j==NameKind.free&&env.scope.kind==.function&&env.kindOf n==O .cell)=xi
   .rw[Qo hc]at h
    simp only[Q2,hx]at h⊢;cases h;simp only[Jh]at hc;have:j=.free:=by have:=hc.1.1;cases j<;>first|rfl|cases this
    subst this;exact .inr ⟨rfl,rfl⟩
   .rw[Qv hc]at h
    simp only[Q2,hx]at h⊢;exact .inl h
  |false=>
   by_cases hc:(j==NameKind.free&&env.scope.kind==.function&&env.kindOf n==O .cell)=xi
   .rw[Qo hc]at h
    simp only[Q2,hx]at h⊢;exact ih h
   .rw[Qv hc]at h
    simp only[Q2,hx]at h⊢;exact ih h
theorem GN{env:Env}{x:Str}:∀{names:List (Str×NameKind)},names.lookup x=O .free ->
  (names.map λ(n,k)=>if(k==NameKind.free&&env.scope.kind==.function&&env.kindOf n==O .cell)then(n,NameKind.cell)else(n,k)).lookup x=O .free ∨
  (names.map λ(n,k)=>if(k==NameKind.free&&env.scope.kind==.function&&env.kindOf n==O .cell)then(n,NameKind.cell)else(n,k)).lookup x=O .cell
 |[],h=>by cases h
 |(n,j)::r,h=>by
  have ih:=@GN env x r;show List.lookup x ((if(j==NameKind.free&&env.scope.kind==.function&&env.kindOf n==O .cell)=xi then(n,NameKind.cell)else(n,j))::_)=_∨List.lookup x ((if(j==NameKind.free&&env.scope.kind==.function&&env.kindOf n==O .cell)=xi then(n,NameKind.cell)else(n,j))::_)=_;cases hx:x==n with
  |true=>
   simp only[Q2,hx]at h;cases h;by_cases hc:(NameKind.free==NameKind.free&&env.scope.kind==.function&&env.kindOf n==O .cell)=xi
   .rw[if_pos hc];simp[List.lookup_cons,hx]
   .rw[if_neg hc];simp[List.lookup_cons,hx]
  |false=>
   simp only[Q2,hx]at h;by_cases hc:(j==NameKind.free&&env.scope.kind==.function&&env.kindOf n==O .cell)=xi
   .rw[Qo hc];simp only[Q2,hx];exact ih h
   .rw[Qv hc];simp only[Q2,hx];exact ih h
theorem V9{env:Env}{x:Str}{k:NameKind}(hk:k≠.free):∀{names:List (Str×NameKind)},names.lookup x=O k ->
  (names.map λ(n,k)=>if(k==NameKind.free&&env.scope.kind==.function&&env.kindOf n==O .cell)then(n,NameKind.cell)else(n,k)).lookup x=O k
 |[],h=>by cases h
 |(n,j)::r,h=>by
  have ih:=@V9 env x k hk r;show List.lookup x ((if(j==NameKind.free&&env.scope.kind==.function&&env.kindOf n==O .cell)=xi then(n,NameKind.cell)else(n,j))::_)=_;cases hx:x==n with
  |true=>
   simp only[Q2,hx]at h;cases h;have:(k==NameKind.free)=xj:=by cases k<;>first|rfl|exact absurd xf hk
   rw[if_neg (by rw[this];simp)];simp[List.lookup_cons,hx]
  |false=>
   simp only[Q2,hx]at h;by_cases hc:(j==NameKind.free&&env.scope.kind==.function&&env.kindOf n==O .cell)=xi
   .rw[Qo hc];simp only[Q2,hx];exact ih h
   .rw[Qv hc];simp only[Q2,hx];exact ih h
structure ClOk(env:Env)(scope:Scope)(cl:List (Str×UD))(L:UD)(h':Heap):Prop where
 old:∀x c,cl.lookup x=O c->env.cells.lookup x=O c∨(L<c/\h'.IsCell c xg)
 fre:∀x,scope.names.lookup x=O .free->∃c,cl.lookup x=O c/\env.cells.lookup x=O c
 cel:∀x,scope.names.lookup x=O .cell->∃c,cl.lookup x=O c/\L<c
 inj:∀x y c,cl.lookup x=O c->cl.lookup y=O c->L<c->x=y
theorem RO:∀(names:List (Str×NameKind))(n:Nat)(acc:List (Str×UD)),cellsFrom n names acc=cellsFrom n names []++acc
 |[],_,_=>rfl
 |(x,k)::r,n,acc=>by
  unfold cellsFrom;split
  .rw[RO r (n+1) ((x,n)::acc),RO r (n+1) [(x,n)],Ja];rfl
  .exact RO r n acc
theorem NA:∀(names:List (Str×NameKind))(n:Nat)(x:Str)(c:UD),(x,c)∈cellsFrom n names []->(x,NameKind.cell)∈names
 |[],_,_,_,h=>by cases h
 |(y,k)::r,n,x,c,h=>by
  unfold cellsFrom at h;split at h
  .rename_i hk
   rw[RO]at h;rcases QU.mp h with h|h
   .exact Qi _ (NA r _ x c h)
   .cases QZ.mp h
    have:k=.cell:=by simpa using hk
    rw[this];exact Qk
  .exact Qi _ (NA r _ x c h)
theorem F7{M:Model}{A:Around}{E:UA->UB->Prop}{scope:Scope}{env:Env}{wb:List (Str×UD)}{s:UB}{Q:Env->UB->Prop}(wa:∀x c,wb.lookup x=O c->env.cells.lookup x=O c)(cl2:∀y∈scope.names,y.2=.free->∃c,wb.lookup y.1=O c)(hn:∀y∈scope.names,scope.names.lookup y.1=O y.2)
  (hlt:∀x c,env.cells.lookup x=O c->c<s.heap.objs.size)
  (h:∀h' cl,h'.Ns s.heap.objs.size (λ_=>xg)->(∀b o,s.heap.get? b=O o->h'.get? b=O o)->ClOk env scope cl s.heap.objs.size h'->Q (newEnv scope s.heap.objs.size env.globals cl env.qual xg .none (O env) builtinsNs) {s with heap:=h'}) :
  UH M A (newFunctionEnv scope env.globals wb [] env.qual xg .none (O env)) Q E s:=by
 simp only[newFunctionEnv,Option.isSome_some,if_true];refine Qe (wpAny_alloc ?_);refine wpAny_bind (wpAny_layCells _ (λname kind cells=>by cases hkc:kind==NameKind.cell<;>simp[hkc]) _ _ _ _ ?_);have ok:=cellsFrom_ok scope.names (s.heap.push {cls:=.type "dict", data:=.dict #[]}) (s.heap.objs.size+1) [] ⟨λ_ _ hm=>(nomatch hm),List.Pairwise.nil⟩ (by rw[JE];exact Qs _);rw[JE]at ok;rw[show({s with heap:=s.heap.push {cls:=.type "dict", data:=.dict #[]}}:UB).heap.objs.size=s.heap.objs.size+1 from JE ..];rw[List.forIn_nil];refine Qe (Qn (Qn (h _ _ ((Heap.Ns.new s.heap (.type "dict")).keeps (pushCells_keeps _ _)) (λb o e=>pushCells_keeps _ _ b o (Ql _ e)) ?_)));have look:∀x,(cellsFrom (s.heap.objs.size+1) scope.names wb).lookup x=((cellsFrom (s.heap.objs.size+1) scope.names []).lookup x).or (wb.lookup x):=λx=>by rw[RO,List.lookup_append]
 have own:∀x c,(cellsFrom (s.heap.objs.size+1) scope.names []).lookup x=O c->scope.names.lookup x=O .cell:=λx c e=>hn _ (NA _ _ _ _ (Jl e))
 refine⟨λx c e=>?_,λx e=>?_,λx e=>?_,λx y c e1 e2 hc=>?_⟩
 .rw[look]at e
  cases z:(cellsFrom (s.heap.objs.size+1) scope.names []).lookup x with
  |none=>rw[z]at e;exact .inl (wa x c e)
  |some c'=>rw[z]at e;cases e;obtain⟨h1,h2⟩:=ok.empty x c (Jl z);exact .inr ⟨h2,h1⟩
 .obtain⟨c,hc⟩:=cl2 (x,.free) (mem_of_lookup e) xf
  refine⟨c,?_,wa x c hc⟩;rw[look];cases z:(cellsFrom (s.heap.objs.size+1) scope.names []).lookup x with
  |none=>exact hc
  |some c'=>have:=own x c' z;rw[e]at this;cases this
 .obtain⟨c,hc⟩:=OQ (n:=s.heap.objs.size+1) e
  refine⟨c,by rw[look,hc];rfl,(ok.empty x c (Jl hc)).2⟩
 .rw[look]at e1 e2
  cases z1:(cellsFrom (s.heap.objs.size+1) scope.names []).lookup x with
  |none=>rw[z1]at e1;exact absurd (hlt x c (wa x c e1)) (Nat.lt_asymm hc)
  |some c1=>
  cases z2:(cellsFrom (s.heap.objs.size+1) scope.names []).lookup y with
  |none=>rw[z2]at e2;exact absurd (hlt y c (wa y c e2)) (Nat.lt_asymm hc)
  |some c2=>rw[z1]at e1;rw[z2]at e2;cases e1;cases e2;exact name_of_addr ok.apart (Jl z1) (Jl z2)
noncomputable def Cx.blk(X:Cx)(N':List Str)(scope:Scope)(cl:List (Str×UD))(C:UD)(s₀:UB)(H₀:Hp)(ex:xw):Cx:=
 {X with N:=N',s₀:=s₀,H₀:=H₀,env:=compEnvC scope cl C X.env,outer:=X.stack,ex:=ex,fn:=λx=>scope.names.lookup x==O .cell,xe:=λ_ _=>False}
section
variable{X:Cx}{N':List Str}{scope:Scope}{cl:List (Str×UD)}{C:UD}{s₀:UB}{H₀:Hp}{ex:xw}{x:Str}
noncomputable def visK:Option NameKind->Bool
 |some .local=>xi|some .free=>xi|some .cell=>xi|_=>xj
theorem Ct(h:visK (scope.names.lookup x)=xi):Vis (X.blk N' scope cl C s₀ H₀ ex).env.scope x:=by
 cases z:scope.names.lookup x with
 |none=>rw[z]at h;cases h
 |some y=>
  rw[z]at h;cases y with
  | «local»=>exact .inl (V9 (by decide) z)
  |cell=>exact .inr (.inl (V9 (by decide) z))
  |free=>
   rcases GN (env:=X.env) z with z|z
   .exact .inr (.inr z)
   .exact .inr (.inl z)
  |_=>cases h
noncomputable def locK:Option NameKind->Bool
 |some .local=>xi|some .cell=>xi|_=>xj
theorem SG(h:locK (scope.names.lookup x)=xi):Loc (X.blk N' scope cl C s₀ H₀ ex).env.scope x/\((X.blk N' scope cl C s₀ H₀ ex).fn x=xi∨(X.blk N' scope cl C s₀ H₀ ex).env.scope.names.lookup x=O .local):=by
 cases z:scope.names.lookup x with
 |none=>rw[z]at h;cases h
 |some y=>
  rw[z]at h;cases y with
  | «local»=>exact⟨.inl (V9 (by decide) z),.inr (V9 (by decide) z)⟩
  |cell=>exact⟨.inr (V9 (by decide) z),.inl (by show(scope.names.lookup x==O .cell)=xi;rw[z];rfl)⟩
  |_=>cases h
theorem F6(h:scope.names.lookup x=O .globalImplicit):Gl (X.blk N' scope cl C s₀ H₀ ex) x:=V9 (by decide) h
end
noncomputable def RN(names:List (Str×NameKind))(N N2:List Str)(k:Nat):Bool:=
 N2.length==N.length+k&&(UK N2.length).all λi=>match N2[i]? with
  |none=>xi
  |some x=>match names.lookup x with
   |some .free=>N[i]?==O x
   |some .local=>decide (N.length<=i)&&decide (i<N.length+k)
   |some .cell=>decide (N.length<=i)&&decide (i<N.length+k)
   |_=>xi
theorem kE{names:List (Str×NameKind)}{N N2:List Str}{k:Nat}(h:RN names N N2 k=xi) :
  N2.length=N.length+k/\∀(i:Nat) x,N2[i]?=O x->(names.lookup x=O .free->N[i]?=O x)/\(names.lookup x=O .local∨names.lookup x=O .cell->N.length<=i/\i<N.length+k):=by
 unfold RN at h;simp only[Jh,beq_iff_eq,Jp,Q7]at h;refine⟨h.1,λi x e=>?_⟩;have hi:=(Qg.mp e).1;have:=h.2 i hi;rw[e]at this;refine⟨λq=>?_,λq=>?_⟩
 .simp only[q]at this
  simpa using this
 .rcases q with q|q<;>(simp only[q]at this;simpa using this)
theorem Inv.enter{X:Cx}{pins:List (UD×Obj)}{σ:St}{H:Hp}{s3:UB}(I:Inv X pins σ H s3){scope:Scope}{cl:List (Str×UD)}{N2:List Str}{k:Nat}{h':Heap}{fp:xw}{t':Nat}{m0:Str->xr}
  (hb:RN scope.names X.N N2 k=xi) (hkind:scope.kind=.function)
  (hfree:∀y∈scope.names,y.2=.free->X.env.scope.names.lookup y.1=O .cell∨X.env.scope.names.lookup y.1=O .free)
  (hc:ClOk X.env scope cl s3.heap.objs.size h')
  (hn:h'.Ns s3.heap.objs.size m0) (hk:∀b o,s3.heap.get? b=O o->h'.get? b=O o) (hf:∀b∈fp,ZN X pins H b) (hfo:∀b∈fp,∃o,s3.heap.get? b=O o) :
  Inv (X.blk N2 scope cl s3.heap.objs.size s3 H fp) pins (σ++UL k xg) H {s3 with heap:=h',toks:=t'}:=by
 obtain⟨hl,hN⟩:=kE hb;have lt:∀b o,s3.heap.get? b=O o->b≠s3.heap.objs.size:=λb o e=>QN (Qh e);have ofl:∀x,scope.names.lookup x=O .free->(x,NameKind.free)∈scope.names:=λx h=>mem_of_lookup h;have kinv:∀x kk,(X.blk N2 scope cl s3.heap.objs.size s3 H fp).env.scope.names.lookup x=O kk->scope.names.lookup x=O kk∨(scope.names.lookup x=O .free/\kk=.cell):=λx kk h=>Gz (env:=X.env) h
 have isfc:∀x,(X.blk N2 scope cl s3.heap.objs.size s3 H fp).env.scope.names.lookup x=O .cell∨(X.blk N2 scope cl s3.heap.objs.size s3 H fp).env.scope.names.lookup x=O .free->scope.names.lookup x=O .free∨scope.names.lookup x=O .cell:=λx h=>by
  rcases h with h|h
  .rcases kinv x _ h with z|z
   .exact .inr z
   .exact .inl z.1
  .rcases kinv x _ h with z|z
   .exact .inl z
   .exact .inl z.1
 have lto:∀x c,X.env.cells.lookup x=O c->c<s3.heap.objs.size:=λx c e=>let ⟨_,q⟩:=I.cell x c e;q.lt
 have ok:(X.blk N2 scope cl s3.heap.objs.size s3 H fp).Ok:=
  {
   mod:=I.ok.mod
   kind:=hkind
   glob:=I.ok.glob
   blt:=I.ok.blt
   above:=Qs _
   inj:=λx y c a b=>by
    rcases hc.old x c a with q|⟨q,_⟩
    .rcases hc.old y c b with q'|⟨q',_⟩
     .exact I.ok.inj x y c q q'
     .exact absurd (lto x c q) (Nat.lt_asymm q')
    .exact hc.inj x y c a b q
   has:=λx h=>by
    rcases isfc x h with z|z
    .exact let ⟨c,e,_⟩:=hc.fre x z;⟨c,e⟩
    .exact let ⟨c,e,_⟩:=hc.cel x z;⟨c,e⟩
   cab:=λx c h e=>by
    have z:scope.names.lookup x=O .cell:=by have h:(scope.names.lookup x==O .cell)=xi:=h;simpa using h
    obtain⟨c',e',l⟩:=hc.cel x z;have e:cl.lookup x=O c:=e;rw[e]at e';cases e';exact Uu l
   hd:=I.ok.hd
   frames:=I.ok.frames
   stk:=.inl xf
   exf:=λb hb=>⟨let ⟨o,e⟩:=hfo b hb;lt b o e,λx c e=>by
    rcases hc.old x c e with q|⟨q,_⟩
    .exact(hf b hb).2.2.2.2.1 x c q
    .obtain⟨o,e'⟩:=hfo b hb
     exact Js (Nat.lt_trans (Qh e') q)⟩
   bs:=I.bs
   bsz:=QR I.ok.bsz I.sz
   noex:=λb o e hb=>by
    rcases(hf b hb).2.2.2.1 with z|z
    .exact I.ok.noex b o e z
    .exact absurd (Qz (Qh e) (QR I.ok.bsz z)) (JA _)
   exfs:=λb hb hx=>by
    rcases QL.mp (I.stkSub b hx)with z|z
    .exact(hf b hb).2.1 z
    .exact(hf b hb).2.2.1 z
   funs:=I.stack
   frf:=I.stkFree}
 refine⟨ok,rfl,I.bare,Un.kept hk,⟨m0,hn,λi x v e1 e2 e3=>?_⟩,λx c e=>?_,I.hok.fresh (Qs _),λx c e=>(hc.old x c e).elim (I.freeC x c) λq=>I.hok.fresh (Uu q.1),λp hp=>?_,I.hok.kept hk,?_⟩
 .have nl:¬(scope.names.lookup x=O .local∨scope.names.lookup x=O .cell):=λz=>by
   obtain⟨g1,g2⟩:=(hN i x e1).2 z;rw[←I.len]at g1 g2;rw[Qt g1,QA]at e2;split at e2<;>cases e2
  have fr:scope.names.lookup x=O .free:=by
   rcases e3 with z|z
   .rcases kinv x _ z with q|q
    .exact absurd (.inl q) nl
    .cases q.2
   .rcases isfc x z with q|q
    .exact q
    .exact absurd (.inr q) nl
  have eN:=(hN i x e1).1 fr;have hi:i<σ.length:=by rw[I.len];exact(Qg.mp eN).1
  rw[Qw hi]at e2;obtain⟨m,hm,hlk⟩:=I.loc;have hkd:=hfree _ (ofl x fr) xf;obtain⟨u,r,l⟩:=hlk i x v eN e2 (.inr hkd);refine⟨u,r,.inr ⟨?_,?_⟩⟩
  .rcases e3 with z|z|z
   .rcases kinv x _ z with q|q
    .exact absurd (.inl q) nl
    .cases q.2
   .exact .inl z
   .exact .inr z
  .rcases l with l|⟨_,c,ec,z⟩
   .have:X.env.scope.names.lookup x=O .local:=l.1
    rcases hkd with q|q<;>(dsimp only at q;rw[this]at q;cases q)
   .obtain⟨c',ec',this⟩:=hc.fre x fr
    rw[ec]at this;cases this;obtain⟨o,ho,hd⟩:=z;exact⟨c,ec',o,hk c o ho,hd⟩
 .rcases hc.old x c e with q|⟨_,q⟩
  .obtain⟨v,o,ho,hd⟩:=I.cell x c q
   exact⟨v,o,hk c o ho,hd⟩
  .exact⟨_,q⟩
 .obtain⟨e,n,ne,nf,d⟩:=I.pin p hp
  refine⟨hk _ _ e,n,lt _ _ e,λz=>?_,d⟩;rcases QL.mp (I.stkSub _ z)with q|q
  .exact ne q
  .exact nf q
 .rw[Qm,QF,I.len]
  exact hl.symm
noncomputable abbrev nox:UA->UB->Prop:=λ_ _=>False
def RM(prog:UC)(w:World)(A:Around)(tg:UF)(ifs:xp)(env:Env)(it:UA)(code:Code)(W:(UB->Prop)->UB->Prop):Prop:=
 ∀(R:Result->UB->Prop)(I:Nat->UB->Prop)(n:Nat)(s:UB),I n s ->
  (∀n s,I n s->UH (model prog w) A (pyNext it) (λr s₁=>match r with
   |none=>R (.ok .next) s₁
   |some v=>UH (model prog w) A (letOwnedTupleGo tg it v) (λ_ s₁'=>UH (model prog w) A (assign tg env v) (λ_ s₂=>
     UH (model prog w) A (forIn ifs xi λc r=>if r=xi then do let ok ←isTrue c env (eval c env);pure (ForInStep.yield ok)else pure (ForInStep.yield r)) (λok s₃=>
      if ok=xi then W (λs₅=>∃m,m<n/\I m s₅) s₃ else ∃m,m<n/\I m s₃) nox s₂) nox s₁') nox s₁) nox s)->codeAny (model prog w) A code R s
section
variable{prog:UC}{w:World}{A:Around}{elt tg i:UF}{ifs:xp}{gens:List Comprehension}{scope:Scope}{pos:Pos}{it acc:UA}{env:Env}{j:Nat}
theorem qR(hg:gens[j]?=O ⟨tg,i,ifs,0⟩)(hn:gens[j+1]?=xg):RM prog w A tg ifs env it (.compLoop (.ListComp elt gens scope pos) j it acc env)
  (λQ s=>UH (model prog w) A (eval elt env) (λx s₄=>UH (model prog w) A (call (.builtin "list.append") [acc,x]) (λ_ s₅=>Q s₅) nox s₄) nox s):=by
 intro R I n s h turn;refine codeAny_loop xf I (λn s hI=>?_) n h;show UH _ A ((compTurn (.ListComp elt gens scope pos) j it acc env).onRaise (λx=>do noteFrame x env;theTreesLotGoes x)) _ _ s;refine wpAny_noted ?_;unfold compTurn;dsimp only;simp only[hg,hn];refine Qe (Jv (Qe (QO (turn n s hI) (λr s₁ h₁=>?_) λ_ _ h'=>h'.elim)));cases r with
 |none=>exact Qn h₁
 |some v=>
  refine Qe (QO h₁ (λ_ s₁' h₁'=>?_) λ_ _ h'=>h'.elim);refine Qe (QO h₁' (λ_ s₂ h₂=>Qe (QO h₂ (λok s₃ h₃=>?_) λ_ _ h'=>h'.elim)) λ_ _ h'=>h'.elim);cases ok with
  |false=>exact Qn ⟨rfl,h₃⟩
  |true=>exact Qe (Qe (QO h₃ (λx s₄ h₄=>Qe (QO h₄ (λ_ s₅ h₅=>Qn (Qn ⟨rfl,h₅⟩)) λ_ _ h'=>h'.elim)) λ_ _ h'=>h'.elim))
theorem qQ{xY i1:UF}{ifs1:xp}(hg:gens[j]?=O ⟨tg,i,ifs,0⟩)(hn:gens[j+1]?=O ⟨xY,i1,ifs1,0⟩)(hs:∀x,UY i1 env x=pure x):RM prog w A tg ifs env it (.compLoop (.ListComp elt gens scope pos) j it acc env)
  (λQ s=>UH (model prog w) A (eval i1 env) (λx s₄=>UH (model prog w) A (pyIter x) (λxE s₅=>codeAny (model prog w) A (.compStart (.ListComp elt gens scope pos) (j+1) xE acc env)
   (λr s₆=>match r with | .ok _=>Q s₆ | .error _=>False) s₅) nox s₄) nox s):=by
 intro R I n s h turn;refine codeAny_loop xf I (λn s hI=>?_) n h;show UH _ A ((compTurn (.ListComp elt gens scope pos) j it acc env).onRaise (λx=>do noteFrame x env;theTreesLotGoes x)) _ _ s;refine wpAny_noted ?_;unfold compTurn;dsimp only;simp only[hg,hn];refine Qe (Jv (Qe (QO (turn n s hI) (λr s₁ h₁=>?_) λ_ _ h'=>h'.elim)));cases r with
 |none=>exact Qn h₁
 |some v=>
  refine Qe (QO h₁ (λ_ s₁' h₁'=>?_) λ_ _ h'=>h'.elim);refine Qe (QO h₁' (λ_ s₂ h₂=>Qe (QO h₂ (λok s₃ h₃=>?_) λ_ _ h'=>h'.elim)) λ_ _ h'=>h'.elim);cases ok with
  |false=>exact Qn ⟨rfl,h₃⟩
  |true=>
   refine Qe (QO h₃ (λx s₄ h₄=>Qe (Jv (Qe (wpAny_of_eq (hs x) (Qe (Jw (QO h₄ (λxE s₅ h₅=>?_) λ_ _ h'=>h'.elim))))))) λ_ _ h'=>h'.elim);refine Qe (wpAny_runOwn (codeAny_mono h₅ λr s₆ h₆=>?_));cases r with
   |ok f=>exact Qn ⟨rfl,h₆⟩
   |error x=>exact h₆.elim
theorem kC{R:Result->UB->Prop}{s:UB}(hg:gens[j]?=O ⟨tg,i,ifs,0⟩)
  (h0:codeAny (model prog w) A (.compLoop (.ListComp elt gens scope pos) j it acc env) R s)
  (h:UH (model prog w) A (pyIter it) (λit' s'=>codeAny (model prog w) A (.compLoop (.ListComp elt gens scope pos) j it' acc env) R s') nox s) :
  codeAny (model prog w) A (.compStart (.ListComp elt gens scope pos) j it acc env) R s:=by
 refine codeAny_of_tree ?_;show UH _ _ ((compStart (.ListComp elt gens scope pos) j it acc env).onRaise (λx=>do noteFrame x env;standAt theWindowsPlace)) _ _ s;refine wpAny_notedAt ?_;unfold compStart;have hc:(clausesOf (.ListComp elt gens scope pos))[j]?=O ⟨tg,i,ifs,0⟩:=hg;simp only[hc];show UH _ _ (ask >>= _) _ _ s;refine Qe (wpAny_askSetting (wpAny_ite ?_));split
 .first
   |exact Qe (Qn (Qn (And.intro rfl h0)))
   |exact Qn (And.intro rfl h0)
 .first
   |exact Qe (wpAny_rule (Qe (Jv (Qe (QO h (λit' s' h'=>Qn (And.intro rfl h')) λ_ _ x=>x.elim)))))
   |(refine Qe (wpAny_rule ?_);show UH _ _ (standAt _ >>= _) _ _ s;exact Qe (Jv (Qe (QO h (λit' s' h'=>Qn (And.intro rfl h')) λ_ _ x=>x.elim))))
end
end L2
namespace DL
open PySem PySem.Spec L2
open PyProof.Rows hiding St
noncomputable def XS:Option Sl->Option Sl
 |some (.own _)=>xg
 |some (.deep _ _)=>xg
 |x=>x
noncomputable def Kz(Z:U0):U0:=Z.map XS
theorem qP{Z:U0}{i:Nat}{d:D}(h:(Kz Z)[i]?=O (O (.pub d))):Z[i]?=O (O (.pub d)):=by
 unfold Kz at h;rw[Qd]at h;cases e:Z[i]? with
 |none=>rw[e]at h;cases h
 |some o=>
  rw[e]at h;cases o with
  |none=>cases h
  |some sl=>cases sl with
   |pub d'=>cases h;rfl
   |own ds=>cases h
   |deep p d'=>cases h
theorem WD{Z:U0}{i:Nat}{ds:xk}(h:(Kz Z)[i]?=O (O (.own ds))):False:=by
 unfold Kz at h;rw[Qd]at h;cases e:Z[i]? with
 |none=>rw[e]at h;cases h
 |some o=>
  rw[e]at h;cases o with
  |none=>cases h
  |some sl=>cases sl with
   |pub d'=>cases h
   |own ds=>cases h
   |deep p d'=>cases h
theorem Nx{Z:U0}{i:Nat}{p:Pat}{d:D}(h:(Kz Z)[i]?=O (O (.deep p d))):False:=by
 unfold Kz at h;rw[Qd]at h;cases e:Z[i]? with
 |none=>rw[e]at h;cases h
 |some o=>
  rw[e]at h;cases o with
  |none=>cases h
  |some sl=>cases sl<;>cases h
noncomputable def Zk(s:D->U0->xu)(t:M Bool)(g:M D):xk->U0->xk->Option xk
 |[],_,es=>O es
 |d::r,Z,es=>match s d Z with
  |none=>xg
  |some Z1=>match t Z1 with
   |.bad=>xg
   |.ok b Z2=>if b=xi then(match g Z2 with
     |.bad=>xg
     |.ok e Z3=>if es.length<1000000 then Zk s t g r (Kz Z3) (es++[e])else xg)
    else Zk s t g r (Kz Z2) es
noncomputable def ZB(f:M xk)(k:Nat)(s:D->U0->xu)(t:M Bool)(g:M D):M xk:=λZ=>match f Z with
 |.bad=>.bad
 |.ok ds Z1=>match Zk s t g ds (Kz Z1++UL k xg) []with
  |none=>.bad
  |some es=>.ok es Z1
def Xd(X:Cx)(ifs:xp)(t:TT):Prop:=
 ∀(pins:List (UD×Obj))(s:UB)(σ:St)(H:Hp)(Q:Bool->Hp->Prop),Inv X pins σ H s->t σ H Q ->
  UH (model X.prog X.w) X.A (forIn ifs xi λc r=>if r=xi then do let ok ←isTrue c X.env (eval c X.env);pure (ForInStep.yield ok)else pure (ForInStep.yield r)) (TP X pins σ Q) X.xe s
section
variable{X:Cx}{B G0:Hp}
theorem Cs:Xd X [] (tBo X.K B G0 (U5 xi)):=λpins s σ H Q I ⟨G,Z,k,a⟩=>wpAny_tests_nil ⟨H,I,a xi G H k (.refl _) xf⟩
theorem Ln{c:UF}{t:M Bool}(h:PT X c (tBo X.K B G0 t)):Xd X [c] (tBo X.K B G0 t):=λpins s σ H Q I q=>wpAny_tests_one (h pins s σ H Q I q)
theorem EOk.rebase{K:Frag}{G H:Hp}{σ:St}{Z:U0}(k:EOk K B G0 G H σ Z):EOk K H G G H σ (Kz Z) where
 bh:=.refl _
 gh:=k.gh
 g0:=.refl _
 np:=λ_ _ _ n=>n
 len:=by unfold Kz;rw[Qb];exact k.len
 pub:=λi d q=>k.pub i d (qP q)
 own:=λi ds q=>(WD q).elim
 sep:=λi j a ds es q=>(WD q).elim
 dp:=.of (λ_ _ _ q=>Nx q) λ_ _ q=>WD q
theorem EOk.more{K:Frag}{G H:Hp}{σ:St}{Z:U0}(k:EOk K H G G H σ (Kz Z))(n:Nat):EOk K H G G H (σ++UL n xg) (Kz Z++UL n xg) where
 bh:=.refl _
 gh:=k.gh
 g0:=.refl _
 np:=λ_ _ _ n=>n
 len:=by rw[Qm,Qm,k.len,QF,QF]
 pub:=λi d q=>by
  by_cases hi:i<(Kz Z).length
  .rw[Qw hi]at q
   rw[Qw (by rw[←k.len];exact hi)];exact k.pub i d q
  .rw[Qt (Jg hi),QA]at q
   split at q<;>cases q
 own:=λi ds q=>by
  by_cases hi:i<(Kz Z).length
  .rw[Qw hi]at q
   exact(WD q).elim
  .rw[Qt (Jg hi),QA]at q
   split at q<;>cases q
 sep:=λi j a ds es q=>by
  by_cases hi:i<(Kz Z).length
  .rw[Qw hi]at q
   exact(WD q).elim
  .rw[Qt (Jg hi),QA]at q
   split at q<;>cases q
 dp:=by
  refine .of (λi p d q=>?_) λi ds q=>?_
  .by_cases hi:i<(Kz Z).length
   .rw[Qw hi]at q;exact Nx q
   .rw[Qt (Jg hi),QA]at q;split at q<;>cases q
  .by_cases hi:i<(Kz Z).length
   .rw[Qw hi]at q;exact WD q
   .rw[Qt (Jg hi),QA]at q;split at q<;>cases q
theorem EOk.beside{K:Frag}{G H:Hp}{σ:St}{Z:U0}{a:UD}{o:HO}(k:EOk K B G0 G H σ Z)(hg:G a=xg):EOk K (upd H a o) G G (upd H a o) σ (Kz Z) where
 bh:=.refl _
 gh:=λb u e=>by rw[Zh (λz=>by subst z;rw[hg]at e;cases e)];exact k.gh b u e
 g0:=.refl _
 np:=λ_ _ _ n=>n
 len:=k.rebase.len
 pub:=k.rebase.pub
 own:=λi ds q=>(WD q).elim
 sep:=λi j a ds es q=>(WD q).elim
 dp:=.of (λ_ _ _ q=>Nx q) λ_ _ q=>WD q
theorem lim1:1000000<=UG:=lim
noncomputable def GU:Option Sl->Option Sl
 |some (.own ds)=>O (.pub (.list ds))
 |some (.deep _ d)=>O (.pub d)
 |x=>x
noncomputable def Yn(Z:U0):U0:=Z.map GU
theorem HA{Z:U0}{i:Nat}{d:D}(h:(Yn Z)[i]?=O (O (.pub d))):Z[i]?=O (O (.pub d))∨(∃ds,d=.list ds/\Z[i]?=O (O (.own ds))) ∨ ∃p,Z[i]?=O (O (.deep p d)):=by
 unfold Yn at h;rw[Qd]at h;cases e:Z[i]? with
 |none=>rw[e]at h;cases h
 |some o=>
  rw[e]at h;cases o with
  |none=>cases h
  |some sl=>cases sl with
   |pub d'=>cases h;exact .inl xf
   |own ds=>cases h;exact .inr (.inl ⟨ds,rfl,rfl⟩)
   |deep p d'=>cases h;exact .inr (.inr ⟨p,rfl⟩)
theorem SQ{Z:U0}{i:Nat}{ds:xk}(h:(Yn Z)[i]?=O (O (.own ds))):False:=by
 unfold Yn at h;rw[Qd]at h;cases e:Z[i]? with
 |none=>rw[e]at h;cases h
 |some o=>
  rw[e]at h;cases o with
  |none=>cases h
  |some sl=>cases sl with
   |pub d'=>cases h
   |own ds=>cases h
   |deep p d'=>cases h
theorem Gx{Z:U0}{i:Nat}{p:Pat}{d:D}(h:(Yn Z)[i]?=O (O (.deep p d))):False:=by
 unfold Yn at h;rw[Qd]at h;cases e:Z[i]? with
 |none=>rw[e]at h;cases h
 |some o=>
  rw[e]at h;cases o with
  |none=>cases h
  |some sl=>cases sl<;>cases h
noncomputable def flat:D->Bool
 |.none=>xi | .bool _=>xi | .int _=>xi | .str _=>xi|_=>xj
theorem Rep.flat{K:Frag}{G G':Hp}{v:V}{d:D}(r:Rep K G v d)(h:DL.flat d=xi):Rep K G' v d:=by
 cases r with
 |non=>exact .non
 |bl b=>exact .bl b
 |int i=>exact .int i
 |str x=>exact .str x
 |lst _ _=>cases h
 |tup _ _=>cases h
 |dic _=>cases h
 |exc _ _ _ _=>cases h
 |dct _ _ _ _ _=>cases h
 |dtt _ _ _ _=>cases h
theorem Reps.flat{K:Frag}{G G':Hp}:∀{vs:List V}{ds:xk},Reps K G vs ds->ds.all DL.flat=xi->Reps K G' vs ds
 |_,_,.nil,_=>.nil
 |_,_,.cons r t,h=>by rw[List.all_cons,Jh]at h;exact .cons (r.flat h.1) (Reps.flat t h.2)
theorem EOk.lend{K:Frag}{B G0 G H:Hp}{σ:St}{Z:U0}{D:UD}{o:HO}(k:EOk K B G0 G H σ Z)(hD:H D=xg)(n:Nat):EOk K (upd H D o) H H (upd H D o) (σ++UL n xg) (Yn Z++UL n xg) where
 bh:=.refl _
 gh:=ZT hD
 g0:=.refl _
 np:=λ_ _ _ n=>n
 len:=by unfold Yn;rw[Qm,Qm,Qb,k.len,QF,QF]
 pub:=λi d q=>by
  have hl:(Yn Z).length=Z.length:=by unfold Yn;rw[Qb]
  by_cases hi:i<(Yn Z).length
  .rw[Qw hi]at q
   rw[Qw (by rw[←k.len,←hl];exact hi)];rcases HA q with e|⟨ds,rfl,e⟩|⟨p,e⟩
   .obtain⟨v,h1,h2⟩:=k.pub i d e
    exact⟨v,h1,h2.mono k.gh⟩
   .obtain⟨a,vs,h1,h2,h3,h4,h5⟩:=k.own i ds e
    exact⟨.ref a,h1,.lst (SqL.of h4) (h5.mono k.gh)⟩
   .obtain⟨ω,k1,k2⟩:=k.dp
    obtain⟨v,fp,s,r,_⟩:=k1 i p d e;exact⟨v,s,r.rep k.gh⟩
  .rw[Qt (Jg hi),QA]at q
   split at q<;>cases q
 own:=λi ds q=>by
  by_cases hi:i<(Yn Z).length
  .rw[Qw hi]at q
   exact(SQ q).elim
  .rw[Qt (Jg hi),QA]at q
   split at q<;>cases q
 sep:=λi j a ds es q=>by
  by_cases hi:i<(Yn Z).length
  .rw[Qw hi]at q
   exact(SQ q).elim
  .rw[Qt (Jg hi),QA]at q
   split at q<;>cases q
 dp:=by
  refine .of (λi p d q=>?_) λi ds q=>?_
  .by_cases hi:i<(Yn Z).length
   .rw[Qw hi]at q;exact Gx q
   .rw[Qt (Jg hi),QA]at q;split at q<;>cases q
  .by_cases hi:i<(Yn Z).length
   .rw[Qw hi]at q;exact SQ q
   .rw[Qt (Jg hi),QA]at q;split at q<;>cases q
end
noncomputable def YV(s:D->U0->xu)(t:M Bool)(g:M D):xk->U0->xk->Option (xk×U0)
 |[],Z,es=>O (es,Z)
 |d::r,Z,es=>match s d Z with
  |none=>xg
  |some Z1=>match t Z1 with
   |.bad=>xg
   |.ok b Z2=>if b=xi then(match g Z2 with
     |.bad=>xg
     |.ok e Z3=>if es.length<1000000 then YV s t g r (Kz Z3) (es++[e])else xg)
    else YV s t g r (Kz Z2) es
noncomputable def XZ(s0:D->U0->xu)(t0:M Bool)(f1:M xk)(s1:D->U0->xu)(t1:M Bool)(g:M D):xk->U0->xk->Option xk
 |[],_,es=>O es
 |d::r,Z,es=>match s0 d Z with
  |none=>xg
  |some Z1=>match t0 Z1 with
   |.bad=>xg
   |.ok b Z2=>if b=xi then(match f1 Z2 with
     |.bad=>xg
     |.ok ds Z3=>match YV s1 t1 g ds (Kz Z3) es with
      |none=>xg
      |some (es',Z4)=>XZ s0 t0 f1 s1 t1 g r Z4 es')
    else XZ s0 t0 f1 s1 t1 g r (Kz Z2) es
noncomputable def Rm(f:M xk)(k:Nat)(s:D->U0->xu)(t:M Bool)(f1:M xk)(vY:D->U0->xu)(t1':M Bool)(g:M D):M xk:=λZ=>match f Z with
 |.bad=>.bad
 |.ok ds Z1=>match XZ s t f1 vY t1' g ds (Kz Z1++UL k xg) []with
  |none=>.bad
  |some es=>.ok es Z1
noncomputable def Xm(s0:D->U0->xu)(t0:M Bool)(f1:M xk)(Rd:xk->U0->xk->Option (xk×U0)):xk->U0->xk->Option (xk×U0)
 |[],Z,es=>O (es,Z)
 |d::r,Z,es=>match s0 d Z with
  |none=>xg
  |some Z1=>match t0 Z1 with
   |.bad=>xg
   |.ok b Z2=>if b=xi then(match f1 Z2 with
     |.bad=>xg
     |.ok ds Z3=>match Rd ds (Kz Z3) es with
      |none=>xg
      |some (es',Z4)=>Xm s0 t0 f1 Rd r Z4 es')
    else Xm s0 t0 f1 Rd r (Kz Z2) es
noncomputable def Tf(Rd:xk->U0->xk->Option (xk×U0))(ds:xk)(Z:U0)(es:xk):Option xk:=(Rd ds Z es).map (·.1)
noncomputable def Rl(f:M xk)(k:Nat)(s:D->U0->xu)(t:M Bool)(f1:M xk)(vY:D->U0->xu)(t1':M Bool)(fx2:M xk)(s2':D->U0->xu)(t2':M Bool)(g:M D):M xk:=λZ=>match f Z with
 |.bad=>.bad
 |.ok ds Z1=>match Tf (Xm s t f1 (Xm vY t1' fx2 (YV s2' t2' g))) ds (Kz Z1++UL k xg) []with
  |none=>.bad
  |some es=>.ok es Z1
abbrev RdB:=U0->xk->Option (xk×U0)
noncomputable def rL(g:M D):RdB:=λZ es=>match g Z with
 |.bad=>xg
 |.ok e Z3=>if es.length<1000000 then O (es++[e],Kz Z3)else xg
noncomputable def cT(s:D->U0->xu)(t:M Bool)(rd:RdB):xk->U0->xk->Option (xk×U0)
 |[],Z,es=>O (es,Z)
 |d::r,Z,es=>match s d Z with
  |none=>xg
  |some Z1=>match t Z1 with
   |.bad=>xg
   |.ok b Z2=>if b=xi then(match rd Z2 es with
     |none=>xg
     |some (es',Z')=>cT s t rd r Z' es')
    else cT s t rd r (Kz Z2) es
noncomputable def rN(f:M xk)(s:D->U0->xu)(t:M Bool)(rd:RdB):RdB:=λZ es=>match f Z with
 |.bad=>xg
 |.ok ds Z3=>cT s t rd ds (Kz Z3) es
structure Left(Y:Cx)(D':UD)(pins:List (UD×Obj))(H G:Hp)(es':xk)(Z':U0)(σ':St)(H' G':Hp)(vs':List V)(s':UB):Prop where
 inv:Inv Y pins σ' H' s'
 eok:EOk Y.K H' G' G' H' σ' Z'
 hh:∀a o,a≠D'->H a=O o->H' a=O o
 gg:Same G G'
 np:∀a(u:MO),a≠D'->H a=O u.ho->G a=xg->G' a=xg
 hd:H' D'=O (.lst vs')
 gd:G' D'=xg
 rp:Reps Y.K G' vs' es'
def Ri(Y:Cx)(D':UD)(W:(UB->Prop)->UB->Prop)(rd:RdB):Prop:=
 ∀(pins:List (UD×Obj))(sh:UB)(σ:St)(B1 G1 H G:Hp)(Z Z':U0)(vs:List V)(es es':xk)(Q:UB->Prop),
  Inv Y pins σ H sh->EOk Y.K B1 G1 G H σ Z->B1 D'=O (.lst vs)->G1 D'=xg->Reps Y.K G1 vs es->rd Z es=O (es',Z') ->
  (∀σ' H' G' vs' s',Left Y D' pins B1 G1 es' Z' σ' H' G' vs' s'->Q s')->W Q sh
section
variable{Y:Cx}{D':UD}
theorem qO{elt:UF}{g:M D}(hx:Y.xe=nox)(he:∀B1 G1,PE Y elt (tD Y.K B1 G1 g)) :
  Ri Y D' (λQ s=>UH (model Y.prog Y.w) Y.A (eval elt Y.env) (λx s₄=>UH (model Y.prog Y.w) Y.A (call (.builtin "list.append") [.ref D',x]) (λ_ s₅=>Q s₅) nox s₄) nox s) (rL g):=by
 intro pins sh σ B1 G1 H G Z Z' vs es es' Q I k hD gD r z fin;unfold rL at z;cases zg:g Z with
 |bad=>rw[zg]at z;cases z
 |ok e Z4=>
 rw[zg]at z;dsimp only at z;split at z
 .rename_i hle
  cases z;have h:=he B1 G1 pins sh σ H (λv H8=>∃G8,EOk Y.K B1 G1 G8 H8 σ Z4/\Rep Y.K G8 v e) I ⟨G,Z,k,by unfold aft;rw[zg];exact λv G8 H8 k8 _ q=>⟨G8,k8,q⟩⟩;rw[hx]at h;refine thn h λev s8 ⟨v,H8,I8,rv,G8,k8,r8⟩=>?_;have h2:=HB pins s8 σ H8 (.ref D') [v] (.ref D') [ev] (λ_ H9=>H9=upd H8 D' (.lst (vs++[v]))) I8 xf (.cons rv .nil) ⟨D',vs,v,rfl,rfl,k8.bh _ _ hD,by have:=lim1;rw[r.length];omega,rfl⟩
  rw[hx]at h2;refine thn h2 λ_ s9 ⟨_,H9,I9,_,e9⟩=>?_;subst e9;have g8:=k8.np _ (.l _) hD gD;exact fin σ _ G8 _ s9 ⟨I9,k8.beside g8,λa o z q=>by rw[Zh z];exact k8.bh a o q,k8.g0,λa o _ q w=>k8.np a o q w,ZU,g8,(r.mono k8.g0).append (.cons r8 .nil)⟩
 .cases z
theorem LB{tg:UF}{ifs:xp}{code:Code}{W:(UB->Prop)->UB->Prop}{s:D->U0->xu}{t:M Bool}{rd:RdB}{it:UD}(hx:Y.xe=nox)(hc:Y.calm=xi)(rule:RM Y.prog Y.w Y.A tg ifs Y.env (.ref it) code W)
  (hg:∀B1 G1,PG Y tg (tG Y.K B1 G1 s)) (ht:∀B1 G1,Xd Y ifs (tBo Y.K B1 G1 t)) (hb:Ri Y D' W rd)
  {pins:List (UD×Obj)} {sh:UB} {σ:St} {H G:Hp} {Z ZF:U0} {fp:xw} {tn:Nat->Heap->Prop} {J:It} {ds es esF:xk} {vs:List V} {R:Result->UB->Prop}
  (I:Inv Y pins σ H sh) (T:Turn Y.prog Y.w Y.K tg J fp it tn) (st:tn 0 sh.heap) (hf:∀b∈fp,ZN Y pins H b)
  (k:EOk Y.K H G G H σ Z) (its:XN Y.K J ds G) (hD:H D'=O (.lst vs)) (gD:G D'=xg) (r:Reps Y.K G vs es) (zl:cT s t rd ds Z es=O (esF,ZF))
  (vT:∀σ' H' G' vs' s',Left Y D' pins H G esF ZF σ' H' G' vs' s'->R (.ok .next) s'):codeAny (model Y.prog Y.w) Y.A code R sh:=by
 have stat:∀{H':Hp},(∀b∈fp,H' b=xg)->∀b∈fp,ZN Y pins H' b:=λhn b hb=>⟨hn b hb,(hf b hb).2⟩
 refine rule R (λn s'=>∃i σ' H' G' Z' vs' es',n=ds.length-i/\tn i s'.heap/\(∀b∈fp,H' b=xg)/\Left Y D' pins H G es' Z' σ' H' G' vs' s'/\cT s t rd (ds.drop i) Z' es'=O (esF,ZF)) ds.length sh
  ⟨0,σ,H,G,Z,vs,es,rfl,st,λb hb=>(hf b hb).1,⟨I,k,λ_ _ _ q=>q,.refl _,λ_ _ _ _ n=>n,hD,gD,r⟩,by rw[List.drop_zero];exact zl⟩ ?_
 rintro n s' ⟨i,σ',H',G',Z',vs',es',rfl,tn',fr',⟨I',k',wc,vX,np',v8,gD',r'⟩,zc⟩;by_cases hlt:i<ds.length
 .rw[QQ hlt,cT]at zc
  cases zs:s ds[i] Z' with
  |none=>rw[zs]at zc;cases zc
  |some Z2=>
  rw[zs]at zc;dsimp only at zc;cases zt:t Z2 with
  |bad=>rw[zt]at zc;cases zc
  |ok b Z3=>
  rw[zt]at zc;dsimp only at zc;refine thn (T.item Y xf xf xf hc i pins s' σ' H' nox I' (stat fr') tn' (its.go i G' H' vX k'.gh hlt)) λrr s4 ⟨u,hr,h4⟩=>?_;subst hr;refine thn h4 λ_ s5 ⟨x,H5,I5,r5,y5,xZ,fr5⟩=>?_
  obtain⟨G5,e5,rx⟩:=its.yld i G' H' x H5 ds[i] vX k'.gh (Qf hlt) y5;have h6:=hg H' G' _ s5 σ' H5 x u (λσ6 H6=>∃G6,EOk Y.K H' G' G6 H6 σ6 Z2) (I5.pinned (stat fr5) (T.obj _ _ xZ)) r5 ⟨G5,Z',ds[i],Z2,k'.ext e5,rx,zs,λσ6 G6 H6 k6 _=>⟨G6,k6⟩⟩;rw[hx]at h6;refine thn h6 λ_ s6 ⟨σ6,H6,I6,G6,k6⟩=>?_;have h7:=ht H' G' _ s6 σ6 H6 (λc H7=>c=b/\∃G7,EOk Y.K H' G' G7 H7 σ6 Z3) I6 ⟨G6,Z2,k6,by unfold aft;rw[zt];exact λc G7 H7 k7 _ q=>⟨q,G7,k7⟩⟩
  rw[hx]at h7;refine thn h7 λok s7 ⟨H7,I7,hb7,G7,k7⟩=>?_;subst hb7
  have again:∀{H9:Hp}{σ9:St}{s9:UB},Inv Y (pins++Rn fp s5.heap) σ9 H9 s9->Inv Y pins σ9 H9 s9/\tn (i+1) s9.heap/\∀b∈fp,H9 b=xg:=λ{H9 σ9 s9} I9=>by refine⟨I9.unpinned,T.keep _ _ _ xZ λb hb o e=>(I9.pin (b,o) (QH _ (QH _ (PV hb e)))).1,λb hb=>?_⟩;obtain⟨o,e,d⟩:=T.obj _ _ xZ b hb;exact(I9.pin (b,o) (QH _ (QH _ (PV hb e)))).2.1
  have lt:ds.length-(i+1)<ds.length-i:=Nat.sub_lt_sub_left hlt (Up i);cases ok with
  |false=>rw[Qv (by decide)]at zc⊢;obtain⟨J1,J2,J3⟩:=again I7;exact⟨_,lt,i+1,σ6,H7,G7,Kz Z3,vs',es',rfl,J2,J3,⟨J1,k7.rebase,λa o z q=>k7.bh a o (wc a o z q),vX.trans k7.g0,λa o z q w=>k7.np a o (wc a _ z q) (np' a o z q w),k7.bh _ _ v8,k7.np _ (.l _) v8 gD',r'.mono k7.g0⟩,zc⟩
  |true=>
   rw[Qo xf]at zc⊢;cases ze:rd Z3 es' with
   |none=>rw[ze]at zc;cases zc
   |some pr=>
   obtain⟨es1,Z5⟩:=pr;rw[ze]at zc;refine hb _ s7 σ6 H' G' H7 G7 Z3 Z5 vs' es' es1 _ I7 k7 v8 gD' r' ze λσ9 H9 G9 vs9 s9 L=>?_
   obtain⟨J1,J2,J3⟩:=again L.inv;exact⟨_,lt,i+1,σ9,H9,G9,Z5,vs9,es1,rfl,J2,J3,⟨J1,L.eok,λa o z q=>L.hh a o z (wc a o z q),vX.trans L.gg,λa o z q w=>L.np a o z (wc a _ z q) (np' a o z q w),L.hd,L.gd,L.rp⟩,zc⟩
 .rw[Ue (Jg hlt),cT]at zc
  cases zc;refine thn (T.done Y xf xf xf hc i pins s' σ' H' nox I' (stat fr') tn' (its.stop i G' H' vX k'.gh (Jg hlt))) λrr s4 ⟨hr,I6⟩=>?_
  subst hr;exact vT σ' H' G' vs' s4 ⟨I6,k',wc,vX,np',v8,gD',r'⟩
theorem qN{elt xY i1:UF}{ifs1:xp}{gens:List Comprehension}{scope:Scope}{pos:Pos}{j:Nat}{W:UA->(UB->Prop)->UB->Prop}{f:M xk}{s:D->U0->xu}{t:M Bool}{rd:RdB}(hx:Y.xe=nox)(hc:Y.calm=xi)
  (hn:gens[j+1]?=O ⟨xY,i1,ifs1,0⟩) (rule:∀xE,RM Y.prog Y.w Y.A xY ifs1 Y.env xE (.compLoop (.ListComp elt gens scope pos) (j+1) xE (.ref D') Y.env) (W xE))
  (hi:∀B1 G1,PI Y xY i1 (iD Y.K B1 G1 f)) (hg:∀B1 G1,PG Y xY (tG Y.K B1 G1 s)) (ht:∀B1 G1,Xd Y ifs1 (tBo Y.K B1 G1 t)) (hb:∀xE,Ri Y D' (W xE) rd) :
  Ri Y D' (λQ s=>UH (model Y.prog Y.w) Y.A (eval i1 Y.env) (λx s₄=>UH (model Y.prog Y.w) Y.A (pyIter x) (λxE s₅=>codeAny (model Y.prog Y.w) Y.A (.compStart (.ListComp elt gens scope pos) (j+1) xE (.ref D') Y.env)
   (λr s₆=>match r with | .ok _=>Q s₆ | .error _=>False) s₅) nox s₄) nox s) (rN f s t rd):=by
 intro pins sh σ B1 G1 H G Z Z' vs es es' Q I k hD gD r z fin;unfold rN at z;cases zf:f Z with
 |bad=>rw[zf]at z;cases z
 |ok ds Z3=>
 rw[zf]at z;have h:=hi B1 G1 pins sh σ H (λJ1 H8=>∃G8,EOk Y.K B1 G1 G8 H8 σ Z3/\XN Y.K J1 ds G8) I ⟨G,Z,k,by rw[zf];exact λJ1 G8 H8 k8 _ q=>⟨G8,k8,q⟩⟩;rw[hx]at h;refine thn h λxv s8 h8=>thn h8 λitv s9 h9=>?_
 obtain⟨xE,fp1,tn1,J1,H9,rfl,I9,T1,st9,f9,G9,k9,its9⟩:=h9
 have loop:codeAny (model Y.prog Y.w) Y.A (.compLoop (.ListComp elt gens scope pos) (j+1) (.ref xE) (.ref D') Y.env) (λr s₆=>match r with | .ok _=>Q s₆ | .error _=>False) s9:=
  LB hx hc (rule (.ref xE)) hg ht (hb _) I9 T1 st9 f9 k9.rebase its9 (k9.bh _ _ hD) (k9.np _ (.l _) hD gD) (r.mono k9.g0) z λσ' H' G' vs' s' L=>
   fin σ' H' G' vs' s' ⟨L.inv,L.eok,λa o z q=>L.hh a o z (k9.bh a o q),k9.g0.trans L.gg,λa o z q w=>L.np a o z (k9.bh a _ q) (k9.np a o q w),L.hd,L.gd,L.rp⟩
 exact kC hn loop (T1.self Y.A 0 _ _ _ st9 loop)
end
def Rh(Y:Cx)(e:UF)(j:Nat)(tg:UF)(ifs:xp)(rd:RdB):Prop:=
 ∀(D':UD)(it:UA),∃W,RM Y.prog Y.w Y.A tg ifs Y.env it (.compLoop e j it (.ref D') Y.env) W/\Ri Y D' W rd
section
variable{Y:Cx}{elt tg i:UF}{ifs:xp}{gens:List Comprehension}{scope:Scope}{pos:Pos}{j:Nat}
theorem Hz{g:M D}(hx:Y.xe=nox)(hg:gens[j]?=O ⟨tg,i,ifs,0⟩)(hn:gens[j+1]?=xg)(he:∀B1 G1,PE Y elt (tD Y.K B1 G1 g)):Rh Y (.ListComp elt gens scope pos) j tg ifs (rL g):=
 λ_ _=>⟨_,qR hg hn,qO hx he⟩
theorem qM{xY i1:UF}{ifs1:xp}{f:M xk}{s:D->U0->xu}{t:M Bool}{rd:RdB}(hx:Y.xe=nox)(hc:Y.calm=xi)(hg:gens[j]?=O ⟨tg,i,ifs,0⟩)(hn:gens[j+1]?=O ⟨xY,i1,ifs1,0⟩)(hs:∀x,UY i1 Y.env x=pure x)
  (hi:∀B1 G1,PI Y xY i1 (iD Y.K B1 G1 f)) (hgt:∀B1 G1,PG Y xY (tG Y.K B1 G1 s)) (ht:∀B1 G1,Xd Y ifs1 (tBo Y.K B1 G1 t)) (hb:Rh Y (.ListComp elt gens scope pos) (j+1) xY ifs1 rd):Rh Y (.ListComp elt gens scope pos) j tg ifs (rN f s t rd):=
 λD' _=>⟨_,qQ hg hn hs,qN hx hc hn (λxE=>(Classical.choose_spec (hb D' xE)).1) hi hgt ht (λxE=>(Classical.choose_spec (hb D' xE)).2)⟩
end
noncomputable def YZ(l:Bool)(Z:U0):U0:=match l with|true=>Yn Z|false=>Kz Z
theorem FV{K:Frag}{B G0 G1 H2:Hp}{σ:St}{Z1:U0}{D:UD}(l:Bool)(k1:EOk K B G0 G1 H2 σ Z1)(hfr:H2 D=xg)(n:Nat) :
  ∃Gb,EOk K (upd H2 D (.lst [])) Gb Gb (upd H2 D (.lst [])) (σ++UL n xg) (YZ l Z1++UL n xg)/\Same G1 Gb/\Gb D=xg /\
   ∀(G' H':Hp) vs es,(l=xi->es.all flat=xi)->Same Gb G'->Same H2 H'->Same G' H'->(∀a(u:MO),H2 a=O u.ho->Gb a=xg->G' a=xg)->G' D=xg->Reps K G' vs es->∃Gf,Ext G1 H2 Gf H'/\Gf D=xg/\Reps K Gf vs es:=by
 have gD:G1 D=xg:=k1.gh.free hfr;cases l with
 |false=>exact⟨G1,(k1.beside gD).more n,.refl _,gD,λG' H' vs es _ g h gh np d r=>⟨G',⟨h,g,gh,np⟩,d,r⟩⟩
 |true=>exact⟨H2,k1.lend hfr n,k1.gh,hfr,λG' H' vs es fl _ h _ _ _ r=>⟨G1,⟨h,.refl _,k1.gh.trans h,λ_ _ _ n=>n⟩,gD,r.flat (fl xf)⟩⟩
noncomputable def dCG(l:Bool)(f:M xk)(k:Nat)(s:D->U0->xu)(t:M Bool)(rd:RdB):M xk:=λZ=>match f Z with
 |.bad=>.bad
 |.ok ds Z1=>match cT s t rd ds (YZ l Z1++UL k xg) []with
  |none=>.bad
  |some (es,_)=>if l=xi->es.all flat=xi then .ok es Z1 else .bad
theorem Os{l:Bool}{f:M xk}{k:Nat}{s:D->U0->xu}{t:M Bool}{rd:RdB}{Z Z':U0}{es:xk}(h:dCG l f k s t rd Z=.ok es Z'):∃ds ZF,f Z=.ok ds Z'/\cT s t rd ds (YZ l Z'++UL k xg) []=O (es,ZF)/\(l=xi->es.all flat=xi):=by
 unfold dCG at h;cases zf:f Z with
 |bad=>rw[zf]at h;cases h
 |ok ds Z1=>
 rw[zf]at h;dsimp only at h;cases zl:cT s t rd ds (YZ l Z1++UL k xg) []with
 |none=>rw[zl]at h;cases h
 |some pr=>
 obtain⟨esF,ZF⟩:=pr;rw[zl]at h;dsimp only at h;split at h
 .rename_i hf
  cases h;exact⟨ds,ZF,rfl,zl,hf⟩
 .cases h
section
variable{X:Cx}{B G0:Hp}{KX:XW}
def YC(X:Cx)(N2:List Str)(scope:Scope)(e tg:UF)(ifs:xp)(s:D->U0->xu)(t:M Bool)(rd:RdB):Prop:=
 ∀(cl:List (Str×UD))(C:UD)(s₀:UB)(H₀:Hp)(ex:xw),(∀B' G',PG (X.blk N2 scope cl C s₀ H₀ ex) tg (tG X.K B' G' s))/\(∀B' G',Xd (X.blk N2 scope cl C s₀ H₀ ex) ifs (tBo X.K B' G' t))/\Rh (X.blk N2 scope cl C s₀ H₀ ex) e 0 tg ifs rd
structure Ss(SC scope:Scope)(N1 N2:List Str)(k:Nat):Prop where
 b:RN scope.names N1 N2 k=xi
 kind:scope.kind=.function
 names:∀y∈scope.names,scope.names.lookup y.1=O y.2
 free:∀y∈scope.names,y.2=.free->SC.names.lookup y.1=O .cell∨SC.names.lookup y.1=O .free
theorem O1{l:Bool}{tg elt iter:UF}{ifs:xp}{gs:List Comprehension}{scope:Scope}{pos pos':Pos}{N2:List Str}{k:Nat}{f:M xk}{s:D->U0->xu}{t:M Bool}{rd:RdB}{use:Option (UA->Sem Unit)}{Qc:UA->UB->Prop}(hc:X.calm=xi)
  (hi:PI X tg iter (iD X.K B G0 f)) (xB:YC X N2 scope (.ListComp elt (⟨tg,iter,ifs,0⟩::gs) scope pos) tg ifs s t rd) (hb:Ss X.env.scope scope X.N N2 k) (hs:∀x,UY iter X.env x=pure x)
  {pins:List (UD×Obj)} {s0:UB} {σ:St} {G H:Hp} {Z Z1 ZF:U0} {ds esF:xk} (I:Inv X pins σ H s0) (k0:EOk X.K B G0 G H σ Z) (zf:f Z=.ok ds Z1) (zl:cT s t rd ds (YZ l Z1++UL k xg) []=O (esF,ZF)) (hfl:l=xi->esF.all flat=xi)
  (vT:∀(C D:UD)(vs:List V)(G' H':Hp)(s4:UB)(m:Str->xr),Inv X pins σ H' s4->s4.heap.Ns C m->H' C=xg->C≠X.env.locals->X.s₀.heap.objs.size<=C->(∀x c,X.env.cells.lookup x=O c->c≠C)->(∀p∈X.pn++pins,p.1≠C) ->
   EOk X.K B G0 G' H' σ Z1->Same G G'->NewL X.K B G' H' σ Z1 D vs esF->compPost (model X.prog X.w) X.A X.xe use Qc (.ref D) C (.ok .next) s4) :
  UH (model X.prog X.w) X.A (comprehension (.ListComp elt (⟨tg,iter,ifs,0⟩::gs) scope pos) scope X.env pos' (newList []) xj (eval iter X.env) use) Qc X.xe s0:=by
 obtain⟨wb,hcl,wa,cl2⟩:=jf (scope:=scope) (env:=X.env) λy hy hf=>I.ok.has y.1 (hb.free y hy hf)
 refine wpAny_comprehension_free (use:=use) xf hs hcl hb.kind (λy hy hl=>(hb.names y hy).trans (by rw[hl])) (thn (hi pins s0 σ H (λJ H1=>∃G1,EOk X.K B G0 G1 H1 σ Z1/\Same G G1/\XN X.K J ds G1) I ⟨G,Z,k0,by rw[zf];exact λJ G1 H1 k1 s1 it=>⟨G1,k1,s1,it⟩⟩) λv s1 h1=>thn h1 λitv s2 h2=>?_);obtain⟨it,fp,tn,J,H2,rfl,I2,T,st2,f2,G1,k1,sg1,its⟩:=h2;refine wpAny_newObj_type (F7 wa cl2 hb.names (λx c e=>let ⟨_,q⟩:=I2.cell x c e;Qz q.lt (by first|exact Qs _|(rw[JE];exact JW _))) λh₁ cl hns₁ kept hco=>?_);dsimp only at hns₁ kept hco⊢;have hfr:H2 s2.heap.objs.size=xg:=I2.hok.fresh (Qs _)
 have I3:Inv X pins σ (upd H2 s2.heap.objs.size (.lst [])) {s2 with heap:=s2.heap.push {cls:=.type "list", dict:=xg,data:=.seq ([]:xo).toArray}}:=
  I2.laid (t':=s2.toks) (λb u e=>Ql _ e) (Qs _) ⟨Uc _,[],0,.nil,QB _ xf⟩
 generalize hP:s2.heap.push {cls:=.type "list", dict:=xg,data:=.seq ([]:xo).toArray}=P at I3 hns₁ kept hco⊢;have old:∀b o,s2.heap.get? b=O o->P.get? b=O o:=λb o e=>hP ▸ Ql _ e;have fpo:∀b∈fp,∃o,s2.heap.get? b=O o:=λb hb=>let ⟨o,e,_⟩:=T.obj _ _ st2 b hb;⟨o,e⟩
 have fpD:∀b∈fp,b≠s2.heap.objs.size:=λb hb=>let ⟨o,e⟩:=fpo b hb;QN (Qh e)
 have f3:∀b∈fp,ZN X pins (upd H2 s2.heap.objs.size (.lst [])) b:=λb hb=>⟨by rw[Zh (fpD b hb)];exact(f2 b hb).1,(f2 b hb).2⟩
 have I4:=I3.enter (scope:=scope) (cl:=cl) (N2:=N2) (k:=k) (fp:=fp) (t':=s2.toks) hb.b hb.kind hb.free hco hns₁ kept f3 (λb hb=>let ⟨o,e⟩:=fpo b hb;⟨o,old b o e⟩);dsimp only at I4;obtain⟨Gb,kb,sgb,gbD,ex⟩:=FV l k1 hfr k;have sH:Same H2 (upd H2 s2.heap.objs.size (.lst [])):=ZT hfr;have hD3:upd H2 s2.heap.objs.size (.lst []) s2.heap.objs.size=O (.lst []):=ZU;generalize upd H2 s2.heap.objs.size (.lst [])=H3 at I3 I4 f3 kb sH hD3;generalize s2.heap.objs.size=D at *;have tn0:tn 0 h₁:=T.keep 0 _ _ st2 λb hb o e=>kept b o (old b o e)
 have stat:∀b∈fp,ZN (X.blk N2 scope cl P.objs.size {s2 with heap:=P} H3 fp) pins H3 b:=λb hb=>by
  obtain⟨z0,z1,z2,z3,z4,z5⟩:=f3 b hb;obtain⟨o,e⟩:=fpo b hb;refine⟨z0,QN (Qh (old b o e)),λz=>?_,.inl hb,λx c q=>(hco.old x c q).elim (z4 x c) λw=>Js (Nat.lt_trans (Qh (old b o e)) w.1),z5⟩;rcases QL.mp (I3.stkSub b z)with q|q
  .exact z1 q
  .exact z2 q
 have neD:∀a o,H2 a=O o->a≠D:=λa o q z=>by subst z;rw[hfr]at q;cases q
 obtain⟨hg,ht,hcl'⟩:=xB cl P.objs.size {s2 with heap:=P} H3 fp;obtain⟨W,rule,body⟩:=hcl' D (.ref it)
 have loop:=LB (Y:=X.blk N2 scope cl P.objs.size {s2 with heap:=P} H3 fp) (D':=D) (R:=compPost (model X.prog X.w) X.A X.xe use Qc (.ref D) P.objs.size) xf hc rule hg ht body I4 T tn0 stat kb
  ⟨λi G H s1 s2 hi=>its.go i G H (sgb.trans s1) s2 hi,λi G H s1 s2 hi=>its.stop i G H (sgb.trans s1) s2 hi,λi G H x H' d s1 s2 e y=>its.yld i G H x H' d (sgb.trans s1) s2 e y⟩ hD3 gbD .nil zl λσ' H' G' vs' s4 L=>by
   obtain⟨m,hm,_⟩:=id L.inv.loc;have I7:Inv X pins σ H' s4:=I3.call' (ch:=fp) L.inv.os L.inv.base L.inv.hok L.inv.bare λb hb=>⟨(f3 b hb).2.2.2.1,(f3 b hb).2.1,(f3 b hb).2.2.2.2.1,(f3 b hb).2.2.2.2.2⟩
   obtain⟨Gf,eF,dF,rF⟩:=ex G' H' vs' esF hfl L.gg (λa o q=>L.hh a o (neD a o q) (sH a o q)) L.eok.gh (λa o q z=>L.np a o (neD a _ q) (sH a _ q) z) L.gd L.rp
   refine vT P.objs.size D vs' Gf H' s4 m I7 hm L.inv.free (Js I3.lt) I3.sz (λx c e z=>by obtain⟨_,q⟩:=I3.cell x c e;exact absurd q.lt (by rw[z];exact JA _)) (λp hp z=>by have:=Qh (I3.pin p hp).1;exact absurd this (by rw[z];exact JA _))
    (k1.ext eF) (sg1.trans eF.g) ⟨k1.bh.free hfr,dF,L.hd,rF,λj es' q z=>?_,λj pt d v fp q s r=>k1.freshD eF.h hfr q s r⟩
   obtain⟨a',ws,h1',h2',h3',h4',h5'⟩:=k1.own j es' q;rw[z]at h1';cases h1';rw[hfr]at h4';cases h4'
 exact codeAny_compStart_list loop (T.self X.A 0 _ _ _ tn0 loop)
theorem FT{l:Bool}{tg elt iter:UF}{ifs:xp}{gs:List Comprehension}{scope:Scope}{pos:Pos}{N2:List Str}{k:Nat}{f:M xk}{s:D->U0->xu}{t:M Bool}{rd:RdB}(hc:X.calm=xi)
  (hi:PI X tg iter (iD X.K B G0 f)) (xB:YC X N2 scope (.ListComp elt (⟨tg,iter,ifs,0⟩::gs) scope pos) tg ifs s t rd) (hb:Ss X.env.scope scope X.N N2 k) (hs:∀x,UY iter X.env x=pure x:=by intro _;rfl) :
  PE X (.ListComp elt (⟨tg,iter,ifs,0⟩::gs) scope pos) (tL X.K B G0 (dCG l f k s t rd)):=by
 intro pins s0 σ H Q I ⟨G,Z,k0,a⟩;cases z:dCG l f k s t rd Z with
 |bad=>rw[z]at a;exact a.elim
 |ok es Z1=>
 rw[z]at a;obtain⟨ds,ZF,zf,zl,hfl⟩:=Os z;rw[eval_ListComp];refine O1 hc hi xB hb hs I k0 zf zl hfl λC D vs G' H' s4 m I7 hm hC hL hz hcl hp k' s' n=>?_
 exact⟨m,hm,λh' sb=>⟨.ref D,H',I7.turned (t':=s4.toks) (it:=C) (λb o hb e=>(sb.2 b hb).trans e) hC hL (.inr hz) hcl hp,rfl,a D vs G' H' k' s' n⟩⟩
theorem sD_g{l:Bool}{y:Str}{j:Nat}{py:Pos}{spos:Pos}{tg elt iter:UF}{ifs:xp}{gs:List Comprehension}{scope:Scope}{pos:Pos}{N2:List Str}{k:Nat}{f:M xk}{s:D->U0->xu}{t:M Bool}{rd:RdB}(hN:X.N.Nodup)(hj:X.N[j]?=O y)(hy:X.env.scope.names.lookup y=O .local)(hc:X.calm=xi)
  (hi:PI X tg iter (iD X.K B G0 f)) (xB:YC X N2 scope (.ListComp elt (⟨tg,iter,ifs,0⟩::gs) scope pos) tg ifs s t rd) (hb:Ss X.env.scope scope X.N N2 k) (hs:∀x,UY iter X.env x=pure x:=by intro _;rfl)
  (hsw:swapsWith (.ListComp elt (⟨tg,iter,ifs,0⟩::gs) scope pos) (O (.Name y py)) spos.line X.env=pure xi:=by rfl) :
  PS X (.Assign [.Name y py] (.ListComp elt (⟨tg,iter,ifs,0⟩::gs) scope pos) spos) (tS X.K B G0 KX (Zg j (dCG l f k s t rd))):=by
 intro pins s0 σ H Dn I ⟨G,Z,k0,a⟩;unfold Zg sB at a;cases z:dCG l f k s t rd Z with
 |bad=>rw[z]at a;exact a.elim
 |ok es Z1=>
 rw[z]at a;dsimp only at a;by_cases hl:j<Z1.length
 .rw[Qo hl]at a
  obtain⟨ds,ZF,zf,zl,hfl⟩:=Os z;rw[exec_Assign_Name_used _ _ _ _ hsw];refine Qe (Jv (Qe ?_));show UH _ X.A (do let _ ←comprehension (.ListComp elt (⟨tg,iter,ifs,0⟩::gs) scope pos) scope X.env _ (newList []) xj (eval iter X.env) (O (assign (.Name y py) X.env))) _ _ s0;refine Qe (QO (O1 (use:=O (assign (.Name y py) X.env)) (Qc:=λ_ s'=>SP X pins Dn .next s') hc hi xB hb hs I k0 zf zl hfl λC D vs G' H' s4 m I7 hm hC hL hz hcl hp k' s' n=>?_) (λ_ s' hq=>Qn (Qn hq)) λ_ _ e=>e);show UH _ X.A (assign (.Name y py) X.env (.ref D)) _ _ s4;refine wpAny_assign_Name (Nb I7 hN hj (.inl hy) (v:=.ref D) xf (λs5 I8 ⟨ad,sb,hx⟩=>?_) (.inr hy))
  have hCa:C≠ad:=by
   rcases hx with e|e
   .rw[e];exact hL
   .exact Ne.symm (hcl y ad e)
  refine⟨m,hm.sameBut sb hCa,λh' vh=>⟨_,H',I8.turned (t':=s5.toks) (it:=C) (λb o hb e=>(vh.2 b hb).trans e) hC hL (.inr hz) hcl hp,?_⟩⟩;exact a _ G' H' (k'.setOwn n hl) s'
 .rw[Qv hl]at a;exact a.elim
theorem FS{K:Frag}{f f':M xk}(h:∀Z es Z',f Z=.ok es Z'->f' Z=.ok es Z'){σ:St}{H:Hp}{Q:VK}(q:tL K B G0 f σ H Q):tL K B G0 f' σ H Q:=by
 obtain⟨G,Z,k,a⟩:=q;refine⟨G,Z,k,?_⟩;cases z:f Z with
 |bad=>rw[z]at a;exact a.elim
 |ok es Z'=>rw[z]at a;rw[h Z es Z' z];exact a
theorem Mp{K:Frag}{f f':M xk}{j:Nat}(h:∀Z es Z',f Z=.ok es Z'->f' Z=.ok es Z'){Dn:_}{σ:St}{H:Hp}(q:tS K B G0 KX (Zg j f) Dn σ H):tS K B G0 KX (Zg j f') Dn σ H:=by
 obtain⟨G,Z,k,a⟩:=q;refine⟨G,Z,k,?_⟩;unfold Zg sB at a⊢;cases z:f Z with
 |bad=>rw[z]at a;exact a.elim
 |ok es Z'=>rw[z]at a;rw[h Z es Z' z];exact a
end
theorem O0{s:D->U0->xu}{t:M Bool}{g:M D}:∀{ds:xk}{Z:U0}{es esF:xk},Zk s t g ds Z es=O esF->∃ZF,cT s t (rL g) ds Z es=O (esF,ZF)
 |[],Z,es,esF,h=>by rw[Zk]at h;cases h;exact⟨Z,rfl⟩
 |d::r,Z,es,esF,h=>by
  rw[Zk]at h;rw[cT];cases zs:s d Z with
  |none=>rw[zs]at h;cases h
  |some Z1=>
  rw[zs]at h;dsimp only at h⊢;cases zt:t Z1 with
  |bad=>rw[zt]at h;cases h
  |ok b Z2=>
  rw[zt]at h;dsimp only at h⊢;cases b with
  |false=>exact O0 (ds:=r) h
  |true=>
   rw[Qo xf]at h⊢;unfold rL;cases zg:g Z2 with
   |bad=>rw[zg]at h;cases h
   |ok e Z3=>
   rw[zg]at h;dsimp only at h⊢;split at h
   .rename_i hl
    rw[Qo hl];exact O0 (ds:=r) h
   .cases h
theorem PP{s:D->U0->xu}{t:M Bool}{g:M D}:∀{ds:xk}{Z:U0}{es:xk},YV s t g ds Z es=cT s t (rL g) ds Z es
 |[],Z,es=>rfl
 |d::r,Z,es=>by
  rw[YV,cT];cases s d Z with
  |none=>rfl
  |some Z1=>
  dsimp only;cases t Z1 with
  |bad=>rfl
  |ok b Z2=>
  dsimp only;cases b with
  |false=>exact PP (ds:=r)
  |true=>
   rw[Qo xf,Qo xf];unfold rL;cases g Z2 with
   |bad=>rfl
   |ok e Z3=>
   dsimp only;split
   .exact PP (ds:=r)
   .rfl
theorem PN{s s1:D->U0->xu}{t t1:M Bool}{f:M xk}{Rd:xk->U0->xk->Option (xk×U0)}{rd:RdB}(hR:∀ds Z es,Rd ds Z es=cT s1 t1 rd ds Z es) :
  ∀{ds:xk}{Z:U0}{es:xk},Xm s t f Rd ds Z es=cT s t (rN f s1 t1 rd) ds Z es
 |[],Z,es=>rfl
 |d::r,Z,es=>by
  rw[Xm,cT];cases s d Z with
  |none=>rfl
  |some Z1=>
  dsimp only;cases t Z1 with
  |bad=>rfl
  |ok b Z2=>
  dsimp only;cases b with
  |false=>exact PN hR (ds:=r)
  |true=>
   rw[Qo xf,Qo xf];unfold rN;cases f Z2 with
   |bad=>rfl
   |ok ds Z3=>
   dsimp only;rw[hR];cases cT s1 t1 rd ds (Kz Z3) es with
   |none=>rfl
   |some pr=>exact PN hR (ds:=r)
theorem O9{s s1:D->U0->xu}{t t1:M Bool}{f:M xk}{g:M D}:∀{ds:xk}{Z:U0}{es esF:xk},XZ s t f s1 t1 g ds Z es=O esF->∃ZF,cT s t (rN f s1 t1 (rL g)) ds Z es=O (esF,ZF)
 |[],Z,es,esF,h=>by rw[XZ]at h;cases h;exact⟨Z,rfl⟩
 |d::r,Z,es,esF,h=>by
  rw[XZ]at h;rw[cT];cases zs:s d Z with
  |none=>rw[zs]at h;cases h
  |some Z1=>
  rw[zs]at h;dsimp only at h⊢;cases zt:t Z1 with
  |bad=>rw[zt]at h;cases h
  |ok b Z2=>
  rw[zt]at h;dsimp only at h⊢;cases b with
  |false=>exact O9 (ds:=r) h
  |true=>
   rw[Qo xf]at h⊢;unfold rN;cases zg:f Z2 with
   |bad=>rw[zg]at h;cases h
   |ok ds Z3=>
   rw[zg]at h;dsimp only at h⊢;rw[←PP];cases zl:YV s1 t1 g ds (Kz Z3) es with
   |none=>rw[zl]at h;cases h
   |some pr=>rw[zl]at h;exact O9 (ds:=r) h
theorem LA{f:M xk}{k:Nat}{s:D->U0->xu}{t:M Bool}{g:M D}(Z:U0)(es:xk)(Z':U0)(h:ZB f k s t g Z=.ok es Z'):dCG xj f k s t (rL g) Z=.ok es Z':=by
 unfold ZB at h;unfold dCG;cases zf:f Z with
 |bad=>rw[zf]at h;cases h
 |ok ds Z1=>
 rw[zf]at h;dsimp only[YZ]at h⊢;cases zl:Zk s t g ds (Kz Z1++UL k xg) []with
 |none=>rw[zl]at h;cases h
 |some esF=>
 rw[zl]at h;cases h;obtain⟨ZF,e⟩:=O0 zl;rw[e];exact Qo λz=>by cases z
theorem qL{f f1:M xk}{k:Nat}{s s1:D->U0->xu}{t t1:M Bool}{g:M D}(Z:U0)(es:xk)(Z':U0)(h:Rm f k s t f1 s1 t1 g Z=.ok es Z'):dCG xj f k s t (rN f1 s1 t1 (rL g)) Z=.ok es Z':=by
 unfold Rm at h;unfold dCG;cases zf:f Z with
 |bad=>rw[zf]at h;cases h
 |ok ds Z1=>
 rw[zf]at h;dsimp only[YZ]at h⊢;cases zl:XZ s t f1 s1 t1 g ds (Kz Z1++UL k xg) []with
 |none=>rw[zl]at h;cases h
 |some esF=>
 rw[zl]at h;cases h;obtain⟨ZF,e⟩:=O9 zl;rw[e];exact Qo λz=>by cases z
theorem qK{f f1 f2:M xk}{k:Nat}{s s1 s2:D->U0->xu}{t t1 t2:M Bool}{g:M D}(Z:U0)(es:xk)(Z':U0)(h:Rl f k s t f1 s1 t1 f2 s2 t2 g Z=.ok es Z'):dCG xj f k s t (rN f1 s1 t1 (rN f2 s2 t2 (rL g))) Z=.ok es Z':=by
 unfold Rl at h;unfold dCG;cases zf:f Z with
 |bad=>rw[zf]at h;cases h
 |ok ds Z1=>
 rw[zf]at h;dsimp only[YZ,Tf]at h⊢;rw[PN λ_ _ _=>PN λ_ _ _=>PP]at h;cases zl:cT s t (rN f1 s1 t1 (rN f2 s2 t2 (rL g))) ds (Kz Z1++UL k xg) []with
 |none=>rw[zl]at h;cases h
 |some pr=>
 rw[zl]at h;cases h;exact Qo λz=>by cases z
noncomputable def Vy(q:Option NameKind->Bool)(SC scope:Scope)(N1 N2:List Str)(k:Nat):Bool:=
 RN scope.names N1 N2 k&&decide (scope.kind=.function)&&(scope.names.all λy=>decide (scope.names.lookup y.1=O y.2))&&scope.names.all λy=>match y.2 with
  |.free=>q (SC.names.lookup y.1)
  |_=>xi
noncomputable def Sr:Option NameKind->Bool
 |some .cell=>xi|some .free=>xi|_=>xj
theorem je{q:Option NameKind->Bool}{SC SC' scope:Scope}{N1 N2:List Str}{k:Nat}(h:Vy q SC scope N1 N2 k=xi)(f:∀x,q (SC.names.lookup x)=xi->SC'.names.lookup x=O .cell∨SC'.names.lookup x=O .free):Ss SC' scope N1 N2 k:=by unfold Vy at h;rw[Jh,Jh,Jh,Jp,Jp]at h;obtain⟨⟨⟨h1,h2⟩,h0⟩,h3⟩:=h;refine⟨h1,Qa h2,λy hy=>Qa (h0 y hy),λy hy e=>?_⟩;have:=h3 y hy;rw[e]at this;exact f _ this
theorem Oq{SC scope:Scope}{N1 N2:List Str}{k:Nat}(h:Vy Sr SC scope N1 N2 k=xi):Ss SC scope N1 N2 k:=je h λx e=>by
 cases z:SC.names.lookup x with
 |none=>rw[z]at e;cases e
 |some y=>rw[z]at e;cases y<;>first|exact .inl rfl|exact .inr rfl|cases e
section
variable{X:Cx}{B G0:Hp}{KX:XW}
theorem FR{l:Bool}{tg elt iter:UF}{ifs:xp}{gs:List Comprehension}{scope:Scope}{pos:Pos}{f:M xk}{s:D->U0->xu}{t:M Bool}{rd:RdB}{F:M xk}(SC:Scope)(N1 N2:List Str)(k:Nat)(le:∀Z es Z',F Z=.ok es Z'->dCG l f k s t rd Z=.ok es Z')(hc:X.calm=xi)
  (hi:PI X tg iter (iD X.K B G0 f)) (xB:YC X N2 scope (.ListComp elt (⟨tg,iter,ifs,0⟩::gs) scope pos) tg ifs s t rd) (h1:X.env.scope=SC) (h2:X.N=N1) (hb:Vy Sr SC scope N1 N2 k=xi) (hs:∀x,UY iter X.env x=pure x:=by intro _;rfl) :
  PE X (.ListComp elt (⟨tg,iter,ifs,0⟩::gs) scope pos) (tL X.K B G0 F):=
 KG (FT hc hi xB (by rw[h1,h2];exact Oq hb) hs) λ_ _ _ q=>FS le q
theorem sD_1{l:Bool}{y:Str}{j:Nat}{py:Pos}{spos:Pos}{tg elt iter:UF}{ifs:xp}{gs:List Comprehension}{scope:Scope}{pos:Pos}{f:M xk}{s:D->U0->xu}{t:M Bool}{rd:RdB}{F:M xk}(SC:Scope)(N1 N2:List Str)(k:Nat)(le:∀Z es Z',F Z=.ok es Z'->dCG l f k s t rd Z=.ok es Z')(hN:X.N.Nodup)(hj:X.N[j]?=O y)(hy:X.env.scope.names.lookup y=O .local)(hc:X.calm=xi)
  (hi:PI X tg iter (iD X.K B G0 f)) (xB:YC X N2 scope (.ListComp elt (⟨tg,iter,ifs,0⟩::gs) scope pos) tg ifs s t rd) (h1:X.env.scope=SC) (h2:X.N=N1) (hb:Vy Sr SC scope N1 N2 k=xi) (hs:∀x,UY iter X.env x=pure x:=by intro _;rfl)
  (hsw:swapsWith (.ListComp elt (⟨tg,iter,ifs,0⟩::gs) scope pos) (O (.Name y py)) spos.line X.env=pure xi:=by rfl) :
  PS X (.Assign [.Name y py] (.ListComp elt (⟨tg,iter,ifs,0⟩::gs) scope pos) spos) (tS X.K B G0 KX (Zg j F)):=
 ZL (sD_g hN hj hy hc hi xB (by rw[h1,h2];exact Oq hb) hs hsw) λ_ _ _ q=>Mp le q
end
theorem Bs{f:M xk}{k:Nat}{s vY s2':D->U0->xu}{t t1' t2':M Bool}{f1 f2:M xk}{g:M D}{Z Z1 Z2:U0}{ds es:xk}(h1:f Z=.ok ds Z1)(h2:Xm s t f1 (Xm vY t1' f2 (YV s2' t2' g)) ds (Kz Z1++UL k xg) []=O (es,Z2)) :
  Rl f k s t f1 vY t1' f2 s2' t2' g Z=.ok es Z1:=by
 unfold Rl;rw[h1];dsimp only[Tf];rw[h2];rfl
section
variable{X:Cx}{B G0:Hp}{e a b c tg:UF}{pos:Pos}{es rest:xp}
theorem EOk.given{K:Frag}{G H:Hp}{σ:St}{Z:U0}{a:UD}{vs:List V}{ds:xk}(k:EOk K B G0 G H σ Z)(n:NewL K B G H σ Z a vs ds):EOk K B G0 (upd G a (.lst vs)) H σ Z where
 bh:=k.bh
 gh:=λb u q=>by
  by_cases z:b=a
  .subst z;rw[ZU]at q;cases q;exact n.h
  .rw[Zh z]at q;exact k.gh b u q
 g0:=k.g0.trans (ZT n.g)
 np:=λb o q z=>by
  have zb:b≠a:=λz=>by subst z;rw[n.b]at q;cases q
  rw[Zh zb];exact k.np b o q z
 len:=k.len
 pub:=λi d q=>let ⟨v,h1,h2⟩:=k.pub i d q;⟨v,h1,h2.mono (ZT n.g)⟩
 own:=λi ds q=>by
  obtain⟨b,ws,h1,h2,h3,h4,h5⟩:=k.own i ds q;have zb:b≠a:=λz=>by subst z;exact n.f i ds q h1
  exact⟨b,ws,h1,h2,by rw[Zh zb];exact h3,h4,h5.mono (ZT n.g)⟩
 sep:=k.sep
 dp:=k.dp.map (λ_ _ _ q=>⟨q,rfl⟩) (λ_ ds q=>⟨ds,q,rfl⟩) λi p d v fp q s r w nn=>⟨r.mono (ZT n.g) (.refl _),λb m=>⟨(w b m).1,by rw[Zh (λz=>n.dp i p d v fp q s r (by rw[←z];exact m))];exact(w b m).2⟩⟩
theorem Cr{f:M xk}(h:PE X e (tL X.K B G0 f)):PE X e (tD X.K B G0 (Ke UM f)):=
 KG h λσ H Q ⟨G,Z,k,a⟩=>by
  refine⟨G,Z,k,?_⟩;unfold Ke Kn at a;cases z:f Z with
  |bad=>rw[z]at a;exact a.elim
  |ok ds Z1=>rw[z]at a;intro ad vs G' H' k' s' n;exact a (.ref ad) _ H' (k'.given n) (s'.trans (ZT n.g)) (.lst (SqL.of ZU) (n.r.mono (ZT n.g)))
theorem Br(hc:X.calm=xi):YO X (.builtin "all") (λxs H Q=>∃l,∃bs:List Bool,xs=[.ref l]/\SqL X.K H l (bs.map V.bl)/\Q (.bl (bs.all id)) H):=by
 intro pins s σ H xs us Q I rx h;obtain⟨l,bs,rfl,hq,q⟩:=h;obtain⟨u,rfl,ru⟩:=rx.one;cases ru;obtain⟨its,rv,p,hz⟩:=I.list hq;have hl:=p.isList;have hlt:l<s.heap.objs.size:=by obtain⟨_,e,_⟩:=id hl;exact Qh e
 have key:∀(i:Nat) v,its.toArray[i]?=O v->∃t,bs[i]?=O t/\v=.bool t:=λi v e=>by
  have e:its[i]?=O v:=by simpa using e
  have hi:i<bs.length:=by have:=(Qg.mp e).1;have h2:=rv.length;rw[Qb]at h2;omega
  obtain⟨u,e2,r2⟩:=rv.get (i:=i) (x:=.bl bs[i]) (by rw[Qd,Qf hi];rfl);rw[e]at e2;cases e2;exact⟨bs[i],Qf hi,r2⟩
 refine call_all_walk (JF hl ?_)
 refine⟨s.heap.objs.size,[s.heap.objs.size,l],[s.heap.objs.size],its.toArray.size,_,_,λi=>(bs[i]?).getD xi,rfl,Walks.list (A:=X.A.in1) (I.ok.hd hc) _ l (QN hlt) its.toArray,
  ⟨⟨_,QB _ xf,rfl,rfl⟩,hl.push _⟩,λi v s' Q' E' hP hQ=>?_,λh' tk hk=>?_⟩
 .obtain⟨b,e,rfl⟩:=key i v hP
  simp only[e,Ub]at hQ;exact QX hQ
 .have hn:its.toArray.size=bs.length:=by have:=rv.length;rw[List.length_map]at this;simp;omega
  have e:((UK its.toArray.size).all λi=>(bs[i]?).getD xi)=bs.all id:=by
   rw[hn,JN,Jp,Jp];constructor
   .intro h b hb
    obtain⟨i,hi,e⟩:=List.getElem_of_mem hb;have:=h i (Q7.mpr hi);simp only[Qf hi,Ub,e]at this;exact this
   .intro h i hi
    have hi':=Q7.mp hi;simp only[Qf hi',Ub];exact h _ (JP hi')
  rw[e];exact⟨.bl (bs.all id),H,I.kept (t':=tk) λb x e=>hk b x (λhm=>by rw[QZ.mp hm]at e;exact JA _ (Qh e)) (Ql _ e),rfl,q⟩
noncomputable def VI:xk->Option (List Bool)
 |[]=>O []
 |.bool b::r=>(VI r).map (b :: ·)
 |_=>xg
theorem GM{K:Frag}{G:Hp}:∀{vs:List V}{ds:xk}{bs:List Bool},Reps K G vs ds->VI ds=O bs->vs=bs.map V.bl
 |_,_,bs,.nil,e=>by cases e;rfl
 |_,_,bs,.cons (d:=d) r t,e=>by
  cases d with
  |bool b=>
   unfold VI at e;cases z:VI _ with
   |none=>rw[z]at e;cases e
   |some cs=>rw[z]at e;cases e;rw[r.bl_inv,GM t z];rfl
  |_=>cases e
noncomputable def Yq:xk->xn
 |[.list ds]=>(VI ds).map λbs=>.bool (bs.all id)
 |_=>xg
theorem FQ(hc:X.calm=xi):Y3 X (.builtin "all") Yq:=by
 refine⟨_,Br hc,λvs G H ds d Q s r e k=>?_⟩;unfold Yq at e;split at e
 .rename_i ds
  cases z:VI ds with
  |none=>rw[z]at e;cases e
  |some bs=>rw[z]at e;cases e;obtain⟨v,rfl,q⟩:=r.one_inv;obtain⟨l,ws,rfl,h1,r1⟩:=q.lst_inv;have hw:=GM r1 z;subst hw;exact⟨l,bs,rfl,s.seq h1,k _ G H (.refl s) (.bl _)⟩
 .cases e
noncomputable def Its(x:Str):It:=⟨λi _=>i<x.cps.size,λi H v H'=>H'=H/\∃c,x.cps[i]?=O c/\v=.str ⟨#[c]⟩,λi _=>x.cps.size<=i⟩
theorem Bq{P:UC}{w:World}{K:Frag}{tg:UF}(x:Str)(t:Tok)(it:UD):Turn P w K tg (Its x) [it] it (λi h=>h.IsStrIter it (strIterType x) x t i) where
 mem:=by simp
 obj:=λi h st b hb=>by
  have e:b=it:=by simpa using hb
  subst e;obtain⟨o,e,c,d⟩:=st;exact⟨o,e,λv z=>by rw[d]at z;cases z⟩
 keep:=λi h h' st k=>by obtain⟨o,e,c,d⟩:=st;exact⟨o,k it (by simp) o e,c,d⟩
 item:=by
  intro X hP hw hK hc i pins s σ H E I hf st hg;subst hP hw hK;obtain⟨f0,f1,f2,f3,f4,f5⟩:=hf it (by simp);have hx:x.cps[i]?=O x.cps[i]:=JZ hg
  have fin:∀h' tk(T:String),strIterType x=T->h'.IsStrIter it T x t (i+1)->Heap.SameBut it s.heap h'->["enumerate", "zip", "dict_itemiterator", "dict_reverseitemiterator", "odict_iterator", "itertools.zip_longest", "itertools.pairwise"].contains T=xj ->
    ∃u,O (Value.str ⟨#[x.cps[i]]⟩ s.toks)=O u/\UH (model X.prog X.w) X.A (letOwnedTupleGo tg (.ref it) u) (λ_ s2=>∃v H',Inv X pins σ H' s2/\RelV v u/\(Its x).yld i H v H'/\s2.heap.IsStrIter it (strIterType x) x t (i+1)/\∀b∈[it],H' b=xg) E {s with heap:=h',toks:=tk}:=by
   intro h' tk T eT st' sb hn;have I1:Inv X pins σ H {s with heap:=h',toks:=tk}:=I.turned (t':=tk) (λb o hb e=>(sb.2 b hb).trans e) f0 f1 f3 f4 f5;obtain⟨o,e,c,d⟩:=id st';refine⟨_,rfl,RW (s:={s with heap:=h',toks:=tk}) e c d hn ⟨.str ⟨#[x.cps[i]]⟩,H,I1,⟨_,rfl⟩,⟨rfl,_,hx,rfl⟩,by rw[eT];exact st',λb hb=>(hf b hb).1⟩⟩
  cases ha:x.cps.all (· < 128)with
  |true=>
   have eT:strIterType x = "str_ascii_iterator" :=by simp[strIterType,ha]
   rw[eT]at st;exact wpAny_pyNext_ascii_item st hx λh' st' sb=>fin h' _ _ eT st' sb (by decide)
  |false=>
   have eT:strIterType x = "str_iterator" :=by simp[strIterType,ha]
   rw[eT]at st;exact wpAny_pyNext_wide_item st hx λh' st' sb=>fin h' _ _ eT st' sb (by decide)
 done:=by
  intro X hP hw hK hc i pins s σ H E I hf st hg;subst hP hw hK;obtain⟨f0,f1,f2,f3,f4,f5⟩:=hf it (by simp);have hx:x.cps[i]?=xg:=Array.getElem?_eq_none hg;cases ha:x.cps.all (· < 128)with
  |true=>
   have eT:strIterType x = "str_ascii_iterator" :=by simp[strIterType,ha]
   rw[eT]at st;exact wpAny_pyNext_ascii_end (I.ok.hd hc) st hx λh' eb=>⟨rfl,I.turned (t':=s.toks) (λb o hb e=>eb b o hb e) f0 f1 f3 f4 f5⟩
  |false=>
   have eT:strIterType x = "str_iterator" :=by simp[strIterType,ha]
   rw[eT]at st;exact wpAny_pyNext_wide_end (I.ok.hd hc) st hx λh' eb=>⟨rfl,I.turned (t':=s.toks) (λb o hb e=>eb b o hb e) f0 f1 f3 f4 f5⟩
 self:=λA i s Q E st h=>by
  cases ha:x.cps.all (· < 128)with
  |true=>
   have eT:strIterType x = "str_ascii_iterator" :=by simp[strIterType,ha]
   rw[eT]at st;exact wpAny_pyIter_striter_ascii st h
  |false=>
   have eT:strIterType x = "str_iterator" :=by simp[strIterType,ha]
   rw[eT]at st;exact wpAny_pyIter_striter_wide st h
noncomputable def iAny(K:Frag)(tl:TE):TI:=λσ H R=>tl σ H λx H1=>(∃a,x=.ref a/\(∃xs,SqL K H1 a xs)/\R (Itl K a) H1)∨(∃a,x=.ref a/\(∃xs,SqT K H1 a xs)/\R (Itt K a) H1) ∨ ∃z,x=.str z/\R (Its z) H1
theorem F5{l:UF}{tl:TE}(hl:PE X l tl):PI X tg l (iAny X.K tl):=by
 intro pins s σ H R I h;refine thn (hl pins s σ H _ I h) λv s1 ⟨x,H1,I1,r1,q1⟩=>?_
 have fpOk:∀b∈[s1.heap.objs.size],ZN X pins H1 b:=λb hb=>by
  have e:b=s1.heap.objs.size:=by simpa using hb
  subst e;exact I1.fpOk (Qs _) (I1.hok.fresh (Qs _))
 rcases q1 with ⟨a,e,⟨xs,hq⟩,q⟩|⟨a,e,⟨xs,hq⟩,q⟩|⟨z,e,q⟩
 .subst e
  cases r1;obtain⟨its,rv,p,hz⟩:=I1.list hq;refine JF p.isList ?_;exact⟨s1.heap.objs.size,[s1.heap.objs.size],_,_,H1,rfl,I1.kept (t':=s1.toks) λb o e=>Ql _ e,jS a _,⟨_,QB _ xf,rfl,rfl⟩,fpOk,q⟩
 .subst e
  cases r1;obtain⟨its,rv,p,hz⟩:=I1.tuple hq;refine wpAny_pyIter_tuple p ?_;exact⟨s1.heap.objs.size,[s1.heap.objs.size],_,_,H1,rfl,I1.kept (t':=s1.toks) λb o e=>Ql _ e,jq a _,⟨_,QB _ xf,rfl,rfl⟩,fpOk,q⟩
 .subst e
  obtain⟨t,rfl⟩:=r1;refine wpAny_pyIter_strU ?_;exact⟨s1.heap.objs.size,[s1.heap.objs.size],_,_,H1,rfl,I1.kept (t':=s1.toks) λb o e=>Ql _ e,Bq z t _,⟨_,QB _ xf,rfl,rfl⟩,fpOk,q⟩
noncomputable def Rk(z:Str):xk:=z.cps.toList.map λc=>.str ⟨#[c]⟩
noncomputable def OH:D->Option xk
 |.list ds=>O ds
 |.tuple ds=>O ds
 |.str z=>O (Rk z)
 |_=>xg
theorem kx{K:Frag}{G1:Hp}{ad:UD}{vs:List V}{ds:xk}(h:SqT K G1 ad vs)(r:Reps K G1 vs ds):XN K (Itt K ad) ds G1 where
 go:=λi G H s1 s2 hi=>by
  have hi':i<vs.length:=by rw[r.length];exact hi
  exact⟨vs,vs[i],Y6 (s1.trans s2) h,Qf hi'⟩
 stop:=λi G H s1 s2 hi=>⟨vs,Y6 (s1.trans s2) h,by rw[r.length];exact hi⟩
 yld:=λi G H x H' d s1 s2 e y=>by obtain⟨rfl,y⟩:=y;obtain⟨v,e1,r1⟩:=r.get e;have:=y vs (Y6 (s1.trans s2) h);rw[e1]at this;cases this;exact⟨G,.refl s2,r1.mono s1⟩
theorem qJ{K:Frag}{G1:Hp}{z:Str}:XN K (Its z) (Rk z) G1 where
 go:=λi G H s1 s2 hi=>by unfold Rk at hi;simpa[Its]using hi
 stop:=λi G H s1 s2 hi=>by unfold Rk at hi;simpa[Its]using hi
 yld:=λi G H x H' d s1 s2 e y=>by
  obtain⟨rfl,c,hc,rfl⟩:=y;unfold Rk at e;rw[Qd]at e;have:z.cps.toList[i]?=O c:=by simpa using hc
  rw[this]at e;cases e;exact⟨G,.refl s2,.str _⟩
noncomputable def Zb(f:M D):M xk:=Kn f λx=>Ko (OH x)
theorem Og{f:M D}(h:PE X e (tD X.K B G0 f)):PI X tg e (iD X.K B G0 (Zb f)):=Xx (F5 h) λσ H R q=>tM.toI (R0:=Rep X.K) q λv H' G' Z' x k r a=>by
 cases x with
 |list ds=>obtain⟨ad,vs,rfl,h1,r1⟩:=r.lst_inv;exact .inl ⟨ad,rfl,⟨vs,k.gh.seq h1⟩,a _ G' H' k (.refl _) (jh h1 r1)⟩
 |tuple ds=>obtain⟨ad,vs,rfl,h1,r1⟩:=r.tup_inv;exact .inr (.inl ⟨ad,rfl,⟨vs,Y6 k.gh h1⟩,a _ G' H' k (.refl _) (kx h1 r1)⟩)
 |str z=>have:=r.str_inv;subst this;exact .inr (.inr ⟨z,rfl,a _ G' H' k (.refl _) qJ⟩)
 |_=>exact a.elim
noncomputable def inS(i j:Str):Bool:=!(Builtin.Str.occurrences j i 0 j.length 1).isEmpty
noncomputable def oInS:D->D->xy
 |.str i,.str j=>O (inS i j)
 |_,_=>xg
noncomputable def NF:D->D->xy
 |.str i,.str j=>O (!inS i j)
 |_,_=>xg
theorem FP:OpB X (UJ .In) oInS:=⟨_,qx,λv u G H x y d Q s rx ry e k=>by
 unfold oInS at e;split at e
 .cases e
  have:=rx.str_inv;subst this;have:=ry.str_inv;subst this;exact⟨_,_,rfl,rfl,k⟩
 .cases e⟩
theorem F4:OpB X (UJ .NotIn) NF:=⟨_,kH,λv u G H x y d Q s rx ry e k=>by
 unfold NF at e;split at e
 .cases e
  have:=rx.str_inv;subst this;have:=ry.str_inv;subst this;exact⟨_,_,rfl,rfl,k⟩
 .cases e⟩
theorem FO{x:Str}{i:Int}(hg:Gl X x)(hm:∃t,X.mg x=O (.int i t))(hd:(x==("__debug__" : Str))=xj:=by decide):PE X (.Name x pos) (tD X.K B G0 (U5 (.int i))):=by obtain⟨t,hm⟩:=hm;exact KG (Lv (v:=.int i) hg hm ⟨t,rfl⟩ hd) λσ H Q ⟨G,Z,k,a⟩=>aft.now a k (.int _)
end
section
variable{X:Cx}{B G0:Hp}{KX:XW}{e o a b c tg i:UF}{pos p2:Pos}{es rest:xp}{te to ti:TE}
noncomputable def F3(te to ti:TE):TS:=λD σ H=>te σ H λv H1=>to σ H1 λx H2=>ti σ H2 λk H3=>∃l xs n,x=.ref l/\H3 l=O (.lst xs)/\k=.int n/\0<=n/\n<xs.length/\D.nx σ (upd H3 l (.lst (xs.set n.toNat v)))
theorem Bp(he:PE X e te)(ho:PE X o to)(hi:PE X i ti)(hs:swapsWith e (O (.Subscript o i p2)) pos.line X.env=pure xj:=by rfl):PS X (.Assign [.Subscript o i p2] e pos) (F3 te to ti):=by
 intro pins s σ H D I h;refine wpAny_Assign_Subscript (thn (he pins s σ H _ I h) λv s1 ⟨x,H1,I1,r1,q1⟩=>thn (ho pins s1 σ H1 _ I1 q1) λov s2 ⟨y,H2,I2,r2,q2⟩=>thn (hi pins s2 σ H2 _ I2 q2) λiv s3 ⟨k,H3,I3,r3,q3⟩=>?_) hs;obtain⟨l,xs,n,rfl,hl,rfl,h0,h1,q⟩:=q3;cases r2;obtain⟨t,rfl⟩:=r3;obtain⟨z,its,m,r,hlen,ee⟩:=I3.lstM hl
 refine PySem.W.ki_setAt (items:=its.toArray) (n:=m) ee h0 (by
                                  have:UG<2 ^ 63:=by decide
                                  omega) (by simp;omega) ?_
 refine⟨σ,_,I3.lset (t':=s3.toks) (its:=its) (its':=its.set n.toNat v) (f:=(·.setIfInBounds n.toNat v)) hl ee (by simp) (r.set r1 n.toNat) (by rw[List.length_set];exact z),q⟩
noncomputable def VT(j:Nat)(g f:M D):SM:=sB f λd Z1=>match Z1[j]? with
 |some (O (.own _))=>sB g (λy Z2=>match y with
  |.int k=>(match Z2[j]? with
   |some (O (.own ds))=>if 0<=k/\k<ds.length then .nx (Z2.set j (O (.own (ds.set k.toNat d))))else .bad
   |_=>.bad)
  |_=>.bad) Z1
 |_=>.bad
theorem Lm{j:Nat}{f g:M D}(he:PE X e (tD X.K B G0 f))(ho:PE X o (Zy j))(hi:PE X i (tD X.K B G0 g))(hs:swapsWith e (O (.Subscript o i p2)) pos.line X.env=pure xj:=by rfl) :
  PS X (.Assign [.Subscript o i p2] e pos) (tS X.K B G0 KX (VT j g f)):=
 ZL (Bp he ho hi hs) λD σ H q=>tS.bnd (R:=Rep X.K) q λv H1 G1 Z1 d k r a=>by
  cases q0:Z1[j]? with
  |none=>rw[q0]at a;exact a.elim
  |some o0=>
   cases o0 with
   |none=>rw[q0]at a;exact a.elim
   |some sl0=>
    cases sl0 with
    |deep _ _=>rw[q0]at a;exact a.elim
    |pub d=>rw[q0]at a;exact a.elim
    |own vf=>
     rw[q0]at a;obtain⟨ad,vs0,h1,h2,h3,h4,h5⟩:=k.own j vf q0;refine⟨.ref ad,h1,G1,Z1,k,?_⟩;dsimp only at a;unfold sB at a;cases z:g Z1 with
     |bad=>rw[z]at a;exact a.elim
     |ok y Z2=>
      rw[z]at a;dsimp only at a;intro kv G' H' k' s' r';cases y with
      |int n=>
       dsimp only at a;cases q:Z2[j]? with
       |none=>rw[q]at a;exact a.elim
       |some oo=>
        cases oo with
        |none=>rw[q]at a;exact a.elim
        |some sl=>
         cases sl with
         |deep _ _=>rw[q]at a;exact a.elim
         |pub d=>rw[q]at a;exact a.elim
         |own ds=>
          rw[q]at a;dsimp only at a;split at a
          .rename_i hn
           obtain⟨ad',vs,g1,g2,g3,g4,g5⟩:=k'.own j ds q;rw[h1]at g1;cases g1;refine⟨ad,vs,n,rfl,g4,r'.int_inv,hn.1,by rw[g5.length];exact hn.2,?_⟩;exact a σ G' _ (k'.change q h1 (g5.set (r.mono s') n.toNat)) s'
          .exact a.elim
      |_=>exact a.elim
noncomputable def XE(z:Str)(lo hi:xq):Str:=if(Builtin.Str.strSliceIndices lo hi 1 z.length).length=z.length then z else⟨((Builtin.Str.strSliceIndices lo hi 1 z.length).filterMap (z.cps[·]?)).toArray⟩
theorem F2:SlR X (λx lo hi H Q=>∃z,x=.str z/\(XE z lo hi).length<=UG/\Q (.str (XE z lo hi)) H):=by
 intro pins s σ H x v vl vu lo hi sl Q I rx hs pl pu h;obtain⟨z,rfl,hz,q⟩:=h;obtain⟨t,rfl⟩:=rx;refine⟨"str", _,F.slot_str_getitem.lookup,typeIs_str s z t,?_⟩
 obtain⟨l,el,e1⟩:∃l:Option (Int×Tok),vl=partValue l/\l.map (·.1)=lo:=by
  cases pl with
  |none=>exact⟨xg,rfl,rfl⟩
  |int k t'=>exact⟨O (k,t'),rfl,rfl⟩
 obtain⟨u,eu,e2⟩:∃u:Option (Int×Tok),vu=partValue u/\u.map (·.1)=hi:=by
  cases pu with
  |none=>exact⟨xg,rfl,rfl⟩
  |int k t'=>exact⟨O (k,t'),rfl,rfl⟩
 subst el eu;refine wpAny_getItem_str_slice (l:=l) (u:=u) (st:=xg) hs xf ?_;unfold sliceMade slicePicked;rw[e1,e2];unfold XE at hz q;by_cases hw:(Builtin.Str.strSliceIndices lo hi 1 z.length).length=z.length
 .rw[Qo hw]at hz q
  rw[if_pos (by simp[hw])];exact⟨.str z,H,I,⟨t,rfl⟩,q⟩
 .rw[Qv hw]at hz q
  rw[if_neg (by simp[hw])];exact⟨hz,.str _,H,I.tok _,⟨_,rfl⟩,q⟩
end
section
variable{X:Cx}{B G0:Hp}{KX:XW}{e o a b c tg i:UF}{pos p2:Pos}{es rest:xp}{te to ti:TE}
theorem pvb(i:Nat){x:Str}{pos:Pos}{N':List Str}{scope:Scope}{cl:List (Str×UD)}{C:UD}{s₀:UB}{H₀:Hp}{ex:xw}(hN:N'[i]?=O x:=by rfl)
  (h:visK (scope.names.lookup x)=xi:=by rfl) (hd:(x==("__debug__" : Str))=xj:=by decide) (hcd:(x==("__classdict__" : Str))=xj:=by decide) :
  PE (X.blk N' scope cl C s₀ H₀ ex) (.Name x pos) (Zy i):=Mb hN (Ct h) hd hcd
noncomputable def YY:D->xq->xq->xn
 |.list xs,lo,hi=>O (.list (DL.cutD xs lo hi))
 |.str z,lo,hi=>if(XE z lo hi).length<=1000000 then O (.str (XE z lo hi))else xg
 |_,_,_=>xg
noncomputable def Yd(f:M D)(lo hi:M xq):M D:=Kn f λx=>Kn lo λl=>Kn hi λh=>Ko (YY x l h)
theorem jd{lo hi:Option UF}{f:M D}{l h:M xq}(he:PE X e (tD X.K B G0 f))(hl:PO X lo (tOi X.K B G0 l))(hu:PO X hi (tOi X.K B G0 h)) :
  PE X (.Subscript e (.Slice lo hi xg p2) pos) (tD X.K B G0 (Yd f l h)):=
 KG (AK (C8.or F2) he hl hu) λσ H Q q=>by
  refine tM.one (R:=Rep X.K) q λv H2 G Z x k r a=>?_;refine tM.nx (R:=λ_ b c=>b=c) k a λl' H3 G3 Z3 xl k3 s3 r3 a3=>?_;refine tM.nx (R:=λ_ b c=>b=c) k3 a3 λh' H4 G4 Z4 xh k4 s4 r4 a4=>?_;have r3:l'=xl:=r3;have r4:h'=xh:=r4;subst r3 r4;unfold Ko YY at a4
  cases x with
  |list xs=>obtain⟨ad,vs,rfl,h1,r1⟩:=((r.mono s3).mono s4).lst_inv;exact .inl ⟨ad,vs,rfl,k4.gh.seq h1,λp hp=>aft.done a4 k4 (Ext.new k4.gh hp) (.lst (SqL.of ZU) ((r1.cut l' h').mono (ZT (k4.gh.free hp))))⟩
  |str z=>
   dsimp only at a4;have:=r.str_inv;subst this;by_cases hc:(XE z l' h').length<=1000000
   .rw[Qo hc]at a4
    exact .inr ⟨z,rfl,QR hc lim,aft.now a4 k4 (.str _)⟩
   .rw[Qv hc]at a4;exact a4.elim
  |_=>exact a4.elim
end
section
variable{X:Cx}{B G0:Hp}{e o a b c tg:UF}{pos p2:Pos}{es rest:xp}{te to ti:TE}
noncomputable def ZA{β:Type}(p:D->D->Option β)(i:Nat)(g:M D):M β:=λZ=>match Z[i]? with
 |some (O (.pub d))=>(Kn g λy=>Ko (p d y)) Z
 |some (O (.own _))=>(Kn g λy=>λZ'=>match Z'[i]? with|some (O (.own ds))=>Ko (p (.list ds) y) Z'|_=>.bad) Z
 |_=>.bad
theorem NE{K:Frag}{σ:St}{H:Hp}{p:D->D->xy}{r:R2}{i:Nat}{g:M D}{Q:Bool->Hp->Prop}{QV:VK}(hq:∀t H3,Q t H3->QV (.bl t) H3)(hr:∀v u G H x y d Q,Same G H->Rep K G v x->Rep K G u y->p x y=O d->Q (.bl d) H->r v u H Q)
  (q:tBo K B G0 (ZA p i g) σ H Q):Zy i σ H λx H1=>tD K B G0 g σ H1 λy H2=>r x y H2 QV:=by
 obtain⟨G,Z,k,a⟩:=q;unfold ZA at a;cases q:Z[i]? with
 |none=>rw[q]at a;exact a.elim
 |some o=>
  cases o with
  |none=>rw[q]at a;exact a.elim
  |some sl=>
   cases sl with
   |deep _ _=>rw[q]at a;exact a.elim
   |pub d=>
    rw[q]at a;obtain⟨v,h1,h2⟩:=k.pub i d q;refine⟨v,h1,G,Z,k,?_⟩;dsimp only[Kn]at a;cases z:g Z with
    |bad=>rw[z]at a;exact a.elim
    |ok y Z1=>rw[z]at a;intro u G' H' k' s' r';obtain⟨d',e',a'⟩:=aft.opt a;exact hr v u G' H' d y d' _ k'.gh (h2.mono s') r' e' (hq _ _ (a' d' G' H' k' s' xf))
   |own ds=>
    rw[q]at a;obtain⟨ad,vs,h1,h2,h3,h4,h5⟩:=k.own i ds q;refine⟨.ref ad,h1,G,Z,k,?_⟩;dsimp only[Kn]at a;cases z:g Z with
    |bad=>rw[z]at a;exact a.elim
    |ok y Z1=>
     rw[z]at a;dsimp only at a;intro u G' H' k' s' r';cases q1:Z1[i]? with
     |none=>rw[q1]at a;exact a.elim
     |some oo=>
      cases oo with
      |none=>rw[q1]at a;exact a.elim
      |some sl1=>
       cases sl1 with
       |deep _ _=>rw[q1]at a;exact a.elim
       |pub d1=>rw[q1]at a;exact a.elim
       |own wH=>
        rw[q1]at a;dsimp only at a;obtain⟨ad',ws,g1,g2,g3,g4,g5⟩:=k'.own i wH q1;rw[h1]at g1;cases g1;obtain⟨d',e',a'⟩:=aft.opt a;have sg:Same G' (upd G' ad (.lst ws)):=ZT g3
        have sh:Same (upd G' ad (.lst ws)) H':=λb o q=>by
         by_cases z:b=ad
         .subst z;rw[ZU]at q;cases q;exact g4
         .rw[Zh z]at q;exact k'.gh b o q
        exact hr (.ref ad) u _ H' (.list wH) y d' _ sh (.lst (SqL.of ZU) (g5.mono sg)) (r'.mono sg) e' (hq _ _ (a' d' G' H' k' s' xf))
theorem Cq{op:CmpOp}{p:D->D->xy}{i:Nat}{g:M D}(o:OpB X (UJ op) p)(ha:PE X a (Zy i))(hb:PE X b (tD X.K B G0 g))(hm:behindInMarks op b=xj) :
  PT X (.Compare a [op] [b] pos) (tBo X.K B G0 (ZA p i g)):=by
 obtain⟨r,h,j⟩:=o;exact YK (Ox h ha hb hm) λσ H Q q=>NE (λt H3 z=>⟨t,rfl,z⟩) j q
theorem Cp{op:CmpOp}{p:D->D->xy}{i:Nat}{g:M D}(o:OpB X (UJ op) p)(ha:PE X a (Zy i))(hb:PE X b (tD X.K B G0 g))(hm:behindInMarks op b=xj) :
  PE X (.Compare a [op] [b] pos) (tD X.K B G0 (Ke UN (ZA p i g))):=by
 obtain⟨r,h,j⟩:=o;exact KG (Oy h ha hb hm) λσ H Q q=>NE (λt H3 z=>z) j (tBo.val q)
end
end DL
namespace L2
open PySem PySem.Spec PyProof.Rows
noncomputable def Itz(K:Frag)(a b:UD):It:=
 ⟨λi H=>∃xs x ys y,SqL K H a xs/\xs[i]?=O x/\SqL K H b ys/\ys[i]?=O y,
  λi H v H'=>∃p x y,H p=xg/\v=.ref p/\(∀xs,SqL K H a xs->xs[i]?=O x)/\(∀ys,SqL K H b ys->ys[i]?=O y)/\H'=upd H p (.tup [x,y]),
  λi H=>∃xs ys,SqL K H a xs/\SqL K H b ys/\(xs.length<=i∨ys.length<=i)⟩
theorem Bo{P:UC}{w:World}{K:Frag}{elts:xp}{x1}{tp:Pos}(a b z TI TO i1 i2:UD)(Dz:ZipApart z TI TO i1 i2 a b) :
  Turn P w K (.Tuple elts x1 tp) (Itz K a b) [z,TI,TO,i1,i2] z (λi h=>IsZip h z TI TO .none/\IsPair h TI (.ref i1) (.ref i2)/\(∃c d,IsPair h TO c d)/\h.IsListIter i1 a i/\h.IsListIter i2 b i) where
 mem:=by simp
 obj:=λi h st c hc=>by
  obtain⟨h1,h2,⟨c0,d0,h3⟩,⟨o4,h4,_,d4⟩,⟨o5,h5,_,d5⟩⟩:=st;have hc':c=z∨c=TI∨c=TO∨c=i1∨c=i2:=by simpa using hc
  rcases hc' with rfl|rfl|rfl|rfl|rfl
  .exact⟨_,h1,λv q=>by have q':Data.fields _=Data.cell v:=q;cases q'⟩
  .exact⟨_,h2,λv q=>by have q':Data.seq _ _=Data.cell v:=q;cases q'⟩
  .exact⟨_,h3,λv q=>by have q':Data.seq _ _=Data.cell v:=q;cases q'⟩
  .exact⟨o4,h4,λv q=>by rw[d4]at q;cases q⟩
  .exact⟨o5,h5,λv q=>by rw[d5]at q;cases q⟩
 keep:=λi h h' st k=>by obtain⟨h1,h2,⟨c0,d0,h3⟩,h4,h5⟩:=st;exact⟨k z (by simp) _ h1,k TI (by simp) _ h2,⟨c0,d0,k TO (by simp) _ h3⟩,h4.at λo q=>k i1 (by simp) o q,h5.at λo q=>k i2 (by simp) o q⟩
 item:=by
  intro X hP hw hK hc i pins s σ H E I hf st hg;subst hP hw hK;obtain⟨h1,h2,⟨c0,d0,h3⟩,h4,h5⟩:=st;obtain⟨xs,x,ys,y,hq,hx,xW,hy⟩:=hg;obtain⟨its,rv,p,hz⟩:=I.list hq;obtain⟨its',rv',p',hz'⟩:=I.list xW;obtain⟨u,hu,ru⟩:=rv.get hx;obtain⟨u',hu',ru'⟩:=rv'.get hy;refine wpAny_pyNext_zip_item Dz h1 h2 h3 h4 h5 p.isList p'.isList (x:=u) (y:=u') (by simpa using hu) (by simpa using hu') λh' g1 g3 g4 g5 gp gs gk=>?_
  refine⟨_,rfl,wpAny_letOwnedTupleGo_zip g1 λh2' gz sb=>?_⟩;have hzl:z<s.heap.objs.size:=Qh h1;have vh:Heap.SameBut z h' h2':=sb;have gp2:h2'.get? s.heap.objs.size=O {cls:=.type "tuple", data:=.seq #[u,u']}:=(vh.2 _ (Js hzl)).trans gp
  have kk:∀c o,c∉[z,TI,TO,i1,i2]->s.heap.get? c=O o->h2'.get? c=O o:=λc o hc q=>by
   have n1:c≠z:=λe=>hc (by simp[e])
   have n3:c≠TO:=λe=>hc (by simp[e])
   have n4:c≠i1:=λe=>hc (by simp[e])
   have n5:c≠i2:=λe=>hc (by simp[e])
   exact(vh.2 c n1).trans (gk c o n1 n3 n4 n5 q)
  have hn:H s.heap.objs.size=xg:=I.hok.fresh (Qs _)
  have I2:Inv X pins σ (upd H s.heap.objs.size (.tup [x,y])) {s with heap:=h2'}:=
   I.turnedNew (t':=s.toks) (fp:=[z,TI,TO,i1,i2]) hf kk (Qs _) ⟨by show 2<=UG;decide,[u,u'],.cons ru (.cons ru' .nil),⟨_,gp2,rfl,_,rfl⟩⟩
  have gTI:IsPair h' TI (.ref i1) (.ref i2):=gk TI _ Dz.TIz Dz.TITO Dz.TIi1 Dz.TIi2 h2
  refine⟨.ref s.heap.objs.size,_,I2,rfl,⟨_,x,y,hn,rfl,λws hw=>by rw[I.list_inj hw hq];exact hx,λws hw=>by rw[I.list_inj hw xW];exact hy,rfl⟩,
   ⟨gz,(vh.2 _ Dz.TIz).trans gTI,⟨u,u',(vh.2 _ Dz.TOz).trans g3⟩,g4.at λo q=>(vh.2 _ Dz.i1z).trans q,g5.at λo q=>(vh.2 _ Dz.i2z).trans q⟩,λc hc=>?_⟩
  have hlt:c<s.heap.objs.size:=by
   have hc':c=z∨c=TI∨c=TO∨c=i1∨c=i2:=by simpa using hc
   rcases hc' with rfl|rfl|rfl|rfl|rfl
   .exact hzl
   .exact Qh h2
   .exact Qh h3
   .obtain⟨o,ho,_⟩:=h4;exact Qh ho
   .obtain⟨o,ho,_⟩:=h5;exact Qh ho
  rw[Zh (QN hlt)];exact(hf c hc).1
 done:=by
  intro X hP hw hK hc i pins s σ H E I hf st hg;subst hP hw hK;obtain⟨h1,h2,⟨c0,d0,h3⟩,h4,h5⟩:=st;obtain⟨xs,ys,hq,xW,hx⟩:=hg;obtain⟨its,rv,p,hz⟩:=I.list hq;obtain⟨its',rv',p',hz'⟩:=I.list xW;have hl:=rv.length;have hl':=rv'.length;refine wpAny_pyNext_zip_end (I.ok.hd hc) Dz h1 h2 h3 h4 h5 p.isList p'.isList ?_ λh' eb=>⟨rfl,I.turnedL (t':=s.toks) hf λc o hb q=>eb c o (λe=>hb (by simp[e])) (λe=>hb (by simp[e])) (λe=>hb (by simp[e])) (λe=>hb (by simp[e])) q⟩
  rcases hx with hx|hx
  .exact .inl (by simp;omega)
  .exact .inr (by simp;omega)
 self:=λ_ _ _ _ _ st h=>wpAny_pyIter_zip st.1 h
section
variable{X:Cx}
noncomputable def iZip(K:Frag)(ta:TA):TI:=λσ H R=>ta σ H λvs H1=>∃a b xs ys,vs=[.ref a,.ref b]/\SqL K H1 a xs/\SqL K H1 b ys/\R (Itz K a b) H1
theorem F1{a b:UF}{ta:TA}{p pos:Pos}{elts:xp}{x1}{tp:Pos}(hg:Gl X "zip")(hm:X.mg "zip" = xg)(ha:PA X [a,b] ta)
  (hs:UI [a,b] X.env=[(xj,eval a X.env),(xj,eval b X.env)]:=by rfl) (hs2:UI [b] X.env=[(xj,eval b X.env)]:=by rfl):PI X (.Tuple elts x1 tp) (.Call (.Name "zip" p) [a,b] [] pos) (iZip X.K ta):=by
 intro pins s σ H R I h;refine Call_ (Vz I hg hm boot_zip (JG (thn (ha pos pins s σ H _ I h) λus s1 ⟨vs,H1,I1,r1,q1⟩=>?_) (by rw[hs,hs2]) (by rw[hs2];rfl)));obtain⟨l1,l2,xs,ys,e,hq,xW,q⟩:=q1;subst e;cases r1 with
 |cons r rr=>
  cases rr with
  |cons r' rr=>
   cases rr;cases (show _=Value.ref l1 from r);cases (show _=Value.ref l2 from r');obtain⟨its,rv,pl,hz⟩:=I1.list hq;obtain⟨its',rv',pl',hz'⟩:=I1.list xW;have n1:l1<s1.heap.objs.size:=by obtain⟨_,e,_⟩:=id pl.isList;exact Qh e
   have n2:l2<s1.heap.objs.size:=by obtain⟨_,e,_⟩:=id pl'.isList;exact Qh e
   have ne:∀i j:Nat,i≠j->s1.heap.objs.size+i≠s1.heap.objs.size+j:=λi j h e=>h (Nat.add_left_cancel e);have m1:∀m:Nat,l1≠s1.heap.objs.size+m:=λm=>QN (Qz n1 (Nat.le_add_right _ _));have m2:∀m:Nat,l2≠s1.heap.objs.size+m:=λm=>QN (Qz n2 (Nat.le_add_right _ _));refine call_zip_2 pl.isList pl'.isList λh' g1 g2 g3 g4 g5 gs kk=>?_;have I2:Inv X pins σ H1 {s1 with heap:=h'}:=I1.kept (t':=s1.toks) kk;refine wpAny_pyIter_zip g1 ?_
   refine⟨s1.heap.objs.size+4,[s1.heap.objs.size+4,s1.heap.objs.size+2,s1.heap.objs.size+3,s1.heap.objs.size,s1.heap.objs.size+1],_,_,H1,rfl,I2,
    Bo l1 l2 (s1.heap.objs.size+4) (s1.heap.objs.size+2) (s1.heap.objs.size+3) s1.heap.objs.size (s1.heap.objs.size+1) ⟨ne 2 4 (by decide),ne 3 4 (by decide),ne 0 4 (by decide),ne 1 4 (by decide),ne 2 3 (by decide),ne 2 0 (by decide),ne 2 1 (by decide),ne 3 0 (by decide),ne 3 1 (by decide),ne 0 1 (by decide),m1 4,m1 3,m1 0,m1 1,m2 4,m2 3,m2 0,m2 1⟩,⟨g1,g2,⟨_,_,g3⟩,g4,g5⟩,λc hc=>?_,q⟩
   have hc':s1.heap.objs.size<=c:=by
    have hc':c=s1.heap.objs.size+4∨c=s1.heap.objs.size+2∨c=s1.heap.objs.size+3∨c=s1.heap.objs.size∨c=s1.heap.objs.size+1:=by simpa using hc
    rcases hc' with rfl|rfl|rfl|rfl|rfl<;>first|exact Nat.le_add_right _ _|exact Qs _
   exact I1.fpOk hc' (I1.hok.fresh hc')
end
end L2
namespace DL
open PySem PySem.Spec L2
open PyProof.Rows hiding St
section
variable{X:Cx}{B G0:Hp}{e a b c tg:UF}{pos:Pos}{es rest:xp}
noncomputable def Z6(xs ys:xk):xk:=(xs.zip ys).map λp=>.tuple [p.1,p.2]
theorem qI{K:Frag}{G1:Hp}{a b:UD}{vs ws:List V}{ds es:xk}(h:SqL K G1 a vs)(h':SqL K G1 b ws)(r:Reps K G1 vs ds)(r':Reps K G1 ws es):XN K (Itz K a b) (Z6 ds es) G1 where
 go:=λi G H s1 s2 hi=>by
  unfold Z6 at hi;rw[Qb,JT]at hi;have hi1:i<vs.length:=by rw[r.length];omega
  have hi2:i<ws.length:=by rw[r'.length];omega
  exact⟨vs,vs[i],ws,ws[i],(s1.trans s2).seq h,Qf hi1,(s1.trans s2).seq h',Qf hi2⟩
 stop:=λi G H s1 s2 hi=>by unfold Z6 at hi;rw[Qb,JT]at hi;refine⟨vs,ws,(s1.trans s2).seq h,(s1.trans s2).seq h',?_⟩;rw[r.length,r'.length];omega
 yld:=λi G H x H' d s1 s2 e y=>by
  obtain⟨p,u,v,hp,rfl,y1,y2,rfl⟩:=y;have z1:=y1 vs ((s1.trans s2).seq h);have z2:=y2 ws ((s1.trans s2).seq h');unfold Z6 at e;rw[Qd]at e;cases q:(ds.zip es)[i]? with
  |none=>rw[q]at e;cases e
  |some pr=>rw[q]at e;cases e;rw[J0]at q;obtain⟨u',e1,r1⟩:=r.get q.1;obtain⟨v',e2,r2⟩:=r'.get q.2;rw[z1]at e1;rw[z2]at e2;cases e1;cases e2;exact⟨upd G p (.tup [u,v]),Ext.new s2 hp,.tup (SqT.of ZU) (.cons ((r1.mono s1).mono (ZT (s2.free hp))) (.cons ((r2.mono s1).mono (ZT (s2.free hp))) .nil))⟩
noncomputable def X3:xk->Option xk
 |[.list xs,.list ys]=>O (Z6 xs ys)
 |_=>xg
theorem Bm{x l:xk}(h:X3 x=O l):∃xs ys,x=[.list xs,.list ys]/\l=Z6 xs ys:=by
 unfold X3 at h;split at h
 .cases h;exact⟨_,_,rfl,rfl⟩
 .cases h
noncomputable def XA(f:M xk):M xk:=Kn f λx=>Ko (X3 x)
theorem F0{f:M xk}{p2:Pos}{elts:xp}{x1}{tp:Pos}(hg:Gl X "zip")(hm:X.mg "zip" = xg)(ha:PA X [a,b] (tDs X.K B G0 f))(hs:UI [a,b] X.env=[(xj,eval a X.env),(xj,eval b X.env)]:=by rfl)(hs2:UI [b] X.env=[(xj,eval b X.env)]:=by rfl) :
  PI X (.Tuple elts x1 tp) (.Call (.Name "zip" p2) [a,b] [] pos) (iD X.K B G0 (XA f)):=Xx (F1 hg hm ha hs hs2) λσ H R q=>tM.toI (R0:=Reps X.K) q λv H' G' Z' x k r a=>by
 cases z:X3 x with
 |none=>rw[z]at a;exact a.elim
 |some l=>
  rw[z]at a;obtain⟨xs,ys,rfl,rfl⟩:=Bm z;cases r with
  |cons r1 rr=>
   cases rr with
   |cons r2 rr=>cases rr;obtain⟨l1,vs,rfl,h1,q1⟩:=r1.lst_inv;obtain⟨l2,ws,rfl,h2,q2⟩:=r2.lst_inv;exact⟨l1,l2,vs,ws,rfl,k.gh.seq h1,k.gh.seq h2,a _ G' H' k (.refl _) (qI h1 h2 q1 q2)⟩
end
section
variable{X:Cx}{B G0:Hp}{e o a b c tg:UF}{pos p2 p3:Pos}{es rest:xp}{te to ti:TE}
noncomputable def oIn:D->D->xy
 |.str i,.str j=>O (inS i j)
 |x,.list xs=>if x.canLay0=xi/\UQ xs=xi/\x.depth<=60 then O (xs.any λy=>US y x)else xg
 |x,.tuple xs=>if x.canLay0=xi/\UQ xs=xi/\x.depth<=60 then O (xs.any λy=>US y x)else xg
 |_,_=>xg
noncomputable def Y9(x y:D):xy:=(oIn x y).map λt=>!t
noncomputable def Xy(x y:D):xy:=match y with
 |.list xs=>if x.canLay0=xi/\UQ xs=xi/\x.depth<=60 then O (xs.any λy=>US y x)else xg
 |.tuple xs=>if x.canLay0=xi/\UQ xs=xi/\x.depth<=60 then O (xs.any λy=>US y x)else xg
 |_=>xg
theorem FN(hu:X.A.units+64<cLine):OpB X (UJ .In) Xy:=by
 refine⟨λv u H Q=>∃G x y d,Same G H/\Rep X.K G v x/\Rep X.K G u y/\Xy x y=O d/\Q (.bl d) H,?_,λv u G H x y d Q s rx ry e k=>⟨G,x,y,d,s,rx,ry,e,k⟩⟩;intro pins s σ H x y v u Q I rx ry ⟨G,dx,dy,d,sg,px,py,e,q⟩;unfold Xy at e;split at e
 .split at e
  .rename_i c
   cases e;obtain⟨as,ra⟩:=YW I sg px rx c.1;obtain⟨bs,rb⟩:=YW I sg py ry (show UQ _=xi from c.2.1);exact SeqAt.in_list_reads rb ra c.2.1 c.1 (by have:=c.2.2;omega) ⟨.bl _,H,I,rfl,q⟩
  .cases e
 .split at e
  .rename_i c
   cases e;obtain⟨as,ra⟩:=YW I sg px rx c.1;obtain⟨bs,rb⟩:=YW I sg py ry (show UQ _=xi from c.2.1);exact SeqAt.in_tuple_reads rb ra c.2.1 c.1 (by have:=c.2.2;omega) ⟨.bl _,H,I,rfl,q⟩
  .cases e
 .cases e
theorem FZ(hu:X.A.units+64<cLine):OpB X (UJ .NotIn) (λx y=>(Xy x y).map λt=>!t):=by
 refine⟨λv u H Q=>∃G x y d,Same G H/\Rep X.K G v x/\Rep X.K G u y/\(Xy x y).map (λt=>!t)=O d/\Q (.bl d) H,?_,λv u G H x y d Q s rx ry e k=>⟨G,x,y,d,s,rx,ry,e,k⟩⟩;intro pins s σ H x y v u Q I rx ry ⟨G,dx,dy,d,sg,px,py,e,q⟩;unfold Xy at e;split at e
 .split at e
  .rename_i c
   cases e;obtain⟨as,ra⟩:=YW I sg px rx c.1;obtain⟨bs,rb⟩:=YW I sg py ry (show UQ _=xi from c.2.1);exact SeqAt.notIn_list_reads rb ra c.2.1 c.1 (by have:=c.2.2;omega) ⟨.bl _,H,I,rfl,q⟩
  .cases e
 .split at e
  .rename_i c
   cases e;obtain⟨as,ra⟩:=YW I sg px rx c.1;obtain⟨bs,rb⟩:=YW I sg py ry (show UQ _=xi from c.2.1);exact SeqAt.notIn_tuple_reads rb ra c.2.1 c.1 (by have:=c.2.2;omega) ⟨.bl _,H,I,rfl,q⟩
  .cases e
 .cases e
theorem B_in(hu:X.A.units+64<cLine):OpB X (UJ .In) oIn:=(FP.or (FN hu)).congr λx y=>by cases x<;>cases y<;>rfl
theorem FM(hu:X.A.units+64<cLine):OpB X (UJ .NotIn) Y9:=(F4.or (FZ hu)).congr λx y=>by cases x<;>cases y<;>rfl
theorem qH{tl th ts:TO}{lo hi:Option UF}{st:UF}(he:PE X e te)(hl:PO X lo tl)(hu:PO X hi th)(hst:PO X (O st) ts):PE X (.Subscript e (.Slice lo hi (O st) p2) pos)
  (λσ H Q=>te σ H λx H1=>tl σ H1 λl H2=>th σ H2 λu H3=>ts σ H3 λt H4=>∃a xs,x=.ref a/\SqL X.K H4 a xs/\l=xg/\u=xg/\t=O (-1)/\∀p,H4 p=xg->Q (.ref p) (upd H4 p (.lst xs.reverse))):=by
 intro pins s σ H Q I h;refine Subscript_ (thn (he pins s σ H _ I h) λv s1 ⟨x,H1,I1,r1,q1⟩=>?_);refine wpAny_Slice (thn (hl pins s1 σ H1 _ I1 q1) λvl s2 ⟨l,H2,I2,pl,q2⟩=>thn (hu pins s2 σ H2 _ I2 q2) λvu s3 ⟨u,H3,I3,pu,q3⟩=>thn (hst pins s3 σ H3 _ I3 q3) λvt s4 ⟨t,H4,I4,pt,q4⟩=>?_);obtain⟨a,xs,rfl,hx,rfl,rfl,rfl,q⟩:=q4;cases r1;have I5:Inv X pins σ H4 {s4 with heap:=s4.heap.push {cls:=.type "slice", data:=.fields #[vl,vu,vt]}}:=I4.kept (t':=s4.toks) λb ob q=>Ql _ q
 obtain⟨its,r,ht,hz⟩:=I5.list hx;have hlen:=r.length;have hg:UH (model X.prog X.w) X.A (getItem (.ref a) (.ref s4.heap.objs.size)) (EP X pins σ Q) X.xe {s4 with heap:=s4.heap.push {cls:=.type "slice", data:=.fields #[vl,vu,vt]}}:=by refine wpAny_getItem_list_slice ht.isList (Heap.IsSliceOf.new ..) pl pu pt (by simp) ?_ (by rw[List.size_toArray]<;>omega);rw[PySem.W.krv_pick];refine⟨.ref _,_,I5.laid (t':=s4.toks) (o:=.lst xs.reverse) (λb ob q=>Ql _ q) (Qs _) ?_,rfl,q _ (I5.hok.fresh (Qs _))⟩;exact⟨by rw[Jc];exact hz,its.reverse,0,r.reverse,QB _ xf⟩
 show UH (model X.prog X.w) X.A (subscriptTail e (.Slice lo hi (O st) p2) (.ref a) (.ref s4.heap.objs.size)) (EP X pins σ Q) X.xe {s4 with heap:=s4.heap.push {cls:=.type "slice", data:=.fields #[vl,vu,vt]}};exact tail_any (ops:=[.ref a,.ref s4.heap.objs.size]) ht.isList.typeIs slot_list_getitem.lookup hg (by with_unfolding_all rfl)
noncomputable def WM:D->xq->xq->xq->xn
 |.list xs,xg,xg,O i=>if i = -1 then O (.list xs.reverse)else xg
 |_,_,_,_=>xg
noncomputable def X7(f:M D)(lo hi st:M xq):M D:=Kn f λx=>Kn lo λl=>Kn hi λh=>Kn st λt=>Ko (WM x l h t)
theorem Co{lo hi:Option UF}{st:UF}{f:M D}{l h t:M xq}(he:PE X e (tD X.K B G0 f))(hl:PO X lo (tOi X.K B G0 l))(hu:PO X hi (tOi X.K B G0 h))(hst:PO X (O st) (tOi X.K B G0 t)) :
  PE X (.Subscript e (.Slice lo hi (O st) p2) pos) (tD X.K B G0 (X7 f l h t)):=
 KG (qH he hl hu hst) λσ H Q q=>by
  refine tM.one (R:=Rep X.K) q λv H2 G Z x k r a=>?_;refine tM.nx (R:=λ_ b c=>b=c) k a λl' H3 G3 Z3 xl k3 s3 r3 a3=>?_;refine tM.nx (R:=λ_ b c=>b=c) k3 a3 λh' H4 G4 Z4 xh k4 s4 r4 a4=>?_;refine tM.nx (R:=λ_ b c=>b=c) k4 a4 λt' H5 G5 Z5 xt k5 s5 r5 a5=>?_;have r3:l'=xl:=r3;have r4:h'=xh:=r4;have r5:t'=xt:=r5;subst r3 r4 r5
  cases x with
  |list xs=>
   cases l' with
   |some _=>exact a5.elim
   |none=>
   cases h' with
   |some _=>exact a5.elim
   |none=>
   cases t' with
   |none=>exact a5.elim
   |some i=>
   obtain⟨ad,vs,rfl,h1,r1⟩:=(((r.mono s3).mono s4).mono s5).lst_inv;by_cases hi:i = -1
   .subst hi
    exact⟨ad,vs,rfl,k5.gh.seq h1,rfl,rfl,rfl,λp hp=>aft.done a5 k5 (Ext.new k5.gh hp) (.lst (SqL.of ZU) (r1.reverse.mono (ZT (k5.gh.free hp))))⟩
   .unfold Ko WM at a5
    dsimp only at a5;rw[Qv hi]at a5;exact a5.elim
  |_=>unfold Ko WM at a5;exact a5.elim
noncomputable def Xh:xk->Option xk
 |[.list xs]=>O xs
 |[.tuple xs]=>O xs
 |_=>xg
theorem Hy{x l:xk}(h:Xh x=O l):x=[.list l]∨x=[.tuple l]:=by
 unfold Xh at h;split at h
 .cases h;exact .inl xf
 .cases h;exact .inr xf
 .cases h
theorem Gw:bootBuiltins "list" = O (.type "list"):=by decide +kernel
theorem Bl{f:M xk}(hg:Gl X "list")(hm:X.mg "list" = xg)(ha:PA X [a] (tDs X.K B G0 f))(he:UI [a] X.env=(xj,eval a X.env)::UI [] X.env:=by rfl) :
  PE X (.Call (.Name "list" p2) [a] [] pos) (tL X.K B G0 (Kn f λxs=>Ko (Xh xs))):=
 KG (PX GO hg hm Gw ha (by decide) (by decide) he xf) λσ H Q ⟨G,Z,k,q⟩=>by
  refine⟨G,Z,k,?_⟩;unfold Kn at q;cases z:f Z with
  |bad=>rw[z]at q;exact q.elim
  |ok xs Z1=>
   rw[z]at q;dsimp only[Ko]at q;intro vs G' H' k' s' r;cases z2:Xh xs with
   |none=>rw[z2]at q;exact q.elim
   |some l=>
    rw[z2]at q;rcases Hy z2 with rfl|rfl
    .obtain⟨v,rfl,q1⟩:=r.one_inv
     obtain⟨p,ws,rfl,h1,r1⟩:=q1.lst_inv;exact⟨p,ws,rfl,.inl (k'.gh.seq h1),λad hp=>q ad ws G' _ (k'.ext (Ext.hid k'.gh hp)) s' (NewL.of k' hp r1)⟩
    .obtain⟨v,rfl,q1⟩:=r.one_inv
     obtain⟨p,ws,rfl,h1,r1⟩:=q1.tup_inv;exact⟨p,ws,rfl,.inr (Y6 k'.gh h1),λad hp=>q ad ws G' _ (k'.ext (Ext.hid k'.gh hp)) s' (NewL.of k' hp r1)⟩
noncomputable def VC(i:Nat):M xk:=λZ=>match Z[i]? with
 |some (O (.pub d))=>Ko (Xh [d]) Z
 |some (O (.own ds))=>.ok ds Z
 |_=>.bad
theorem qG{i:Nat}(hg:Gl X "list")(hm:X.mg "list" = xg)(ho:PE X a (Zy i))(he:UI [a] X.env=(xj,eval a X.env)::UI [] X.env:=by rfl) :
  PE X (.Call (.Name "list" p2) [a] [] pos) (tL X.K B G0 (VC i)):=
 KG (PX GO hg hm Gw (V7 ho SB he) (by decide) (by decide) he xf) λσ H Q ⟨G,Z,k,q⟩=>by
  unfold VC at q;cases z:Z[i]? with
  |none=>rw[z]at q;exact q.elim
  |some oo=>
   cases oo with
   |none=>rw[z]at q;exact q.elim
   |some sl=>
    cases sl with
    |deep _ _=>rw[z]at q;exact q.elim
    |own ds=>rw[z]at q;dsimp only at q;obtain⟨ad,vs,h1,h2,h3,h4,h5⟩:=k.own i ds z;exact⟨.ref ad,h1,ad,vs,rfl,.inl (SqL.of h4),λl hp=>q l vs G _ (k.ext (Ext.hid k.gh hp)) (.refl _) (NewL.of k hp h5)⟩
    |pub d=>
     rw[z]at q;dsimp only[Ko]at q;obtain⟨v,h1,h2⟩:=k.pub i d z;cases z2:Xh [d]with
     |none=>rw[z2]at q;exact q.elim
     |some l=>
      rw[z2]at q;dsimp only at q;rcases Hy z2 with e|e
      .cases e
       obtain⟨p,ws,rfl,g1,r1⟩:=h2.lst_inv;exact⟨_,h1,p,ws,rfl,.inl (k.gh.seq g1),λad hp=>q ad ws G _ (k.ext (Ext.hid k.gh hp)) (.refl _) (NewL.of k hp r1)⟩
      .cases e
       obtain⟨p,ws,rfl,g1,r1⟩:=h2.tup_inv;exact⟨_,h1,p,ws,rfl,.inr (Y6 k.gh g1),λad hp=>q ad ws G _ (k.ext (Ext.hid k.gh hp)) (.refl _) (NewL.of k hp r1)⟩
noncomputable def Wx:xk->xn
 |[.int i]=>O (.int i)
 |[.bool b]=>O (.int (if b then 1 else 0))
 |_=>xg
theorem FY:Y3 X (.type "int") Wx:=by
 refine⟨_,qv,λvs G H ds d Q s r e k=>?_⟩;unfold Wx at e;split at e
 .cases e
  obtain⟨v,rfl,q⟩:=r.one_inv;rw[q.int_inv];exact .inl ⟨_,rfl,k _ G H (.refl s) (.int _)⟩
 .cases e
  obtain⟨v,rfl,q⟩:=r.one_inv;rw[q.bl_inv];exact .inr ⟨_,rfl,k _ G H (.refl s) (.int _)⟩
 .cases e
theorem FL{x:Str}{zs:List Str}(hg:Gl X x)(hm:∃ad o its n,X.mg x=O (.ref ad)/\X.K.lookup ad=O o/\o.cls=.type "tuple" /\ o.data=.seq its n/\its.size<=UG/\Vals (zs.map V.str) its.toList)(hd:(x==("__debug__" : Str))=xj:=by decide) :
  PE X (.Name x pos) (tD X.K B G0 (U5 (.tuple (zs.map UO)))):=by
 obtain⟨ad,o,its,n,hm,h1,h2,h3,h4,h5⟩:=hm;refine KG (Lv (v:=.ref ad) hg hm xf hd) λσ H Q ⟨G,Z,k,a⟩=>aft.now a k (.tup (.inr ⟨o,its,n,h1,h2,h3,h4,h5⟩) ?_)
 have:∀zs:List Str,Reps X.K G (zs.map V.str) (zs.map UO):=λzs=>by
  induction zs with
  |nil=>exact .nil
  |cons z r ih=>exact .cons (.str _) ih
 exact this zs
end
section
variable{X:Cx}{B G0:Hp}{e o a b c tg:UF}{pos p2 p3 p4:Pos}{es rest:xp}{te to ti:TE}
theorem VL:∀{ns:xm}{us:xo},Vals (ns.map V.int) us->PyProof.Rows.IntsAre us ns
 |[],_,.nil=>.nil
 |n::ns,_,.cons h t=>by obtain⟨tk,rfl⟩:=h;exact .cons n tk (VL t)
noncomputable def VU(ns:xm):Nat:=(PyProof.Rows.firstMet (λi=>ns.getD i 0) ns.length).length
theorem qF(hc:X.calm=xi):YO X (.type "set") (λxs H Q=>∃l,∃ns:xm,xs=[.ref l]/\SqL X.K H l (ns.map V.int)/\ns.length+1<4096/\∀S p,H p=xg->Q (.ref p) (upd H p (.set S (VU ns)))):=by
 intro pins s σ H xs us Q I rx h;obtain⟨l,ns,rfl,hq,hb,q⟩:=h;obtain⟨u,rfl,ru⟩:=rx.one;cases ru;obtain⟨its,rv,p,hz⟩:=I.list hq;have hi:=VL rv;have hn:its.toArray.size=ns.length:=by have:=rv.length;rw[List.length_map]at this;simp;omega
 refine call_set_list (I.ok.hd hc) p.isList (ns:=ns) (by simpa using hi) (by rw[hn];exact hb) λh' tk hS hk=>?_
 rw[hn]at hS;refine⟨.ref s.heap.objs.size,_,I.laid (t':=tk) (λb o e=>hk b o (Qh e) e) (Qs _) (show Yy X.prog X.w _ h' _ (.set _ (VU ns))from hS),rfl,q _ _ (I.hok.fresh (Qs _))⟩
theorem qE:YO X (.builtin "len") (λxs H Q=>∃p S n,xs=[.ref p]/\H p=O (.set S n)/\Q (.int n) H):=by
 intro pins s σ H xs us Q I rx h;obtain⟨p,S,n,rfl,hp,q⟩:=h;obtain⟨u,rfl,ru⟩:=rx.one;cases ru;obtain⟨o,es,ep,t,h1,h2,h3,h4,h5,h6,h7,h8⟩:=(show s.heap.SetOf (intKind X.prog X.w) p S n from I.hok p _ hp)
 have hsb:scanBound=4096:=rfl;refine call_len_set h1 h2 h3 h7 (by omega) ?_;rw[h8];exact⟨.int n,H,I.tok _,⟨_,rfl⟩,q⟩
noncomputable def YE:xk->Option xm
 |[]=>O []
 |.int i::r=>(YE r).map (i :: ·)
 |_=>xg
theorem SY{K:Frag}{G:Hp}:∀{vs:List V}{ds:xk}{ns:xm},Reps K G vs ds->YE ds=O ns->vs=ns.map V.int
 |_,_,ns,.nil,e=>by cases e;rfl
 |_,_,ns,.cons (d:=d) r t,e=>by
  cases d with
  |int b=>
   unfold YE at e;cases z:YE _ with
   |none=>rw[z]at e;cases e
   |some cs=>rw[z]at e;cases e;rw[r.int_inv,SY t z];rfl
  |_=>cases e
theorem SX(ns:xm):YE (ns.map int)=O ns:=by
 induction ns with
 |nil=>rfl
 |cons b r ih=>rw[Qu,YE,ih];rfl
noncomputable def WA:xk->xn
 |[.list ds]=>(match YE ds with
  |some ns=>if ns.length+1<4096 then O (.int (VU ns))else xg
  |none=>xg)
 |_=>xg
theorem ku{xs:xk}{d:D}(h:WA xs=O d):∃ds ns,xs=[.list ds]/\YE ds=O ns/\ns.length+1<4096/\d=.int (VU ns):=by
 unfold WA at h;split at h
 .rename_i ds
  cases z:YE ds with
  |none=>rw[z]at h;cases h
  |some ns=>
   rw[z]at h;dsimp only at h;split at h
   .rename_i c
    cases h;exact⟨ds,ns,rfl,z,c,rfl⟩
   .cases h
 .cases h
theorem qD:bootBuiltins "set" = O (.type "set"):=by decide +kernel
theorem jc{f:M xk}(hc:X.calm=xi)(hg:Gl X "len")(hm:X.mg "len" = xg)(hg2:Gl X "set")(hm2:X.mg "set" = xg)(ha:PA X [a] (tDs X.K B G0 f))(he:UI [a] X.env=(xj,eval a X.env)::UI [] X.env:=by rfl)
  (vq:UI [.Call (.Name "set" p2) [a] [] p3] X.env=(xj,eval (.Call (.Name "set" p2) [a] [] p3) X.env)::UI [] X.env:=by rfl) :
  PE X (.Call (.Name "len" p4) [.Call (.Name "set" p2) [a] [] p3] [] pos) (tD X.K B G0 (Zt WA f)):=
 KG (Px qE hg hm boot_len (V7 (PX (qF hc) hg2 hm2 qD ha (by decide) (by decide) he xf) SB vq) (by decide) (by decide) vq xf) λσ H Q q=>tM.one (R:=Reps X.K) q λvs H2 G Z x k r a=>by obtain⟨d,e,a⟩:=a.opt;obtain⟨ds,ns,rfl,z,c,rfl⟩:=ku e;obtain⟨v,rfl,q1⟩:=r.one_inv;obtain⟨l,ws,rfl,h1,r1⟩:=q1.lst_inv;have:=SY r1 z;subst this;refine⟨l,ns,rfl,k.gh.seq h1,c,λS p hp=>⟨p,S,VU ns,rfl,ZU,?_⟩⟩;exact aft.done a k (Ext.hid k.gh hp) (.int _)
end
end DL
namespace L2
open PySem PySem.Spec PyProof.Rows
end L2
namespace DL
open PySem PySem.Spec L2
open PyProof.Rows hiding St
end DL
namespace L2
open PySem PySem.Spec PyProof.Rows
section
variable{prog:UC}{w:World}{A:Around}{E:UA->UB->Prop}{s:UB}{M:Model}{env:Env}
theorem Cn{pos:Pos}{T:String}{args:List (Bool×Sem UA)}{kws:List (Option Str×Sem UA)}{Q:UA->UB->Prop}(hp:args.any (·.1)=xj)(hk:kws.any (·.1.isNone)=xj)
  (h:UH M A (evalArgs (.type T) xi args kws) (λa s1=>UH M A (call (.type T) a.pos a.kw) Q E s1) E s):UH M A (callWith pos (.type T) [] args kws) Q E s:=by
 unfold callWith;refine Qe (Jw (QO h (λa s1 h1=>Qe (Jv ?_)) λ_ _ z=>z));simp only[hp,hk,Bool.false_or];refine Qe (Qn ?_);exact Qe (QO h1 (λr s2 hr=>Qe (Jw (wpAny_point (Qn hr)))) λ_ _ z=>z)
theorem Bk(l:UD)(t:Tok)(items:Array UA)(n:Nat)(dct:xz)(sl:Array xr) :
  Meets (Builtin.«enumerate.__new__» ⟨[.type "enumerate", .ref l],[("start", .int 1 t)]⟩) (λ_ R s=>s.heap.get? l=O ⟨.type "list", dct,.seq items n,sl⟩ /\
   R (.ok (.ret (.ref (s.heap.push {cls:=.type "list_iterator", data:=.fields #[.ref l,.int 0 0]}).objs.size))) {s with heap:=(s.heap.push {cls:=.type "list_iterator", data:=.fields #[.ref l,.int 0 0]}).push {cls:=.type "enumerate", data:=.fields #[.none,.bool xj,.ref s.heap.objs.size,rawInt 1,.none,.none]}}):=
 .of_wp λprog w A R s h=>by
  obtain⟨hp,g,d,tk,os⟩:=s;obtain⟨hl,h⟩:=h;have hsub:=sub_enumerate;have hL:Heap.IsList (Shared.heap ⟨hp,g,d,tk,os⟩) l items:=⟨_,hl,rfl,n,rfl⟩
  wp_walk using AutoSeq1.wpAny_loadPart' hl
  refine wpAny_stack_any λst=>(Qn ?_);split
  .rename_i c _ _ _ _ _
   cases (c==Value.type "enumerate")<;>(wp_walk using(AutoSeq1.wpAny_loadPart' hl),(JF hL))<;>exact⟨_,rfl,h⟩
  ·(wp_walk using(AutoSeq1.wpAny_loadPart' hl),(JF hL));exact⟨_,rfl,h⟩
theorem kN{T newId initId:String}{Bn Bi:Builtin}{args:xo}{kw:List (Str×UA)}{S:PySem.Spec}{Q Q1:UA->UB->Prop}(ft:TypeCalled T newId initId)
  (hct:checkTypeCall T ⟨args,kw⟩=pure ()) (hcn:checkBuiltinCall newId ⟨.type T::args,kw⟩=pure ()) (eN:entryFor table newId=O Bn) (eI:entryFor table initId=O Bi)
  (g:Meets (Bn ⟨.type T::args,kw⟩) S) (h:S A.in1 (wants Q1 E) s)
  (hnext:∀obj s1,Q1 obj s1->s1.TypeIs obj T/\argsOk initId ⟨obj::args,kw⟩/\∃Si,Meets (Bi ⟨obj::args,kw⟩) Si/\Si A.in1 (wants (λr s2=>r=.none/\Q obj s2) E) s1) :
  UH (model prog w) A (call (.type T) args kw) Q E s:=by
 obtain⟨c,tl,hmro⟩:=ft.mro;have hmade:=ft.made;have hsub:=ft.sub;refine wpAny_call (codeAny_of_tree ?_);show UH _ _ (callAny (.type T) _) _ _ _;refine Qn ⟨Code.quiet_builtin _ (by decide +kernel),(Jk F.entry_type_call ?_)⟩;rw[Around.under_plain (weight_type_call_type T args kw) (units_type_call_type T args kw)];have h1:=ft.notType;have h2:=ft.canCreate
 repeat' (any_goals (first|wp_step|assumption))
 refine codeAny_mono (codeAny_call_builtin ft.plain eN (wpAny_of_eq hcn (g prog w A.in1 _ s h))) λr s1 hr=>?_
 match r,hr with
 |.error e,hr=>exact hr
 |.ok (.ret obj),hr=>
  obtain⟨hT,hok,Si,gi,hsi⟩:=hnext _ _ hr;have hli:=ft.init.lookup;have hbi:=ft.init.bind obj
  repeat' (any_goals (first|wp_step|assumption))
  refine codeAny_mono (codeAny_call_builtin ft.init.plain eI (ft.init.check _ _ _ _ _ _ _ _ hT hok (gi prog w A.in1 _ s1 hsi))) λr2 s2 xV=>?_
  match r2,xV with
  |.error e,xV=>exact xV
  |.ok (.ret r),xV=>
   obtain⟨rfl,hq⟩:=xV
   repeat' (any_goals (first|wp_step|assumption))
  |.ok .next,xV=>exact xV.elim
  |.ok .brk,xV=>exact xV.elim
  |.ok .cont,xV=>exact xV.elim
 |.ok .next,hr=>exact hr.elim
 |.ok .brk,hr=>exact hr.elim
 |.ok .cont,hr=>exact hr.elim
theorem kt{T newId:String}{self:UA}{rest:xo}{kw:List (Str×UA)}(hl:typeLookup (.type T) "__init__" = pure (O (.builtin "object.__init__")))
  (hm:Bind.madeBy (.type T)=pure (O newId)) (hne:(O newId != O "object.__new__")=xi) :
  Meets (Builtin.«object.__init__» ⟨self::rest,kw⟩) (λ_ R s=>s.TypeIs self T/\R (.ok (.ret .none)) s):=by
 refine .of_wp λprog w A R s hs=>?_
 obtain⟨hT,hq⟩:=hs;cases rest with
 |nil=>
  cases kw with
  |nil=>exact Qn ⟨_,rfl,hq⟩
  |cons k kw=>(repeat' (any_goals (first|wp_step|assumption)));exact⟨_,rfl,hq⟩
 |cons a rest=>(repeat' (any_goals (first|wp_step|assumption)));exact⟨_,rfl,hq⟩
theorem kr(a:UA)(t:Tok):checkTypeCall "enumerate" ⟨[a],[("start", .int 1 t)]⟩=pure ():=by kernel_rfl
theorem jb(a:UA)(t:Tok):checkBuiltinCall "enumerate.__new__" ⟨[.type "enumerate", a],[("start", .int 1 t)]⟩=pure ():=by kernel_rfl
theorem kq(o a:UA)(t:Tok):argsOk "object.__init__" ⟨[o,a],[("start", .int 1 t)]⟩:=by unfold argsOk;kernel_rfl
theorem ja{l:UD}{items:Array UA}{t:Tok}{Q:UA->UB->Prop}(hL:s.heap.IsList l items)
  (h:∀h',IsEnum h' (s.heap.objs.size+1) s.heap.objs.size 1 .none->h'.IsListIter s.heap.objs.size l 0->(∀b o,s.heap.get? b=O o->h'.get? b=O o)->Q (.ref (s.heap.objs.size+1)) {s with heap:=h'}) :
  UH (model prog w) A (call (.type "enumerate") [.ref l] [("start", .int 1 t)]) Q E s:=by
 obtain⟨⟨c,dct,dt,sl⟩,hl,hc,n,hd⟩:=hL;replace hc:c=.type "list" :=hc;replace hd:dt=.seq items n:=hd;subst hc hd;have hz:(s.heap.push {cls:=.type "list_iterator", data:=.fields #[.ref l,.int 0 0]}).objs.size=s.heap.objs.size+1:=JE ..;have he:IsEnum ((s.heap.push {cls:=.type "list_iterator", data:=.fields #[.ref l,.int 0 0]}).push {cls:=.type "enumerate", data:=.fields #[.none,.bool xj,.ref s.heap.objs.size,rawInt 1,.none,.none]}) (s.heap.objs.size+1) s.heap.objs.size 1 .none:=by rw[←hz];exact QB _ xf
 refine kN F.called_enumerate (kr _ t) (jb _ t) F.entry_enumerate_new F.entry_object_init (Bk l t items n dct sl) (Q1:=λobj s1=>s1.TypeIs obj "enumerate" /\ Q obj s1) ⟨hl,?_⟩ λobj s1 hq=>
  ⟨hq.1,kq obj _ t,_,kt F.called_enumerate.init.lookup F.called_enumerate.made (by decide),hq.1,rfl,hq.2⟩
 show _/\_;rw[hz];exact⟨⟨_,he,rfl⟩,h _ he ⟨_,Ql _ (QB _ xf),rfl,rfl⟩ λb o x=>Ql _ (Ql _ x)⟩
end
section
variable{prog:UC}{w:World}{A:Around}{E:UA->UB->Prop}{s:UB}
theorem qC{en it l:UD}{i:Nat}{j:Int}{items:Array UA}{x old:UA}{Q:xr->UB->Prop}(st:IsEnum s.heap en it j old)(li:s.heap.IsListIter it l i)(ls:s.heap.IsList l items)
  (at_:items[i]?=O x) (ne:en≠it)
  (k:∀h',IsEnumOut h' en it (j+1) x s.heap.objs.size->h'.IsListIter it l (i+1)->h'.get? s.heap.objs.size=O {cls:=.type "tuple", data:=.seq #[.int j s.toks,x]}->(∀b o,b≠en->b≠it->s.heap.get? b=O o->h'.get? b=O o) ->
   Q (O (.ref s.heap.objs.size)) {s with heap:=h',toks:=s.toks+1}):UH (model prog w) A (pyNext (.ref en)) Q E s:=by
 have ty:s.TypeIs (.ref en) "enumerate" :=⟨_,st,rfl⟩
 have lt:en<s.heap.objs.size:=Qh st;unfold pyNext;refine Qe (wpAny_attempt (wpAny_callSpecial?_slot (name:=UU "__next__") ty F.slot_enumerate_next (wpAny_call_entry F.slot_enumerate_next ty F.entry_enumerate_next ?_ (F.args_enumerate_next_1 _))));show UH _ _ (field (.ref en) 2 >>= _) _ _ s;refine Qe (wpAny_field st xf (x:=.ref it) xf ?_);refine Qe (wpAny_nextOf_list_item li ls at_ λm1 li1 c1=>?_);have c1:Heap.SameBut it s.heap m1:=c1;have st1:IsEnum m1 en it j old:=(c1.2 en ne).trans st;show UH _ _ (field (.ref en) 3 >>= _) _ _ {s with heap:=m1};refine Qe (wpAny_field st1 xf (x:=rawInt j) xf ?_);show UH _ _ (field (.ref en) 4 >>= _) _ _ {s with heap:=m1};refine Qe (wpAny_field st1 xf (x:=.none) xf ?_);show UH _ _ (mkInt j >>= _) _ _ {s with heap:=m1};refine Qe (wpAny_mkInt ?_);show UH _ _ (setField (.ref en) 3 (rawInt (j+1)) >>= _) _ _ {s with heap:=m1,toks:=s.toks+1};refine wpAny_bind (wpAny_setField_rec st1 (by simp) λm2 st2 c2=>?_);have c2:Heap.SameBut en m1 m2:=c2;have st2:IsEnum m2 en it (j+1) old:=st2;show UH _ _ (setField (.ref en) 4 .none >>= _) _ _ {s with heap:=m2,toks:=s.toks+1};refine wpAny_bind (wpAny_setField_rec st2 (by simp) λm3 st3 c3=>?_);have c3:Heap.SameBut en m2 m3:=c3;have st3:IsEnum m3 en it (j+1) old:=st3;show UH _ _ (newTuple [.int j s.toks,x] >>= _) _ _ {s with heap:=m3,toks:=s.toks+1};refine Qe (wpAny_newTuple ?_);have z3:m3.objs.size=s.heap.objs.size:=c3.1.trans (c2.1.trans c1.1);have st4:IsEnum (m3.push {cls:=.type "tuple", data:=.seq #[.int j s.toks,x]}) en it (j+1) old:=Ql _ (show IsEnum m3 en it (j+1) old from st3);have tp4:(m3.push {cls:=.type "tuple", data:=.seq #[.int j s.toks,x]}).get? s.heap.objs.size=O {cls:=.type "tuple", data:=.seq #[.int j s.toks,x]}:=by rw[←z3];exact QB _ xf
 have kp4:∀b o,b≠en->b≠it->s.heap.get? b=O o->(m3.push {cls:=.type "tuple", data:=.seq #[.int j s.toks,x]}).get? b=O o:=λb o n1 n2 q=>Ql _ ((c3.2 b n1).trans ((c2.2 b n1).trans ((c1.2 b n2).trans q)))
 have li4:(m3.push {cls:=.type "tuple", data:=.seq #[.int j s.toks,x]}).IsListIter it l (i+1):=by obtain⟨o,q,r⟩:=li1;exact⟨o,Ql _ ((c3.2 it (Ne.symm ne)).trans ((c2.2 it (Ne.symm ne)).trans q)),r⟩
 generalize m3.push {cls:=.type "tuple", data:=.seq #[.int j s.toks,x]}=m4 at st4 tp4 kp4 li4;show UH _ _ (Builtin.SmallTypes.ownedTupleIsFree (.ref en) >>= _) _ _ {s with heap:=m4,toks:=s.toks+1};rw[z3];refine Qe ?_;unfold Builtin.SmallTypes.ownedTupleIsFree Builtin.SmallTypes.ownedTupleHandOut;refine Qe (wpAny_field st4 xf (x:=.none) xf (Qn ?_));simp only[if_true];refine wpAny_bind (wpAny_rule (wpAny_bind (wpAny_field st4 xf (x:=old) xf (wpAny_bind (wpAny_setField_rec st4 (by simp) λm5 xZ c5=>?_)))));have c5:Heap.SameBut en m4 m5:=c5;have xZ:IsEnum m5 en it (j+1) x:=xZ;refine wpAny_bind (wpAny_bind (wpAny_setField_rec xZ (by simp) λm6 st6 c6=>?_));have c6:Heap.SameBut en m5 m6:=c6;have st6:IsEnumOut m6 en it (j+1) x s.heap.objs.size:=st6;refine wpAny_setField_rec st6 (by simp) λm7 st7 c7=>?_
 have c7:Heap.SameBut en m6 m7:=c7;have st7:IsEnumOut m7 en it (j+1) x s.heap.objs.size:=st7;have up:∀b,b≠en->m7.get? b=m4.get? b:=λb n=>(c7.2 b n).trans ((c6.2 b n).trans (c5.2 b n));refine Qe (wpAny_letGo (Qn ⟨_,rfl,Qn (k m7 st7 ?_ ((up _ (Js lt)).trans tp4) λb o n1 n2 q=>(up b n1).trans (kp4 b o n1 n2 q))⟩))
 obtain⟨o,q,r⟩:=li4;exact⟨o,(up it (Ne.symm ne)).trans q,r⟩
theorem qB{en it l:UD}{i:Nat}{j:Int}{items:Array UA}{old:UA}{Q:xr->UB->Prop}(hh:A.handled=xg)(st:IsEnum s.heap en it j old)(li:s.heap.IsListIter it l i)(ls:s.heap.IsList l items)
  (at_:items[i]?=xg) (k:∀h',Heap.ExtBut it s.heap h'->Q xg {s with heap:=h'}):UH (model prog w) A (pyNext (.ref en)) Q E s:=by
 have ty:s.TypeIs (.ref en) "enumerate" :=⟨_,st,rfl⟩
 unfold pyNext;refine Qe (wpAny_attempt (wpAny_callSpecial?_slot (name:=UU "__next__") ty F.slot_enumerate_next (wpAny_call_entry F.slot_enumerate_next ty F.entry_enumerate_next ?_ (F.args_enumerate_next_1 _))));show UH _ _ (field (.ref en) 2 >>= _) _ _ s;refine Qe (wpAny_field st xf (x:=.ref it) xf (Qe (m:=Builtin.SmallTypes.nextOf (.ref it)) (wpAny_nextOf_list_end hh li ls at_ λh' z c y=>?_)));obtain⟨o,q,t⟩:=y;exact Qe (wpAny_isInstance (T:= "StopIteration") (b:=xi) ⟨o,q,t⟩ isSubtype_stop (Qn (k _ c)))
end
noncomputable def So(K:Frag)(a:UD):It:=
 ⟨λi H=>∃xs x,SqL K H a xs/\xs[i]?=O x,
  λi H v H'=>∃p x,H p=xg/\v=.ref p/\(∀xs,SqL K H a xs->xs[i]?=O x)/\H'=upd H p (.tup [.int (1+(i:Int)),x]),
  λi H=>∃xs,SqL K H a xs/\xs.length<=i⟩
theorem q9{P:UC}{w:World}{K:Frag}{elts:xp}{x1}{tp:Pos}(a e it:UD)(hne:e≠it) :
  Turn P w K (.Tuple elts x1 tp) (So K a) [e,it] e (λi h=>(∃old,IsEnum h e it (1+(i:Int)) old)/\h.IsListIter it a i) where
 mem:=by simp
 obj:=λi h st b hb=>by
  obtain⟨⟨old,he⟩,o,ho,c,d⟩:=st;have hb':b=e∨b=it:=by simpa using hb
  rcases hb' with rfl|rfl
  .exact⟨_,he,λv z=>by have z':Data.fields _=Data.cell v:=z;cases z'⟩
  .exact⟨o,ho,λv z=>by rw[d]at z;cases z⟩
 keep:=λi h h' st k=>by obtain⟨⟨old,he⟩,hi⟩:=st;exact⟨⟨old,k e (by simp) _ he⟩,hi.at λo q=>k it (by simp) o q⟩
 item:=by
  intro X hP hw hK hc i pins s σ H E I hf st hg;subst hP hw hK;obtain⟨⟨old,he⟩,hi⟩:=st;obtain⟨xs,x,hq,hx⟩:=hg;obtain⟨its,rv,p,hz⟩:=I.list hq;obtain⟨u,hu,ru⟩:=rv.get hx;refine qC he hi p.isList (x:=u) (by simpa using hu) hne λh1 out hi1 ht kk=>?_
  refine⟨_,rfl,wpAny_letOwnedTupleGo_enum out λh2 vq hs2=>?_⟩;have hel:e<s.heap.objs.size:=Qh he;have xI:Heap.SameBut e h1 h2:=hs2;have ht2:h2.get? s.heap.objs.size=O {cls:=.type "tuple", data:=.seq #[.int (1+(i:Int)) s.toks,u]}:=(xI.2 _ (Js hel)).trans ht
  have kk2:∀b o,b∉[e,it]->s.heap.get? b=O o->h2.get? b=O o:=λb o hb q=>by
   have xH:b≠e:=λz=>hb (by simp[z])
   have hbi:b≠it:=λz=>hb (by simp[z])
   exact(xI.2 b xH).trans (kk b o xH hbi q)
  have hn:H s.heap.objs.size=xg:=I.hok.fresh (Qs _)
  have I2:Inv X pins σ (upd H s.heap.objs.size (.tup [.int (1+(i:Int)),x])) {s with heap:=h2,toks:=s.toks+1}:=
   I.turnedNew (fp:=[e,it]) hf kk2 (Qs _) ⟨by show 2<=UG;decide,[.int (1+(i:Int)) s.toks,u],.cons ⟨_,rfl⟩ (.cons ru .nil),⟨_,ht2,rfl,_,rfl⟩⟩
  refine⟨.ref s.heap.objs.size,_,I2,rfl,⟨_,x,hn,rfl,λys hy=>by rw[I.list_inj hy hq];exact hx,rfl⟩,⟨⟨u,?_⟩,?_⟩,λb hb=>?_⟩
  .have e2:(1+((i+1:Nat):Int))=1+(i:Int)+1:=by omega
   rw[e2];exact vq
  .exact hi1.at λo q=>(xI.2 it (Ne.symm hne)).trans q
  .have hlt:b<s.heap.objs.size:=by
    have hb':b=e∨b=it:=by simpa using hb
    rcases hb' with rfl|rfl
    .exact hel
    .obtain⟨o,ho,_⟩:=hi;exact Qh ho
   rw[Zh (QN hlt)];exact(hf b hb).1
 done:=by intro X hP hw hK hc i pins s σ H E I hf st hg;subst hP hw hK;obtain⟨⟨old,he⟩,hi⟩:=st;obtain⟨xs,hq,hx⟩:=hg;obtain⟨its,rv,p,hz⟩:=I.list hq;have hl:=rv.length;exact qB (I.ok.hd hc) he hi p.isList (by simp;omega) λh' eb=>⟨rfl,I.turnedL (t':=s.toks) hf λb o hb q=>eb b o (λz=>hb (by simp[z])) q⟩
 self:=λ_ _ _ _ _ st h=>by obtain⟨⟨old,he⟩,_⟩:=st;exact wpAny_pyIter_enum he h
section
variable{X:Cx}
theorem Bj{a:UF}{ta:TA}{p pos k1 k2:Pos}{j}{elts:xp}{x1}{tp:Pos}(hg:Gl X "enumerate")(hm:X.mg "enumerate" = xg)(ha:PA X [a] ta)
  (hs:backTo pos (UI [a] X.env)=(xj,eval a X.env)::backTo pos (UI [] X.env):=by rfl) (hpl:(backTo pos (UI [a] X.env)).any (·.1)=xj:=by rfl) :
  PI X (.Tuple elts x1 tp) (.Call (.Name "enumerate" p) [a] [⟨O "start", .Constant (.int 1) j k1,k2⟩] pos) (λσ H R=>ta σ H λvs H1=>∃a xs,vs=[.ref a]/\SqL X.K H1 a xs/\R (So X.K a) H1):=by
 intro pins s σ H R I h;refine wpAny_Call_Name_kw (Vz I hg hm boot_enumerate (Cn hpl xf ?_));rw[hs];refine evalArgs_kwB xf ?_;rw[←hs];refine thn (ha pos pins s σ H _ I h) λus s1 ⟨vs,H1,I1,r1,q1⟩=>?_;refine kws_cons (wpAny_Constant_int (kws_nil ?_))
 obtain⟨l,xs,e,hq,q⟩:=q1;subst e;cases r1 with
 |cons r rr=>
  cases rr;cases (show _=Value.ref l from r);have I1':=I1.tok (s1.toks+1);obtain⟨its,rv,pl,hz⟩:=I1'.list hq;refine ja pl.isList λh' he hi kk=>?_;have I2:Inv X pins σ H1 {s1 with heap:=h',toks:=s1.toks+1}:=I1'.kept (t':=s1.toks+1) kk;refine wpAny_pyIter_enum he ?_
  refine⟨s1.heap.objs.size+1,[s1.heap.objs.size+1,s1.heap.objs.size],_,_,H1,rfl,I2,q9 l _ _ (Nat.succ_ne_self _),⟨⟨_,he⟩,hi⟩,λb hb=>?_,q⟩;have hb':b=s1.heap.objs.size+1∨b=s1.heap.objs.size:=by simpa using hb
  rcases hb' with rfl|rfl
  .exact I1.fpOk (JW _) (I1.hok.fresh (JW _))
  .exact I1.fpOk (Qs _) (I1.hok.fresh (Qs _))
end
end L2
namespace DL
open PySem PySem.Spec L2
open PyProof.Rows hiding St
section
variable{X:Cx}{B G0:Hp}{e a b c tg:UF}{pos:Pos}{es rest:xp}
theorem ko{K:Frag}{G1:Hp}{ad:UD}{vs:List V}{ds:xk}(h:SqL K G1 ad vs)(r:Reps K G1 vs ds):XN K (So K ad) (Yv 1 ds) G1 where
 go:=λi G H s1 s2 hi=>by
  rw[YH]at hi;have hi':i<vs.length:=by rw[r.length];exact hi
  exact⟨vs,vs[i],(s1.trans s2).seq h,Qf hi'⟩
 stop:=λi G H s1 s2 hi=>by rw[YH]at hi;exact⟨vs,(s1.trans s2).seq h,by rw[r.length];exact hi⟩
 yld:=λi G H x H' d s1 s2 e y=>by
  obtain⟨p,v,hp,rfl,y1,rfl⟩:=y;have z1:=y1 vs ((s1.trans s2).seq h);rw[Na]at e;cases q:ds[i]? with
  |none=>rw[q]at e;cases e
  |some dd=>
   rw[q]at e;cases e;obtain⟨v',e1,r1⟩:=r.get q;rw[z1]at e1;cases e1;refine⟨upd G p (.tup [.int (1+(i:Int)),v]),Ext.new s2 hp,.tup (SqT.of ZU) (.cons ?_ (.cons ((r1.mono s1).mono (ZT (s2.free hp))) .nil))⟩;have:((1+i:Nat):Int)=1+(i:Int):=by omega
   rw[this];exact .int _
noncomputable def Sz:xk->Option xk
 |[.list ds]=>O (Yv 1 ds)
 |_=>xg
noncomputable def RZ(f:M xk):M xk:=Kn f λx=>Ko (Sz x)
theorem q8{x l:xk}(h:Sz x=O l):∃ds,x=[.list ds]/\l=Yv 1 ds:=by
 unfold Sz at h;split at h
 .cases h;exact⟨_,rfl,rfl⟩
 .cases h
theorem Bh{f:M xk}{p2 k1 k2:Pos}{j}{elts:xp}{x1}{tp:Pos}(hg:Gl X "enumerate")(hm:X.mg "enumerate" = xg)(ha:PA X [a] (tDs X.K B G0 f))
  (hs:backTo pos (UI [a] X.env)=(xj,eval a X.env)::backTo pos (UI [] X.env):=by rfl) (hpl:(backTo pos (UI [a] X.env)).any (·.1)=xj:=by rfl) :
  PI X (.Tuple elts x1 tp) (.Call (.Name "enumerate" p2) [a] [⟨O "start", .Constant (.int 1) j k1,k2⟩] pos) (iD X.K B G0 (RZ f)):=Xx (Bj hg hm ha hs hpl) λσ H R q=>tM.toI (R0:=Reps X.K) q λv H' G' Z' x k r a=>by
 cases z:Sz x with
 |none=>rw[z]at a;exact a.elim
 |some l=>rw[z]at a;obtain⟨ds,rfl,rfl⟩:=q8 z;obtain⟨v,rfl,q⟩:=r.one_inv;obtain⟨l,ws,rfl,h1,r1⟩:=q.lst_inv;exact⟨l,ws,rfl,k.gh.seq h1,a _ G' H' k (.refl _) (ko h1 r1)⟩
end
section
variable{X:Cx}
noncomputable def most:xm->Int
 |[]=>0
 |[n]=>n
 |n::r=>if most r > n then most r else n
theorem Pw:∀{ns:xm},0<ns.length->most ns∈ns
 |[n],_=>List.mem_singleton.2 xf
 |n::m::r,_=>by
  have ih:=Pw (ns:=m::r) (Nat.succ_pos _);unfold most;split
  .exact Qi _ ih
  .exact Qk ..
theorem OG:∀{ns:xm}{a:Int},a∈ns->a<=most ns
 |[n],a,h=>by rw[List.mem_singleton.1 h];exact QY _
 |n::m::r,a,h=>by
  have ih:∀b,b∈m::r->b<=most (m::r):=λb hb=>OG hb;unfold most;rcases QL.1 h with e|h
  .subst e;split<;>omega
  .have:=ih a h;split<;>omega
theorem Cm{ns:xm}{M:Int}(h1:M∈ns)(h2:∀a,a∈ns->a<=M):most ns=M:=
 Uh (h2 _ (Pw (List.length_pos_of_mem h1))) (OG h1)
theorem qA(hc:X.calm=xi):YO X (.builtin "max") (λxs H Q=>∃l,∃ns:xm,xs=[.ref l]/\SqL X.K H l (ns.map V.int)/\0<ns.length/\Q (.int (most ns)) H):=by
 intro pins s σ H xs us Q I rx h;obtain⟨l,ns,rfl,hq,hb,q⟩:=h;obtain⟨u,rfl,ru⟩:=rx.one;cases ru;obtain⟨its,rv,p,hz⟩:=I.list hq;have hi:=VL rv;obtain⟨ys,e⟩:=hi.allInts.items;have hns:ns=ys.toList.map (·.1):=by rw[←hi.numsOf,←nums_intItems,←e]
 have hsz:0<ys.size:=by rw[hns,Qb,Jx]at hb;exact hb
 have hl:=p.isList;rw[e]at hl;refine max_intList (I.ok.hd hc) hl hsz λv h' tk hv hk=>?_
 obtain⟨t,rfl⟩:=intItems_at hv;obtain⟨h1,h2⟩:=argBest_gt (numAt ys) (ys.size-1);refine⟨.int (most ns),H,I.kept hk,⟨t,?_⟩,q⟩;rw[Cm (M:=_) ?_ ?_]
 .rw[hns,numAt_eq];exact getD_mem (by rw[Qb,Jx];omega)
 .intro a ha
  rw[hns]at ha;obtain⟨j,hj,rfl⟩:=mem_getD ha;rw[Qb,Jx]at hj;rw[←numAt_eq];exact h2 j (by omega)
noncomputable def VS:xk->xn
 |[.list ds]=>(match YE ds with
  |some ns=>if 0<ns.length then O (.int (most ns))else xg
  |none=>xg)
 |_=>xg
theorem qz{xs:xk}{d:D}(h:VS xs=O d):∃ds ns,xs=[.list ds]/\YE ds=O ns/\0<ns.length/\d=.int (most ns):=by
 unfold VS at h;split at h
 .rename_i ds
  cases z:YE ds with
  |none=>rw[z]at h;cases h
  |some ns=>
   rw[z]at h;dsimp only at h;split at h
   .rename_i c
    cases h;exact⟨ds,ns,rfl,z,c,rfl⟩
   .cases h
 .cases h
theorem FX(hc:X.calm=xi):Y3 X (.builtin "max") VS:=by refine⟨_,qA hc,λvs G H ds d Q s r e k=>?_⟩;obtain⟨ds,ns,rfl,z,c,rfl⟩:=qz e;obtain⟨v,rfl,q1⟩:=r.one_inv;obtain⟨l,ws,rfl,h1,r1⟩:=q1.lst_inv;have:=SY r1 z;subst this;exact⟨l,ns,rfl,s.seq h1,c,k _ G H (.refl s) (.int _)⟩
theorem Lz{ns:xm}(h:0<ns.length):VS [.list (ns.map .int)]=O (.int (most ns)):=by unfold VS;simp only[SX,Qo h]
end
section
variable{X:Cx}{B G0:Hp}{e o:UF}{es:xp}
theorem kn{h:Heap}{vs:xo}{xs:xk}{as:xw}{d:D}(rs:ReadsAll h vs xs as)(hxs:UQ xs=xi) :
  vs.countP (λy=>US (SeqAt.readOf h y) d)=xs.countP (λy=>US y d):=by
 have key:xs=vs.map (SeqAt.readOf h):=(SeqAt.readsAll_map xs vs as hxs rs).symm;rw[key,List.countP_map];rfl
noncomputable def VH(y x:D):xn:=match y with
 |.list ds=>if x.canLay0=xi/\UQ ds=xi/\x.depth<=60 then O (.int (ds.countP λy=>US y x))else xg
 |_=>xg
theorem Bg(hu:X.A.units+64<cLine):MtR X "list.count" (λv vs H Q=>∃G u y x d,vs=[u]/\Same G H/\Rep X.K G v y/\Rep X.K G u x/\VH y x=O (.int d)/\Q (.int d) H):=by
 intro pins s σ H x xs v us Q I rx rs h;obtain⟨G,u,dy,dx,d,rfl,sg,py,px,e,q⟩:=h;obtain⟨w,rfl,vo⟩:=rs.one;unfold VH at e;split at e
 .rename_i ds
  split at e
  .rename_i c
   obtain⟨bs,rb⟩:=YW I sg py rx (show UQ _=xi from c.2.1);obtain⟨as,ra⟩:=YW I sg px vo c.1;cases rb with
   |list h1 h2 h3 h4=>rename_i l ob its cs n;obtain⟨cls,dd,data,sl⟩:=ob;simp only at h2 h3;subst h2 h3;refine call_meets F.slot_list_count ⟨_,h1,rfl⟩ F.entry_list_count (F.args_list_count_2 _ _) (SeqAt.list_countAt _ _ _ dd sl _ (λy=>US (SeqAt.readOf s.heap y) dx)) ⟨h1,SeqAt.items_eqAt h4 ra c.2.1 c.1 (by have:=c.2.2;omega),?_⟩;rw[kn h4 c.2.1];cases e;exact⟨.int _,H,I.tok _,⟨_,rfl⟩,q⟩
  .cases e
 .cases e
noncomputable def Pl(y:D)(xs:xk):xn:=match xs with
 |[x]=>VH y x
 |_=>xg
theorem km{ds xs:xk}{d:D}(h:Pl (.list ds) xs=O d):∃x n,xs=[x]/\d=.int n/\VH (.list ds) x=O (.int n):=by
 unfold Pl at h;split at h
 .rename_i x
  have h':=h;unfold VH at h;dsimp only at h;split at h
  .cases h;exact⟨x,_,rfl,rfl,h'⟩
  .cases h
 .cases h
noncomputable def Sy(f:M D)(g:M xk):M D:=Kn f λy=>Kn g λxs=>Ko (match y with | .list ds=>Pl (.list ds) xs|_=>xg)
theorem qW{apos cpos:Pos}{f:M D}{g:M xk}(hu:X.A.units+64<cLine)(ho:PE X o (tD X.K B G0 f))(ha:PA X (e::es) (tDs X.K B G0 g))
  (hbase:attributeBase o "count" X.env (eval o X.env)=eval o X.env:=by rfl)
  (hfew:((backTo cpos (UI (e::es) X.env)).all (λx=>!x.1)&&(backToKw cpos (keywordEach [] X.env)).all (λx=>x.1.isSome)
   && decide ((e::es).length+([]:List Keyword).length+(if([]:List Keyword).isEmpty then 0 else 1)<30))=xi:=by rfl)
  (hline:(apos.endLine==cpos.line)=xi:=by rfl) (hs:UI (e::es) X.env=(xj,eval e X.env)::UI es X.env:=by rfl) (hplain:(backTo cpos (UI es X.env)).any (·.1)=xj:=by rfl) :
  PE X (.Call (.Attribute o "count" apos) (e::es) [] cpos) (tD X.K B G0 (Sy f g)):=
 KG (RX F.plainAttrs_list F.slot_list_count F.type_list_count (Bg hu) ho ha hbase hfew hline hs hplain) λσ H Q q=>by
  refine tM.one (R:=Rep X.K) q λv H2 G Z y k r a=>?_
  cases y with
  |list ds=>
   obtain⟨l,ws,rfl,h1,r1⟩:=r.lst_inv;refine⟨.inl ⟨rfl,ws,k.gh.seq h1⟩,?_⟩;refine tM.nx (R:=Reps X.K) k a λxs H3 G3 Z3 es k3 s3 r3 a3=>?_
   obtain⟨d,e,a3⟩:=a3.opt;obtain⟨x,n,rfl,rfl,e'⟩:=km e;obtain⟨u,rfl,ru⟩:=r3.one_inv;exact⟨G3,u,.list ds,x,n,rfl,k3.gh,r.mono s3,ru,e',aft.now a3 k3 (.int _)⟩
  |_=>
   unfold Kn at a;cases z:g Z with
   |bad=>rw[z]at a;exact a.elim
   |ok xs Z1=>rw[z]at a;exact a.elim
theorem Ly{f:M D}{g:M xk}{Z Z1 Z2:U0}{ds:xk}{x d:D}(h1:f Z=.ok (.list ds) Z1)(h2:g Z1=.ok [x] Z2)(h3:VH (.list ds) x=O d):Sy f g Z=.ok d Z2:=by unfold Sy Kn;rw[h1];dsimp only;rw[h2];dsimp only[Pl];rw[h3];rfl
end
section
variable{prog:UC}{w:World}{A:Around}{R:Result->UB->Prop}{h0:Heap}{l I S:UD}{rs:List (UD×xo)}
def ZW(h h':Heap):Prop:=∀b o,h.get? b=O o->h'.get? b=O o
def Ls1(h:Heap)(a:UD)(its:xo)(sl:Array xr):Prop:=∃n,h.get? a=O {cls:=.type "list", dict:=xg,data:=.seq its.toArray n,slots:=sl}
def Ls(h:Heap)(a:UD)(its:xo):Prop:=∃n sl,h.get? a=O {cls:=.type "list", dict:=xg,data:=.seq its.toArray n,slots:=sl}
theorem Ls.kept{h h':Heap}{a:UD}{its:xo}(x:Ls h a its)(k:ZW h h'):Ls h' a its:=by obtain⟨n,sl,e⟩:=x;exact⟨n,sl,k _ _ e⟩
theorem Ls.isList{h:Heap}{a:UD}{its:xo}(x:Ls h a its):h.IsList a its.toArray:=by obtain⟨n,sl,e⟩:=x;exact⟨_,e,rfl,n,rfl⟩
theorem qZ(hh:A.in1.handled=xg)(hI:h0.objs.size<=I)(hS:h0.objs.size<=S)(hIS:S≠I)(hl:h0.IsList l (rs.map λp=>Value.ref p.1).toArray)(hr:∀p∈rs,Ls h0 p.1 p.2) :
  ∀(k i:Nat)(s:UB)(t:UD)(acc:xo)(c:Nat)(sl:Array xr),rs.length-i=k->i<=rs.length->ZW h0 s.heap->s.heap.IsListIter I l i ->
   s.heap.get? S=O {cls:=.type "list", dict:=xg,data:=.seq #[.ref t] c,slots:=#[]}->t≠S->t≠I->Ls1 s.heap t acc sl->acc.length+((rs.drop i).map (·.2)).flatten.length<=UG ->
   (∀p h' tk xM,ZW h0 h'->Ls1 h' p (acc++((rs.drop i).map (·.2)).flatten) xM->(p=t/\i=rs.length/\xM=sl∨h0.objs.size<=p/\xM=#[])->R (.ok (.ret (.ref p))) {s with heap:=h',toks:=tk}) ->
   codeAny (model prog w) A (.builtin "sum.loop" ⟨[.ref I,.ref S,rawInt 2,rawInt 0],[]⟩) R s:=by
 intro k;induction k with
 |zero=>
  intro i s t acc c sl hk hi hK hit xO htS htI ht hz hR;have hin:i=rs.length:=by omega
  subst hin;refine Jk F.entry_sum_loop ?_;rw[Jm F.plain_sum_loop _];show UH _ A.in1 (seqItems? (.ref S) >>= _) _ _ s;refine Qe (wpAny_seqItems xO xf ?_);show UH _ A.in1 (tryCatch (pyNext (.ref I)) _ >>= _) _ _ s;have hl':s.heap.IsList l (rs.map λp=>Value.ref p.1).toArray:=by obtain⟨o,e,r⟩:=hl;exact⟨o,hK _ _ e,r⟩
  refine wpAny_bind (wpAny_tryCatch (wpAny_pyNext_list_end hh hit hl' (by simp) λh' ex=>?_));refine Qn (hR t h' s.toks sl (λb o e=>?_) ?_ (.inl ⟨rfl,rfl,rfl⟩))
  .exact ex b o (QN (Qz (Qh e) hI)) (hK b o e)
  .obtain⟨n,e⟩:=ht
   rw[List.drop_length,Uo,List.flatten_nil,Je];exact⟨n,ex _ _ htI e⟩
 |succ k ih=>
  intro i s t acc c sl hk hi hK hit xO htS htI ht hz hR;have hlt:i<rs.length:=by omega
  refine Jk F.entry_sum_loop ?_;rw[Jm F.plain_sum_loop _];show UH _ A.in1 (seqItems? (.ref S) >>= _) _ _ s;refine Qe (wpAny_seqItems xO xf ?_);show UH _ A.in1 (tryCatch (pyNext (.ref I)) _ >>= _) _ _ s;have hl':s.heap.IsList l (rs.map λp=>Value.ref p.1).toArray:=by obtain⟨o,e,r⟩:=hl;exact⟨o,hK _ _ e,r⟩
  refine wpAny_bind (wpAny_tryCatch (wpAny_pyNext_list_item (x:=.ref (rs[i]'hlt).1) hit hl' (by simp[hlt]) λh' xJ sb=>?_));show UH _ A.in1 ((holding [Value.ref (rs[i]'hlt).1] (binaryOp .Add (.ref t) (.ref (rs[i]'hlt).1))).attempt >>= _) _ _ _;refine Qe (wpAny_attempt (Jw ?_));have hm:rs[i]'hlt∈rs:=JP hlt;have hd:rs.drop i=rs[i]'hlt::rs.drop (i+1):=QQ hlt;have vv:ZW h0 h':=λb o e=>(sb.2 b (QN (Qz (Qh e) hI))).trans (hK b o e)
  obtain⟨n1,e1⟩:=ht;have e1':=(sb.2 t htI).trans e1;obtain⟨n2,s2,e2⟩:=(hr _ hm).kept vv;have wD:=(sb.2 S hIS).trans xO;rw[hd,Qu,QP,Qm]at hz;refine concat_meets ⟨_,e1',rfl⟩ ⟨_,e2,rfl⟩ noFill_list_add seq_list_add PySem.F.slot_list_add PySem.F.entry_list_add (PySem.F.args_list_add_2 _ _) (list_addW t _ acc.toArray _ n1 n2 xg xg sl s2 (by rw[QJ,QJ];omega)) ⟨e1',e2,?_⟩;have hlS:S<h'.objs.size:=Qh wD;have hlI:I<h'.objs.size:=by obtain⟨o,e,_⟩:=xJ;exact Qh e
  have ea:acc.toArray++(rs[i]'hlt).2.toArray=(acc++(rs[i]'hlt).2).toArray:=by simp
  rw[ea];have hP:∀b o,h'.get? b=O o->(h'.push {cls:=Value.type "list", data:=Data.seq (acc++(rs[i]'hlt).2).toArray}).get? b=O o:=λb o e=>Ql _ e
  have hS1:=hP _ _ wD;have hNew:(h'.push {cls:=Value.type "list", data:=Data.seq (acc++(rs[i]'hlt).2).toArray}).get? h'.objs.size=O {cls:=Value.type "list", data:=Data.seq (acc++(rs[i]'hlt).2).toArray}:=QB _ xf;show UH _ A.in1 (updateSeq S (λ_=>#[.ref h'.objs.size]) >>= _) _ _ _;refine Qe (wpAny_updateSeq hS1 xf ?_);have hS2:=Heap.get?_update_self (Obj.mapSeq λ_=>#[Value.ref h'.objs.size]) hS1 xf;refine Qe (wpAny_letGo ?_);refine Qe (wpAny_updateSeq hS2 xf (Qn ⟨JJ F.plain_sum_loop _,?_⟩));have oth:∀b o,b≠S->(h'.push {cls:=Value.type "list", data:=Data.seq (acc++(rs[i]'hlt).2).toArray}).get? b=O o->(((h'.push {cls:=Value.type "list", data:=Data.seq (acc++(rs[i]'hlt).2).toArray}).update S (Obj.mapSeq λx=>#[Value.ref h'.objs.size])).update S (Obj.mapSeq λx=>#[Value.ref h'.objs.size])).get? b=O o:=λb o hb e=>(Q4 _ _ (Ne.symm hb)).trans ((Q4 _ _ (Ne.symm hb)).trans e)
  refine ih (i+1) _ h'.objs.size (acc++(rs[i]'hlt).2) _ #[] (by omega) hlt ?_ ?_ (Heap.get?_update_self _ hS2 xf) (Js hlS) (Js hlI) ?_ (by rw[Qm];omega) λp h'' tk xM hk'' hp hq=>?_
  .exact λb o e=>oth b o (QN (Qz (Qh e) hS)) (hP b o (vv b o e))
  .obtain⟨o,e,r⟩:=xJ
   exact⟨o,oth I o (Ne.symm hIS) (hP I o e),r⟩
  .exact⟨_,oth _ _ (Js hlS) hNew⟩
  .refine hR p h'' tk xM hk'' ?_ (.inr ?_)
   .rw[hd,Qu,QP,←Ja];exact hp
   .rcases hq with ⟨rfl, -,e⟩|hq
    .exact⟨Uu (Nat.lt_of_le_of_lt hS hlS),e⟩
    .exact hq
end
section
variable{prog:UC}{w:World}{A:Around}{E:UA->UB->Prop}{s:UB}{l z:UD}{rs:List (UD×xo)}
theorem qV(a b:UA):argsOk "sum" ⟨[a,b],[]⟩:=by unfold argsOk;kernel_rfl
theorem qY{Q:UA->UB->Prop}(hh:A.handled=xg)(hl:s.heap.IsList l (rs.map λp=>Value.ref p.1).toArray)(hr:∀p∈rs,Ls s.heap p.1 p.2)(hz:Ls s.heap z [])(hb:(rs.map (·.2)).flatten.length<=UG)
  (h:∀p h' tk xM,ZW s.heap h'->Ls1 h' p (rs.map (·.2)).flatten xM->(p=z/\rs=[]∨s.heap.objs.size<=p/\xM=#[])->Q (.ref p) {s with heap:=h',toks:=tk}) :
  UH (model prog w) A (call (.builtin "sum") [.ref l,.ref z]) Q E s:=by
 refine call_function_tree F.kind_sum F.plain_sum F.entry_sum (qV _ _) ?_;unfold Builtin.«sum»;simp only[QC,QG];rw[Qv (by decide)];refine Qe (wpAny_of_eq (show Builtin.Builtins.bindParams "sum" ["start"] 0 ⟨[.ref z],[]⟩=pure [O (.ref z)]from rfl) ?_);refine Qe (JF hl ?_);refine Qe (Qn ?_);obtain⟨n,sl,ez⟩:=id hz;have ty:∀h:Heap,h.get? z=O {cls:=.type "list", dict:=xg,data:=.seq [].toArray n,slots:=sl}->({s with heap:=h}:UB).TypeIs (.ref z) "list" :=λh e=>⟨_,e,rfl⟩
 have ez':(s.heap.push {cls:=.type "list_iterator", data:=.fields #[.ref l,.int 0 0]}).get? z=_:=Ql _ ez;simp only[List.forIn_cons,List.forIn_nil];refine Qe (Qe (Qe (wpAny_isInstance (T:= "list") (b:=xj) (ty _ ez') F.sub_list_str ?_)));simp only[JX,Uy];refine Qn (Qe (Qe (wpAny_isInstance (T:= "list") (b:=xj) (ty _ ez') F.sub_list_bytes ?_)));simp only[JX,Uy];refine Qn (Qe (Qe (wpAny_isInstance (T:= "list") (b:=xj) (ty _ ez') F.sub_list_bytearray ?_)));simp only[JX,Uy];refine Qn (Qn ?_);refine Qe (wpAny_newObj_type ?_);have hzs:=Qh ez;have s1:(s.heap.push {cls:=.type "list_iterator", data:=.fields #[.ref l,.int 0 0]}).objs.size=s.heap.objs.size+1:=JE ..;have k2:ZW s.heap ((s.heap.push {cls:=.type "list_iterator", data:=.fields #[.ref l,.int 0 0]}).push {cls:=.type "list", data:=.seq #[.ref z]}):=λb o e=>Ql _ (Ql _ e)
 refine Qn ⟨JJ F.plain_sum_loop _,qZ (h0:=s.heap) (l:=l) (I:=s.heap.objs.size) (S:=(s.heap.push {cls:=.type "list_iterator", data:=.fields #[.ref l,.int 0 0]}).objs.size) (rs:=rs) hh (Qs _) (by rw[s1];exact JW _) (by rw[s1];exact Nat.succ_ne_self _) hl hr rs.length 0 _ z [] 0 sl xf (Uc _)
  k2 ⟨_,Heap.get?_push_of_some _ (Heap.get?_push_size _ xf),rfl,rfl⟩ (Heap.get?_push_size _ xf) (by rw[s1];exact Nat.ne_of_lt (Nat.lt_succ_of_lt hzs)) (Nat.ne_of_lt hzs) ⟨n,k2 _ _ ez⟩ (by simpa using hb) λp h' tk xM hk hp hq=>?_⟩
 exact h p h' tk xM hk (by simpa using hp) (hq.imp (λe=>⟨e.1,List.eq_nil_of_length_eq_zero e.2.1.symm⟩) id)
end
section
variable{X:Cx}{pins:List (UD×Obj)}{σ:St}{H:Hp}{s:UB}
theorem Lr(I:Inv X pins σ H s):∀{rs:List (UD×List V)},(∀p∈rs,SqL X.K H p.1 p.2) ->
  ∃ts:List (UD×xo),(ts.map λp=>Value.ref p.1)=(rs.map λp=>Value.ref p.1)/\(∀p∈ts,Ls s.heap p.1 p.2)/\Vals (rs.map (·.2)).flatten (ts.map (·.2)).flatten
 |[],_=>⟨[],rfl,(λ_ h=>by cases h),(show Vals [] []from Paired.nil)⟩
 |p::rs,h=>by
  obtain⟨ts,e,hl,hv⟩:=Lr I λq hq=>h q (Qi _ hq)
  obtain⟨its,rv,⟨⟨c1,d1,t1,sl⟩,n,e1,ec,ed,et⟩,z⟩:=I.list (h p (Qk ..));simp only at ec ed et;subst ec ed et;refine⟨(p.1,its)::ts,by rw[Qu,Qu,e],λq hq=>?_,?_⟩
  .rcases QL.1 hq with rfl|hq
   .exact⟨n,sl,e1⟩
   .exact hl q hq
  .rw[Qu,Qu,QP,QP]
   exact rv.append hv
theorem O8:∀{as:xw}{us:xo},Vals (as.map V.ref) us->us=as.map Value.ref
 |[],_,.nil=>rfl
 |a::as,_,.cons h t=>by cases h;rw[O8 t];rfl
theorem qU(hc:X.calm=xi):YO X (.builtin "sum") (λxs H Q=>∃l z,∃rs:List (UD×List V),xs=[.ref l,.ref z]/\SqL X.K H l (rs.map λp=>V.ref p.1)/\(∀p∈rs,SqL X.K H p.1 p.2)/\SqL X.K H z []/\(rs.map (·.2)).flatten.length<=UG /\
  (rs=[]->Q (.ref z) H)/\∀p,H p=xg->Q (.ref p) (upd H p (.lst (rs.map (·.2)).flatten))):=by
 intro pins s σ H xs us Q I rx h;obtain⟨l,z,rs,rfl,hq,hr,hz,hb,q0,q⟩:=h;obtain⟨u,u',rfl,ru,ru'⟩:=P7 rx;cases ru;cases ru';obtain⟨its,rv,pl, -⟩:=I.list hq;obtain⟨ts,e,hl,hv⟩:=Lr I hr;have ei:its=ts.map λp=>Value.ref p.1:=by rw[e];have:=O8 (as:=rs.map (·.1)) (us:=its) (by rw[QW];exact rv);rw[this,QW];rfl
 subst ei;obtain⟨zi,rz,⟨⟨c1,d1,t1,sl⟩,n,e1,ec,ed,et⟩, -⟩:=I.list hz;cases rz;simp only at ec ed et;subst ec ed et;have hlen:=hv.length;refine qY (I.ok.hd hc) pl.isList hl ⟨n,sl,e1⟩ (by omega) λp h' tk xM hk hp hq=>?_
 rcases hq with ⟨rfl,rfl⟩|⟨v4,rfl⟩
 .have hr0:rs=[]:=by
   cases rs with
   |nil=>rfl
   |cons a b=>cases e
  exact⟨.ref _,H,I.kept hk,rfl,q0 hr0⟩
 .obtain⟨m,ep⟩:=hp
  exact⟨.ref p,_,I.laid (t':=tk) hk v4 (show Yy X.prog X.w _ h' _ (.lst _)from⟨hb,_,m,hv,ep⟩),rfl,q p (I.hok.fresh v4)⟩
noncomputable def Wy:xk->Option (List xk)
 |[]=>O []
 |.list xs::r=>(Wy r).map (xs :: ·)
 |_=>xg
theorem GH{K:Frag}{G:Hp}:∀{vs:List V}{ds:xk}{ls:List xk},Reps K G vs ds->Wy ds=O ls ->
  ∃rs:List (UD×List V),vs=(rs.map λp=>V.ref p.1)/\(∀p∈rs,SqL K G p.1 p.2)/\Reps K G (rs.map (·.2)).flatten ls.flatten/\rs.length=ls.length
 |_,_,ls,.nil,e=>by cases e;exact⟨[],rfl,(λ_ h=>by cases h),.nil,rfl⟩
 |_,_,ls,.cons (d:=d) r t,e=>by
  cases d with
  |list xs=>
   unfold Wy at e;cases z:Wy _ with
   |none=>rw[z]at e;cases e
   |some cs=>
    rw[z]at e;cases e;obtain⟨rs,rfl,h1,h2,h3⟩:=GH t z;obtain⟨a,ws,rfl,h,rr⟩:=r.lst_inv;refine⟨(a,ws)::rs,rfl,λp hp=>?_,?_,congrArg (· + 1) h3⟩
    .rcases QL.1 hp with rfl|hp
     .exact h
     .exact h1 p hp
    .rw[Qu,QP,QP]
     exact rr.append h2
  |_=>cases e
theorem qX(ls:List xk):Wy (ls.map UM)=O ls:=by
 induction ls with
 |nil=>rfl
 |cons b r ih=>rw[Qu,Wy,ih];rfl
noncomputable def Sq:xk->xn
 |[.list ds,.list []]=>(match Wy ds with
  |some ls=>if ls.flatten.length<=1000000 then O (.list ls.flatten)else xg
  |none=>xg)
 |_=>xg
theorem qT{xs:xk}{d:D}(h:Sq xs=O d):∃ds ls,xs=[.list ds,.list []]/\Wy ds=O ls/\ls.flatten.length<=1000000/\d=.list ls.flatten:=by
 unfold Sq at h;split at h
 .rename_i ds
  cases z:Wy ds with
  |none=>rw[z]at h;cases h
  |some ls=>
   rw[z]at h;dsimp only at h;split at h
   .rename_i c
    cases h;exact⟨ds,ls,rfl,z,c,rfl⟩
   .cases h
 .cases h
theorem FW(hc:X.calm=xi):Y3 X (.builtin "sum") Sq:=by
 refine⟨_,qU hc,λvs G H ds d Q s r e k=>?_⟩;obtain⟨ds,ls,rfl,z,c,rfl⟩:=qT e;obtain⟨v,v',rfl,q1,q2⟩:=r.two_inv;obtain⟨l,ws,rfl,h1,r1⟩:=q1.lst_inv;obtain⟨a,ws2,rfl,h2,r2⟩:=q2.lst_inv;have:=r2.nil_inv;subst this;obtain⟨rs,rfl,g1,g2,g3⟩:=GH r1 z;refine⟨l,a,rs,rfl,s.seq h1,λp hp=>s.seq (g1 p hp),s.seq h2,?_,λe0=>?_,λp hp=>?_⟩
 .rw[g2.length];exact QR c lim
 .subst e0
  have:ls=[]:=List.eq_nil_of_length_eq_zero g3.symm;subst this;exact k _ G H (.refl s) (.lst h2 .nil)
 .exact k _ _ _ (.new s hp) (.lst (SqL.of ZU) (g2.mono (ZT (s.free hp))))
end
section
variable{X:Cx}
noncomputable def YR(ns:xm):xm:=ns.mergeSort λa b=>decide (a<=b)
theorem X1(ns:xm):(YR ns).Perm ns:=List.mergeSort_perm ..
theorem Hx(ns:xm):(YR ns).Pairwise (· <= ·):=by have:=List.pairwise_mergeSort (le:=λa b:Int=>decide (a<=b)) (by intro a b c;simp;omega) (by intro a b;simp;omega) ns;exact this.imp (by simp)
theorem Lq:∀{a b:xm},a.Perm b->a.Pairwise (· <= ·)->b.Pairwise (· <= ·)->a=b
 |[],b,p,_,_=>by rw[List.nil_perm.1 p]
 |x::a,[],p,_,_=>by have:=p.length_eq;simp at this
 |x::a,y::b,p,ha,hb=>by
  have hx:y<=x:=by
   rcases QL.1 (p.mem_iff.1 (Qk ..))with e|e
   .exact Int.le_of_eq e.symm
   .exact(JC.1 hb).1 x e
  have hy:x<=y:=by
   rcases QL.1 (p.mem_iff.2 (Qk ..))with e|e
   .exact Int.le_of_eq e.symm
   .exact(JC.1 ha).1 y e
  have e:=Uh hy hx;subst e;rw[Lq (List.Perm.cons_inv p) (JC.1 ha).2 (JC.1 hb).2]
theorem HV:∀{us:xo}{ns:xm},PyProof.Rows.IntsAre us ns->Vals (ns.map V.int) us
 |_,_,.nil=>Paired.nil
 |_,_,.cons n t h=>Paired.cons ⟨t,rfl⟩ (HV h)
theorem jP:YO X (.builtin "sorted") (λxs H Q=>∃l,∃ns:xm,xs=[.ref l]/\SqL X.K H l (ns.map V.int)/\ns.length<64/\∀p,H p=xg->Q (.ref p) (upd H p (.lst ((YR ns).map V.int)))):=by
 intro pins s σ H xs us Q I rx h;obtain⟨l,ns,rfl,hq,hb,q⟩:=h;obtain⟨u,rfl,ru⟩:=rx.one;cases ru;obtain⟨its,rv,p,hz⟩:=I.list hq;have hi:=VL rv;have hn:its.length=ns.length:=by have:=rv.length;rw[Qb]at this;omega
 refine sorted_ints p.isList hi (by omega) λout ns' a1 a2 a3=>?_
 obtain⟨e,he⟩:=sortedAll_at s.heap its out;have en:ns'=YR ns:=Lq (a2.trans (X1 ns).symm) a3 (Hx ns);subst en;refine⟨.ref (s.heap.objs.size+1),_,I.laid (t':=s.toks) (λb o=>sortedAll_old) (JW _) (show Yy X.prog X.w _ _ _ (.lst ((YR ns).map V.int))from⟨?_,out.toList,e,HV a1,he⟩),rfl,q _ (I.hok.fresh (JW _))⟩;rw[Qb,(X1 ns).length_eq];rw[Qb]at hz;exact hz
noncomputable def V3:xk->xn
 |[.list ds]=>(match YE ds with
  |some ns=>if ns.length<64 then O (.list ((YR ns).map .int))else xg
  |none=>xg)
 |_=>xg
theorem jO{xs:xk}{d:D}(h:V3 xs=O d):∃ds ns,xs=[.list ds]/\YE ds=O ns/\ns.length<64/\d=.list ((YR ns).map .int):=by
 unfold V3 at h;split at h
 .rename_i ds
  cases z:YE ds with
  |none=>rw[z]at h;cases h
  |some ns=>
   rw[z]at h;dsimp only at h;split at h
   .rename_i c
    cases h;exact⟨ds,ns,rfl,z,c,rfl⟩
   .cases h
 .cases h
theorem Nn{K:Frag}{G:Hp}:∀ns:xm,Reps K G (ns.map V.int) (ns.map int)
 |[]=>.nil
 |n::r=>.cons (.int n) (Nn r)
theorem Ck:Y3 X (.builtin "sorted") V3:=by refine⟨_,jP,λvs G H ds d Q s r e k=>?_⟩;obtain⟨ds,ns,rfl,z,c,rfl⟩:=jO e;obtain⟨v,rfl,q1⟩:=r.one_inv;obtain⟨l,ws,rfl,h1,r1⟩:=q1.lst_inv;have:=SY r1 z;subst this;exact⟨l,ns,rfl,s.seq h1,c,λp hp=>k _ _ _ (.new s hp) (.lst (SqL.of ZU) (Nn _))⟩
theorem qS{ns:xm}(h:ns.length<64):V3 [.list (ns.map .int)]=O (.list ((YR ns).map .int)):=by unfold V3;simp only[SX,Qo h]
end
@[simp] theorem mBind_ok{α β:Type}{f:M α}{k:α->M β}{Z Z':U0}{x:α}(h:f Z=.ok x Z'):Kn f k Z=k x Z':=by unfold Kn;rw[h]
theorem HU{s:D->U0->xu}{g:SM}{P:Nat->U0->Prop}{R:Out->Prop}:∀(ds:xk)(n:Nat)(Z:U0),P n Z ->
  (∀i d Z,ds[i]?=O d->P (n+i) Z->∃Z1,s d Z=O Z1/\((∃Z2,(g Z1=.nx Z2∨g Z1=.ct Z2)/\P (n+i+1) Z2)∨(∃x,g Z1=.rt x/\R (.rt x))∨(∃Z2,g Z1=.bk Z2/\R (.nx Z2))∨(∃Z2 x,g Z1=.ex Z2 x/\R (.ex Z2 x)) ∨ ∃x,g Z1=.ro x/\R (.ro x)))->(∀Z,P (n+ds.length) Z->R (.nx Z))->R (Vp s g ds Z)
 |[],n,Z,h,_,f=>f Z h
 |d::r,n,Z,h,st,f=>by
  obtain⟨Z1,e1,e2⟩:=st 0 d Z xf h;rw[Vp,e1];dsimp only;rcases e2 with ⟨Z2,e2,h2⟩|⟨x,e2,h2⟩|⟨Z2,e2,h2⟩|⟨Z2,x,e2,h2⟩|⟨x,e2,h2⟩
  .have goal:=HU (R:=R) r (n+1) Z2 h2 (λi d' Z3 q p=>by
    have e:n+1+i=n+(i+1):=by omega
    rw[e]at p⊢;exact st (i+1) d' Z3 (by simpa using q) p) (λZ3 p=>f Z3 (by
    have e:n+1+r.length=n+(d::r).length:=by rw[QC];omega
    rw[e]at p;exact p))
   rcases e2 with e2|e2<;>(rw[e2];exact goal)
  .rw[e2];exact h2
  .rw[e2];exact h2
  .rw[e2];exact h2
  .rw[e2];exact h2
theorem Te{lo hi:Int}{i:Nat}{d:D}(h:(Yx lo hi)[i]?=O d):d=.int (lo+i)/\(i:Int)<hi-lo:=by have hl:i<(Yx lo hi).length:=(Qg.mp h).1;rw[X0]at hl;unfold Yx at h;rw[Qd,Qf (by rw[Qq];exact hl),Ud]at h;cases h;exact⟨rfl,by omega⟩
section
variable{α β:Type}{Z Z1 Z2 Z3 Z':U0}{f g h:M D}
theorem Ka{a:α}:U5 a Z=.ok a Z:=rfl
theorem U9:U1 Z=.ok [] Z:=rfl
theorem Yl{o:Option α}{a:α}(h:o=O a):Ko o Z=.ok a Z:=by subst h;rfl
theorem K4{f:M α}{k:α->M β}{x:α}{r:Res β}(h:f Z=.ok x Z1)(h2:k x Z1=r):Kn f k Z=r:=by unfold Kn;rw[h];exact h2
theorem KT{f:M α}{k:α->β}{x:α}(h:f Z=.ok x Z1):Ke k f Z=.ok (k x) Z1:=by unfold Ke Kn;rw[h];rfl
theorem U3{i:Nat}{d:D}(h:Z[i]?=O (O (.pub d))):UZ i Z=.ok d Z:=by unfold UZ;rw[h]
theorem ZR{i:Nat}{ds:xk}(h:Z[i]?=O (O (.own ds)))(h2:Z.set i (O (.pub (.list ds)))=Z'):UZ i Z=.ok (.list ds) Z':=by unfold UZ;rw[h];subst h2;rfl
theorem Kl{op:D->D->Option β}{x y:D}{r:β}(h1:f Z=.ok x Z1)(h2:g Z1=.ok y Z2)(h3:op x y=O r):U6 op f g Z=.ok r Z2:=by unfold U6;exact K4 h1 (K4 h2 (Yl h3))
theorem U4{g:M xk}{x:D}{xs:xk}(h1:f Z=.ok x Z1)(h2:g Z1=.ok xs Z2):U2 f g Z=.ok (x::xs) Z2:=by unfold U2;exact K4 h1 (K4 h2 xf)
theorem YU{g:M xk}{xs:xk}(h1:g Z=.ok xs Z1)(h2:xs.length<=1000000):KQ g Z=.ok (.tuple xs) Z1:=by unfold KQ;exact K4 h1 (by rw[Qo h2];rfl)
theorem Zw{g:M xk}{xs:xk}(h1:g Z=.ok xs Z1)(h2:xs.length<=1000000):Kx g Z=.ok (.list xs) Z1:=by unfold Kx;exact K4 h1 (by rw[Qo h2];rfl)
theorem Wn{g:M xk}{xs:xk}(h1:g Z=.ok xs Z1)(h2:xs.length<=1000000):(Kn g λxs=>if xs.length<=1000000 then U5 xs else λ_=>.bad) Z=.ok xs Z1:=
 K4 h1 (by rw[Qo h2];rfl)
theorem K2{i:Nat}{d y r:D}(h:Z[i]?=O (O (.pub d)))(h1:g Z=.ok y Z1)(h2:oIx d y=O r):Kj i g Z=.ok r Z1:=by unfold Kj;rw[h];exact K4 h1 (Yl h2)
theorem Oj{i:Nat}{ds es:xk}{y r:D}(h:Z[i]?=O (O (.own ds)))(h1:g Z=.ok y Z1)(h3:Z1[i]?=O (O (.own es)))(h2:oIx (.list es) y=O r):Kj i g Z=.ok r Z1:=by unfold Kj;rw[h];exact K4 h1 (by rw[h3];exact Yl h2)
theorem ZQ{p:xk->xn}{g:M xk}{xs:xk}{r:D}(h1:g Z=.ok xs Z1)(h2:p xs=O r):Zt p g Z=.ok r Z1:=by unfold Zt;exact K4 h1 (Yl h2)
theorem KD{n:Nat}{F:xk->xn}{g:M xk}{xs:xk}{r:D}(h1:g Z=.ok xs Z1)(h2:xs.length=n)(h3:F xs=O r):Kb n F g Z=.ok r Z1:=by unfold Kb;exact K4 h1 (by rw[Qo h2];exact Yl h3)
theorem V2{i:Int}(h1:f Z=.ok (.int i) Z1):Ye f Z=.ok (.int (-i)) Z1:=by unfold Ye;exact K4 h1 xf
theorem ZZ{i:Nat}{d r:D}(h:Z[i]?=O (O (.pub d)))(h2:Kt [d]=O r):Zv i Z=.ok r Z:=by unfold Zv;rw[h];exact Yl h2
theorem Cj{i:Nat}{ds:xk}(h:Z[i]?=O (O (.own ds))):Zv i Z=.ok (.int ds.length) Z:=by unfold Zv;rw[h]
theorem VG{g:M xk}{i:Int}{r:xk}(h1:g Z=.ok [.int i] Z1)(h2:Sv [.int i]=O r):XT g Z=.ok r Z1:=by unfold XT;exact K4 h1 (Yl h2)
theorem Ci{g:M xk}{i j:Int}{r:xk}(h1:g Z=.ok [.int i,.int j] Z1)(h2:Su [.int i,.int j]=O r):RP g Z=.ok r Z1:=by unfold RP;exact K4 h1 (Yl h2)
theorem Xu{g:M xk}{xs r:xk}(h1:g Z=.ok xs Z1)(h2:Re xs=O r):YS g Z=.ok r Z1:=by unfold YS;exact K4 h1 (Yl h2)
theorem Y8{i:Int}(h1:f Z=.ok (.int i) Z1):(Kn f λx=>Ko (YG x)) Z=.ok (O i) Z1:=K4 h1 xf
theorem Wq{f:M Bool}{t:Bool}(h1:f Z=.ok t Z1):Zd f Z=.ok (!t) Z1:=KT h1
theorem WJ{t:Bool}(h1:f Z=.ok (.bool t) Z1):Yg f Z=.ok t Z1:=by unfold Yg;exact K4 h1 xf
theorem Ey{f g:M Bool}{t u:Bool}(h1:f Z=.ok t Z)(h2:t=xi->g Z=.ok u Z):Yc f g Z=.ok (t&&u) Z:=by
 unfold Yc;refine K4 h1 ?_;cases t with
 |true=>rw[Qo xf];exact h2 xf
 |false=>rfl
theorem OF{t u:Bool}(h1:f Z=.ok (.bool t) Z)(h2:t=xi->g Z=.ok (.bool u) Z):XV f g Z=.ok (.bool (t&&u)) Z:=by
 unfold XV;refine K4 h1 ?_;cases t with
 |true=>exact h2 xf
 |false=>rfl
theorem Mo{t u:Bool}(h1:f Z=.ok (.bool t) Z)(h2:t=xj->g Z=.ok (.bool u) Z):X6 f g Z=.ok (.bool (t || u)) Z:=by
 unfold X6;refine K4 h1 ?_;cases t with
 |false=>exact h2 xf
 |true=>rfl
theorem Ch{t:Bool}(h1:f Z=.ok (.bool t) Z1):RQ f Z=.ok (.bool (!t)) Z1:=by unfold RQ;exact K4 h1 xf
theorem Mn{f:M Bool}{g h:M α}{r:Res α}(h1:f Z=.ok xi Z1)(h2:g Z1=r):mIf f g h Z=r:=by unfold mIf;exact K4 h1 (by rw[Qo xf];exact h2)
theorem Oi{f:M Bool}{g h:M α}{r:Res α}(h1:f Z=.ok xj Z1)(h2:h Z1=r):mIf f g h Z=r:=by unfold mIf;exact K4 h1 (by rw[Qv (by decide)];exact h2)
theorem FJ{f:M Bool}{g h:M α}{t:Bool}{x y:α}(h1:f Z=.ok t Z1)(h2:g Z1=.ok x Z1)(h3:h Z1=.ok y Z1):mIf f g h Z=.ok (if t=xi then x else y) Z1:=by
 unfold mIf;refine K4 h1 ?_;cases t with
 |true=>rw[Qo xf,Qo xf];exact h2
 |false=>rw[Qv (by decide),Qv (by decide)];exact h3
theorem OZ{p q:D->D->xy}{x y z:D}{t u:Bool}(h1:f Z=.ok x Z)(h2:g Z=.ok y Z)(h3:p x y=O t)(h4:t=xi->h Z=.ok z Z)(h5:t=xi->q y z=O u):VW p q f g h Z=.ok (t&&u) Z:=by
 unfold VW;refine K4 h1 (K4 h2 (K4 (Yl h3) ?_));cases t with
 |true=>rw[Qo xf];exact K4 (h4 xf) (Yl (h5 xf))
 |false=>rfl
theorem Zu{i j:Int}:Kf (.int i) (.int j)=O (.int (i+j)):=rfl
theorem Xj{x y:xk}(h:x.length+y.length<=1000000):Kf (.list x) (.list y)=O (.list (x++y)):=by unfold Kf;exact Qo h
theorem Y4{i j:Int}:Zc (.int i) (.int j)=O (.int (i-j)):=rfl
theorem RD{i j:Int}(h1 : -18446744073709551616<i)(h2:i<18446744073709551616):KJ (.int i) (.int j)=O (.int (i*j)):=by unfold KJ YB;exact Qo (.inl ⟨by omega,by omega⟩)
theorem SU{i j:Int}(h1 : -18446744073709551616<j)(h2:j<18446744073709551616):KJ (.int i) (.int j)=O (.int (i*j)):=by unfold KJ YB;exact Qo (.inr ⟨by omega,by omega⟩)
theorem Gv{x:xk}{k:Int}(h : -1000000<=k/\k<=1000000/\x.length*k.toNat<=1000000):KJ (.list x) (.int k)=O (.list (UL k.toNat x).flatten):=by unfold KJ;exact Qo h
theorem V6{i j:Int}(h:0<j):YA (.int i) (.int j)=O (.int (i % j)):=by unfold YA WP;exact Qo h
theorem Lp{i j:Int}(h:0<j)(h2:j<18446744073709551616):X5 (.int i) (.int j)=O (.int (i / j)):=by unfold X5 WQ;exact Qo ⟨h,h2⟩
theorem Cg{i j:Int}(h:0<=j/\j<=1000000/\i.natAbs<2 ^ 64):X4 (.int i) (.int j)=O (.int (i ^ j.toNat)):=by unfold X4 WO;exact Qo h
theorem Wm{i j:Int}:oEq (.int i) (.int j)=O (decide (i=j)):=by unfold oEq;rw[if_pos ⟨rfl,rfl,by simp[UR]⟩];congr 1
theorem ZJ{xs:xk}:Kt [.list xs]=O (.int xs.length):=rfl
theorem ML{i j:Int}:Rf [.int i,.int j]=O (.int (if j > i then j else i)):=rfl
theorem VP{j:Int}(h1:j<=1000000)(h2 : -1000000<=j):Sv [.int j]=O (Yx 0 j):=by unfold Sv;exact Qo ⟨h1,h2⟩
theorem Bf{i j:Int}(h1:j<=1000000)(h2 : -1000000<=j)(h3:i<=1000000)(h4 : -1000000<=i):Su [.int i,.int j]=O (Yx i j):=by unfold Su;exact Qo ⟨h1,h2,h3,h4⟩
theorem Xs{xs:xk}:Re [.list xs]=O (Yv 0 xs):=rfl
theorem K1{i:Nat}{d:D}(h1:f Z=.ok d Z1)(h2:i<Z1.length)(h3:Z1.set i (O (.pub d))=Z'):Km i f Z=.nx Z':=by unfold Km Z8 sB gN;rw[h1];dsimp only;rw[if_pos h2];subst h3;rfl
theorem ZY{i:Nat}{f:M xk}{ds:xk}(h1:f Z=.ok ds Z1)(h2:i<Z1.length)(h3:Z1.set i (O (.own ds))=Z'):Zg i f Z=.nx Z':=by unfold Zg sB;rw[h1];dsimp only;rw[if_pos h2];subst h3;rfl
theorem XY{i:Nat}{d:D}{vf ds:xk}(h0:Z[i]?=O (O (.own vf)))(h1:f Z=.ok d Z1)(h2:Z1[i]?=O (O (.own ds)))(h3:ds.length<1000000)(h4:Z1.set i (O (.own (ds++[d])))=Z'):ZG i f Z=.nx Z':=by unfold ZG sB;rw[h0];dsimp only;rw[h1];dsimp only;rw[h2];dsimp only;rw[if_pos h3];subst h4;rfl
theorem V1{d:D}{s:D->U0->xu}(h1:f Z=.ok d Z1)(h2:s d Z1=O Z'):Z8 f s Z=.nx Z':=by unfold Z8 sB;rw[h1];dsimp only;rw[h2]
theorem VF{d:D}(h1:f Z=.ok d Z1):XU f Z=.nx Z1:=by unfold XU sB;rw[h1]
theorem U8{i:Nat}{d:D}(h:i<Z.length)(h2:Z.set i (O (.pub d))=Z'):gN i d Z=O Z':=by unfold gN;rw[Qo h,h2]
theorem KP:gN0 [] Z=O Z:=rfl
theorem Ki{s:D->U0->xu}{t:xk->U0->xu}{d:D}{r:xk}(h1:s d Z=O Z1)(h2:t r Z1=O Z'):gNC s t (d::r) Z=O Z':=by unfold gNC;dsimp only;rw[h1];exact h2
theorem KO{n:Nat}{t:xk->U0->xu}{ds:xk}(h1:ds.length=n)(h2:t ds Z=O Z'):gT n t (.tuple ds) Z=O Z':=by unfold gT;dsimp only;rw[if_pos h1];exact h2
structure Ho(g:SM)(Z:U0)(Q:Out->Prop):Prop where
 out:Q (g Z)
noncomputable def FI(h:SM)(Q:Out->Prop):Out->Prop
 |.nx Z'=>Ho h Z' Q
 |o=>Q o
structure P3(h:SM)(Q:Out->Prop)(o:Out):Prop where
 out:FI h Q o
variable{Q:Out->Prop}{s t u:SM}
theorem K0(h:Ho s Z (P3 t Q)):Ho (U7 s t) Z Q:=by
 have h:=h.out.out;constructor;unfold U7;cases e:s Z with
 |nx o=>rw[e]at h;exact h.out
 |_=>rw[e]at h;exact h
theorem Kw(h1:s Z=.nx Z1)(h2:Ho t Z1 Q):Ho (U7 s t) Z Q:=by
 constructor;unfold U7;rw[h1];exact h2.out
theorem ZP{o:Out}(h1:s Z=o)(h2:Q o):Ho s Z Q:=by constructor;rw[h1];exact h2
theorem Zj(h:Q (.nx Z)):Ho sNx Z Q:=⟨h⟩
theorem KW{o:U0}(h:Ho t o Q):P3 t Q (.nx o):=⟨h⟩
theorem WI{d:D}(h:Q (.rt d)):P3 t Q (.rt d):=⟨h⟩
theorem KS{f:M Bool}{b:Bool}(h1:f Z=.ok b Z1)(h2:b=xi->Ho s Z1 Q)(h3:b=xj->Ho t Z1 Q):Ho (sIf f s t) Z Q:=by
 constructor;unfold sIf sB;rw[h1];dsimp only
 cases b with
 |true=>rw[Qo xf];exact(h2 xf).out
 |false=>rw[Qv (by decide)];exact(h3 xf).out
theorem KN{d:D}(h1:f Z=.ok d Z1)(h2:Q (.rt d)):Ho (Kh f) Z Q:=by constructor;unfold Kh sB;rw[h1];exact h2
theorem Pk{P:Out->Prop}(h:Ho s Z P)(k:∀o,P o->Q o):Ho s Z Q:=⟨k _ h.out⟩
noncomputable def FH(I:U0->Prop)(Q:Out->Prop):Out->Prop
 |.nx Z | .ct Z=>I Z
 |.bk Z=>Q (.nx Z)
 |.rt d=>Q (.rt d)
 |.ex Z d=>Q (.ex Z d)
 |.ro ds=>Q (.ro ds)
 |.bad=>False
structure Vw(I:U0->Prop)(Q:Out->Prop)(o:Out):Prop where
 out:FH I Q o
theorem Zp{I:U0->Prop}(h:I Z):Vw I Q (.nx Z):=⟨h⟩
theorem RC{I:U0->Prop}{d:D}(h:Q (.rt d)):Vw I Q (.rt d):=⟨h⟩
theorem ZV{f:M xk}{tg:D->U0->xu}{ds:xk}(I:Nat->U0->Prop)(h1:f Z=.ok ds Z1)(h0:I 0 Z1)
  (hst:∀i d Z,ds[i]?=O d->I i Z->∃Z2,tg d Z=O Z2/\Ho s Z2 (Vw (I (i+1)) Q)) (hend:∀Z,I ds.length Z->Q (.nx Z)):Ho (KI f tg s) Z Q:=by
 constructor;unfold KI sB;rw[h1];dsimp only
 refine HU (P:=I) (R:=Q) ds 0 Z1 h0 (λi d Z e p=>?_) (λZ p=>hend Z (by rw[Q6]at p;exact p));rw[Q6]at p;obtain⟨Z2,e2,q⟩:=hst i d Z e p;refine⟨Z2,e2,?_⟩;rw[Q6];have q:=q.out.out;cases z:s Z2 with
 |nx o=>rw[z]at q;exact .inl ⟨o,.inl xf,q⟩
 |ct o=>rw[z]at q;exact .inl ⟨o,.inr xf,q⟩
 |rt o=>rw[z]at q;exact .inr (.inl ⟨o,rfl,q⟩)
 |bk o=>rw[z]at q;exact .inr (.inr (.inl ⟨o,rfl,q⟩))
 |ex o x=>rw[z]at q;exact .inr (.inr (.inr (.inl ⟨o,x,rfl,q⟩)))
 |ro o=>rw[z]at q;exact .inr (.inr (.inr (.inr ⟨o,rfl,q⟩)))
 |bad=>rw[z]at q;exact q.elim
theorem Wt{N:List Str}{ds:xk}{P:D->Prop}(h0:Xr N ds=Z)(h:Ho s Z λo=>∃d,o=.rt d/\P d):∃d,Kq N s ds=O d/\P d:=by subst h0;obtain⟨d,e,p⟩:=h.out;refine⟨d,?_,p⟩;unfold Kq;rw[e]
theorem Zo{N:List Str}{ds:xk}{d:D}(h0:Xr N ds=Z)(h:Ho s Z λo=>o=.rt d):Kq N s ds=O d:=by obtain⟨d',e,p⟩:=Wt (P:=λx=>x=d) h0 (Pk h λo e=>⟨d,e,rfl⟩);rw[e,p]
end
section
variable{α β:Type}{Z Z1 Z2 Z3 Z':U0}{f g h:M D}
theorem VA{l u:M xq}{x r:D}{a b:xq}(h1:f Z=.ok x Z1)(h2:l Z1=.ok a Z2)(h3:u Z2=.ok b Z3)(h4:YY x a b=O r):Yd f l u Z=.ok r Z3:=by unfold Yd;exact K4 h1 (K4 h2 (K4 h3 (Yl h4)))
theorem Ex{f g:M Bool}(h1:f Z=.ok xi Z1):mOr f g Z=.ok xi Z1:=by unfold mOr;exact K4 h1 xf
theorem XR{f g:M Bool}{u:Bool}(h1:f Z=.ok xj Z1)(h2:g Z1=.ok u Z2):mOr f g Z=.ok u Z2:=by unfold mOr;exact K4 h1 (by rw[Qv (by decide)];exact h2)
theorem Cf{f g:M Bool}(h1:f Z=.ok xj Z1):Yc f g Z=.ok xj Z1:=by unfold Yc;exact K4 h1 xf
theorem Ce{f g:M Bool}{u:Bool}(h1:f Z=.ok xi Z1)(h2:g Z1=.ok u Z2):Yc f g Z=.ok u Z2:=by unfold Yc;exact K4 h1 (by rw[Qo xf];exact h2)
theorem Wu{c:String}{d:D}{t:Bool}(h:f Z=.ok d Z1)(ht:(!Ze d c)=t):Zd (Yg (Ke (λd=>.bool (Ze d c)) f)) Z=.ok t Z1:=by subst ht;exact Wq (WJ (KT (k:=λd=>UN (Ze d c)) h))
theorem ZD{x:D}{r:xk}(h1:f Z=.ok x Z1)(h2:OH x=O r):Zb f Z=.ok r Z1:=by unfold Zb;exact K4 h1 (Yl h2)
theorem Yu{p:D->D->Option β}{i:Nat}{d y:D}{r:β}(h:Z[i]?=O (O (.pub d)))(h1:g Z=.ok y Z1)(h2:p d y=O r):ZA p i g Z=.ok r Z1:=by unfold ZA;rw[h];exact K4 h1 (Yl h2)
theorem B0{p:D->D->Option β}{i:Nat}{ds es:xk}{y:D}{r:β}(h:Z[i]?=O (O (.own ds)))(h1:g Z=.ok y Z1)(h3:Z1[i]?=O (O (.own es)))(h2:p (.list es) y=O r):ZA p i g Z=.ok r Z1:=by unfold ZA;rw[h];exact K4 h1 (by rw[h3];exact Yl h2)
theorem Yj{f:M xk}{k:Nat}{s:D->U0->xu}{t:M Bool}{ds es:xk}(h1:f Z=.ok ds Z1)(h2:Zk s t g ds (Kz Z1++UL k xg) []=O es):ZB f k s t g Z=.ok es Z1:=by unfold ZB;rw[h1];dsimp only;rw[h2]
theorem RL{s:D->U0->xu}{t:M Bool}(p:D->Bool)(q:D->D)(I:U0->Prop):∀(ds:xk)(Z:U0)(es:xk),(∀d∈ds,∀Z,I Z->∃Z1,s d Z=O Z1/\t Z1=.ok (p d) Z1/\(p d=xi->g Z1=.ok (q d) Z1)/\I (Kz Z1))->I Z->es.length+ds.length<=1000000 ->
  Zk s t g ds Z es=O (es++(ds.filter p).map q)
 |[],Z,es,_,_,_=>by rw[Zk];simp
 |d::r,Z,es,st,h0,hz=>by
  obtain⟨Z1,e1,e2,e3,h1⟩:=st d Qk Z h0;have ih:=λes' hz'=>RL p q I r (Kz Z1) es' (λd' hd=>st d' (Qi _ hd)) h1 hz';rw[QC]at hz;rw[Zk,e1];dsimp only;rw[e2];dsimp only
  cases hp:p d with
  |true=>rw[Qo xf,e3 hp];dsimp only;rw[Qo (by omega),ih _ (by rw[Qm,Jb];omega),List.filter_cons_of_pos hp,Qu,Ja];rfl
  |false=>rw[Qv (by decide),ih _ (by omega),List.filter_cons_of_neg (by rw[hp];decide)]
theorem Pj{j:Nat}{d:D}{k:Int}{vf ds:xk}(h1:f Z=.ok d Z1)(h0:Z1[j]?=O (O (.own vf)))(h2:g Z1=.ok (.int k) Z2)(h3:Z2[j]?=O (O (.own ds)))(h4:0<=k/\k<ds.length)(h5:Z2.set j (O (.own (ds.set k.toNat d)))=Z'):VT j g f Z=.nx Z':=by unfold VT sB;rw[h1];dsimp only;rw[h0];dsimp only;rw[h2];dsimp only;rw[h3];dsimp only;rw[if_pos h4];subst h5;rfl
theorem VO{xs:xk}{a b:xq}:YY (.list xs) a b=O (.list (DL.cutD xs a b)):=rfl
theorem Yi{xs:xk}:OH (.list xs)=O xs:=rfl
theorem kj(bs:List Bool):VI (bs.map UN)=O bs:=by
 induction bs with
 |nil=>rfl
 |cons b r ih=>rw[Qu,VI,ih];rfl
theorem MK{bs:List Bool}:Yq [.list (bs.map UN)]=O (.bool (bs.all id)):=by unfold Yq;dsimp only;rw[kj];rfl
end
section
variable{α β:Type}{Z Z1 Z2 Z3 Z4 Z':U0}{f g h:M D}{s:SM}
theorem Mm{g:M xk}{xs r:xk}(h1:g Z=.ok xs Z1)(h2:X3 xs=O r):XA g Z=.ok r Z1:=by unfold XA;exact K4 h1 (Yl h2)
theorem Ml{l u t:M xq}{xs:xk}(h1:f Z=.ok (.list xs) Z1)(h2:l Z1=.ok xg Z2)(h3:u Z2=.ok xg Z3)(h4:t Z3=.ok (O (-1)) Z4):X7 f l u t Z=.ok (.list xs.reverse) Z4:=by unfold X7;exact K4 h1 (K4 h2 (K4 h3 (K4 h4 (Yl (by unfold WM;exact Qo xf)))))
theorem OY{i:Nat}{d:D}{ds:xk}(h:Z[i]?=O (O (.pub d)))(h2:Xh [d]=O ds):VC i Z=.ok ds Z:=by unfold VC;rw[h];exact Yl h2
theorem Rs{N:List Str}{ds:xk}(h0:Xr N ds=Z)(h:Ho s Z λo=>∃Z',o=.nx Z'):Kq N s ds=O .none:=by subst h0;obtain⟨Z',e⟩:=h.out;unfold Kq;rw[e]
theorem Rw{i j:Int}:oNe (.int i) (.int j)=O (!decide (i=j)):=by unfold oNe;rw[if_pos ⟨rfl,rfl,by simp[UR]⟩];congr 1
theorem Lx{xs:xm}{j:Nat}{v:Int}:(xs.map int).set j (.int v)=(xs.set j v).map int:=by rw[List.map_set]
theorem OX{xs:xm}{a b:Int}(ha:0<=a)(hb:0<=b)(hl:b<=xs.length):DL.cutD (xs.map int) (O a) (O b)=((xs.drop a.toNat).take (b.toNat-a.toNat)).map int:=by
 unfold DL.cutD HT.sIx;dsimp only;rw[Qv (by omega),Qv (by omega),Qb,List.map_take,List.map_drop];have e2:min b.toNat xs.length=b.toNat:=by omega
 rw[e2];by_cases hab:a.toNat<=xs.length
 .have e1:min a.toNat xs.length=a.toNat:=by omega
  rw[e1]
 .have e3:b.toNat-a.toNat=0:=by omega
  have e4:b.toNat-min a.toNat xs.length=0:=by omega
  rw[e3,e4,J9,J9]
end
section
variable{Z Z1:U0}
theorem BZ{g:M xk}{xs r:xk}(h1:g Z=.ok xs Z1)(h2:Sz xs=O r):RZ g Z=.ok r Z1:=by unfold RZ;exact K4 h1 (Yl h2)
theorem A8{xs:xk}:Sz [.list xs]=O (Yv 1 xs):=rfl
end
section
variable{X:Cx}{B G0:Hp}{KX:XW}{e o a b c tg i:UF}{pos p2:Pos}{es rest:xp}
noncomputable def Xl(f:M Bool)(g:SM):Nat->SM
 |0,_=>.bad
 |n+1,Z=>match f Z with
  |.bad=>.bad
  |.ok t Z1=>if t=xi then(match g Z1 with
   |.nx Z2=>Xl f g n Z2
   |.ct Z2=>Xl f g n Z2
   |.bk Z2=>.nx Z2
   |.rt d=>.rt d
   |.ro ds=>.ro ds
   |.ex Z2 d=>.ex Z2 d
   |.bad=>.bad)else .nx Z1
theorem BY{body:List Stmt}{f:M Bool}{g:SM}(n:Nat)(hp:PassesOwn (model X.prog X.w) X.A X.env X.xe)(hc:PT X c (tBo X.K B G0 f))(hb:PSs X body (tS X.K B G0 KX g)):PS X (.While c body [] pos) (tS X.K B G0 KX (Xl f g n)):=
 ZL (As hp hc hb) λDn σ H ⟨G,Z,k,a⟩=>by
  refine⟨λm σ' H'=>∃G' Z',EOk X.K B G0 G' H' σ' Z'/\aftS X.K B G0 KX (Xl f g m Z') G' Dn,⟨n,G,Z,k,a⟩,?_⟩;rintro m σ' H' ⟨G',Z',k',a'⟩;cases m with
  |zero=>exact a'.elim
  |succ m=>
   rw[Xl]at a';refine⟨G',Z',k',?_⟩;cases z:f Z' with
   |bad=>rw[z]at a';exact a'.elim
   |ok t Z1=>
    rw[z]at a';dsimp only at a';intro v G1 H1 k1 s1 e1;subst e1;cases v with
    |false=>rw[Qv JO]at a'⊢;exact a' _ G1 H1 k1 s1
    |true=>
     rw[Qo xf]at a'⊢;refine⟨λσ2 H2=>∃G2 Z2,EOk X.K B G0 G2 H2 σ2 Z2/\aftS X.K B G0 KX (Xl f g m Z2) G2 Dn,λσ2 H2 h2=>⟨m,Up m,h2⟩,G1,Z1,k1,?_⟩;cases z2:g Z1 with
     |nx Z2=>rw[z2]at a';exact λσ4 G4 H4 k4 s4=>⟨G4,Z2,k4,aftS.mono (s1.trans s4) a'⟩
     |ct Z2=>rw[z2]at a';exact λσ4 G4 H4 k4 s4=>⟨G4,Z2,k4,aftS.mono (s1.trans s4) a'⟩
     |bk Z2=>rw[z2]at a';exact λσ4 G4 H4 k4 s4=>a' σ4 G4 H4 k4 (s1.trans s4)
     |rt d=>rw[z2]at a';exact a'
     |ro ds=>rw[z2]at a';exact a'
     |ex Z2 d=>rw[z2]at a';exact λv σ4 G4 H4 k4 s4 r4=>a' v σ4 G4 H4 k4 (s1.trans s4) r4
     |bad=>rw[z2]at a';exact a'.elim
noncomputable def Xw(op:Int->Int->xn)(j:Nat)(f:M D):SM:=λZ=>match Z[j]? with
 |some (O (.pub (.int a)))=>sB f (λy Z1=>match y with
  |.int b=>(match op a b with
   |some d=>if j<Z1.length then .nx (Z1.set j (O (.pub d)))else .bad
   |none=>.bad)
  |_=>.bad) Z
 |_=>.bad
def IpD(X:Cx)(op:Operator)(p:Int->Int->xn):Prop:=∃ti,PIp X op ti/\∀i j d,p i j=O d->∃v:V,(∀G,Rep X.K G v d)/\∀H(Q:VK),Q v H->ti (.int i) (.int j) H Q
theorem Cd:IpD X .Add (λi j=>O (.int (i+j))):=⟨_,Dm,λi j d e=>by cases e;exact⟨_,λ_=>.int _,λH Q q=>⟨i,j,rfl,rfl,q⟩⟩⟩
theorem Cc:IpD X .Mult YB:=⟨_,Be,λi j d e=>by
 unfold YB at e;split at e
 .rename_i h
  cases e;exact⟨_,λ_=>.int _,λH Q q=>⟨i,j,rfl,rfl,h,q⟩⟩
 .cases e⟩
theorem Ew{j:Nat}{x:Str}{op:Operator}{p:Int->Int->xn}{f:M D}{pos':Pos}(hN:X.N.Nodup)(hi:X.N[j]?=O x)(hx:Loc X.env.scope x)(ho:IpD X op p)(he:PE X e (tD X.K B G0 f))(hf:X.fn x=xi∨X.env.scope.names.lookup x=O .local:=by first|exact .inl rfl|exact .inr rfl|assumption) :
  PS X (.AugAssign (.Name x pos') op e pos) (tS X.K B G0 KX (Xw p j f)):=by
 obtain⟨ti,hti,hp⟩:=ho;refine ZL (Do hN hi hx he hti hf) λDn σ H ⟨G,Z,k,a⟩=>?_;unfold Xw at a
 cases q:Z[j]? with
 |none=>rw[q]at a;exact a.elim
 |some o0=>
  cases o0 with
  |none=>rw[q]at a;exact a.elim
  |some sl=>
   cases sl with
   |deep _ _=>rw[q]at a;exact a.elim
   |own ds=>rw[q]at a;exact a.elim
   |pub d0=>
    rw[q]at a;cases d0 with
    |int i0=>
     dsimp only at a;obtain⟨v,h1,h2⟩:=k.pub j _ q;cases h2.int_inv;refine⟨.int i0,h1,G,Z,k,?_⟩;unfold sB at a;cases z:f Z with
     |bad=>rw[z]at a;exact a.elim
     |ok y Z1=>
      rw[z]at a;dsimp only at a;intro u G1 H1 k1 s1 r1;cases y with
      |int i1=>
       cases r1.int_inv;dsimp only at a;cases w:p i0 i1 with
       |none=>rw[w]at a;exact a.elim
       |some d=>
        rw[w]at a;dsimp only at a;split at a
        .rename_i hl
         obtain⟨v',rv,hq⟩:=hp i0 i1 d w;exact hq H1 _ (a _ G1 H1 (k1.setPub (rv G1) hl) s1)
        .exact a.elim
      |_=>exact a.elim
    |_=>exact a.elim
theorem BX:PGet X (λo i H Q=>∃p xs k v,o=.ref p/\i=.int k/\H p=O (.lst xs)/\atI xs k=O v/\Q v H):=by
 intro pins s σ H x y v u Q I rx ry h;obtain⟨p,xs,k,z,rfl,rfl,hp,he,q⟩:=h;cases rx;obtain⟨t,rfl⟩:=ry;obtain⟨its,n,r,ho,hz⟩:=I.lst hp;obtain⟨j,h1,h2,h3,h4,h5⟩:=Pn he;have hl:=r.length;have hn:=VX;obtain⟨w,ew,vo⟩:=r.get h2;have fin:EP X pins σ Q w s:=⟨z,H,I,vo,q⟩;have il:s.heap.IsList p its.toArray:=⟨_,ho,rfl,⟨_,rfl⟩⟩
 by_cases h0:0<=k
 .have hj:k.toNat=j:=by
   rw[seqIndex_of h0 h5]at h1;exact Q5 h1
  exact wpAny_getItem_list il h0 (by omega) (by rw[hj];simpa using ew) fin
 .have hj:(k+(its.toArray.size:Int)).toNat=j:=by
   rw[seqIndex_neg (by omega) h4]at h1;rw[QJ,←hl];exact Q5 h1
  exact wpAny_getItem_list_neg il (by omega) (by rw[List.size_toArray,←hl];exact h4) (by omega) (by rw[hj];simpa using ew) fin
noncomputable def Wl(Z:U0)(j:Nat):Option xk:=match Z[j]? with
 |some (O (.own ds))=>O ds
 |_=>xg
theorem PM{Z:U0}{j:Nat}{ds:xk}(h:Wl Z j=O ds):Z[j]?=O (O (.own ds)):=by
 unfold Wl at h;split at h
 .rename_i es e;cases h;exact e
 .cases h
theorem OW{Z:U0}{j:Nat}{ds:xk}(h:Z[j]?=O (O (.own ds))):Wl Z j=O ds:=by unfold Wl;rw[h]
noncomputable def Vv(op:Int->Int->xn)(j:Nat)(g f:M D):SM:=λZ=>match Wl Z j with
 |none=>.bad
 |some _=>sB g (λy Z1=>match y with
  |.int k=>(match (Wl Z1 j).bind (atI · k)with
   |some (.int a)=>sB f (λy2 Z2=>match y2 with
    |.int b=>(match op a b,Wl Z2 j with
     |some d,O es=>(match ixN es.length k with
      |some n=>.nx (Z2.set j (O (.own (es.set n d))))
      |none=>.bad)
     |_,_=>.bad)
    |_=>.bad) Z1
   |_=>.bad)
  |_=>.bad) Z
theorem Cb{j:Nat}{op:Operator}{p:Int->Int->xn}{f g:M D}{tpos:Pos}(ho:PE X o (Zy j))(hi:PE X i (tD X.K B G0 g))(hp:IpD X op p)(he:PE X e (tD X.K B G0 f))
  (ha:∀ov iv new,augStore i ov iv new=(do holding [new,ov,iv] (setItem ov iv new);release [new,ov,iv] [];pure .next):=by intros;rfl):PS X (.AugAssign (.Subscript o i tpos) op e pos) (tS X.K B G0 KX (Vv p j g f)):=by
 obtain⟨ti,hti,hp⟩:=hp;refine ZL (CU ho hi BX he hti AJ ha) λDn σ H ⟨G,Z,k,a⟩=>?_;unfold Vv at a
 cases q0:Wl Z j with
 |none=>rw[q0]at a;exact a.elim
 |some vf=>
 rw[q0]at a;dsimp only at a;obtain⟨ad,vs0,h1,h2,h3,h4,h5⟩:=k.own j vf (PM q0);refine⟨.ref ad,h1,G,Z,k,?_⟩;unfold sB at a;cases z:g Z with
 |bad=>rw[z]at a;exact a.elim
 |ok y Z1=>
 rw[z]at a;dsimp only at a;intro kv G1 H1 k1 s1 r1;cases y with
 |int n=>
  cases r1.int_inv;dsimp only at a;cases q1:Wl Z1 j with
  |none=>rw[q1]at a;exact a.elim
  |some wH=>
  rw[q1]at a;dsimp only[Option.bind_some]at a;cases q2:atI wH n with
  |none=>rw[q2]at a;exact a.elim
  |some d1=>
  rw[q2]at a;obtain⟨ad1,vs1,g1,g2,g3,g4,g5⟩:=k1.own j wH (PM q1);rw[h1]at g1;cases g1;obtain⟨v1,e1,rv1⟩:=g5.atI q2;cases d1 with
  |int i0=>
   cases rv1.int_inv;dsimp only at a;refine⟨ad,vs1,n,.int i0,rfl,rfl,g4,e1,G1,Z1,k1,?_⟩;cases z2:f Z1 with
   |bad=>rw[z2]at a;exact a.elim
   |ok y2 Z2=>
   rw[z2]at a;dsimp only at a;intro u G2 H2 k2 s2 r2;cases y2 with
   |int i1=>
    cases r2.int_inv;dsimp only at a;cases w:p i0 i1 with
    |none=>rw[w]at a;exact a.elim
    |some d=>
    cases q3:Wl Z2 j with
    |none=>rw[w,q3]at a;exact a.elim
    |some es=>
    rw[w,q3]at a;dsimp only at a;obtain⟨ad2,vs2,f1,f2,f3,f4,f5⟩:=k2.own j es (PM q3);rw[h1]at f1;cases f1;cases q4:ixN es.length n with
    |none=>rw[q4]at a;exact a.elim
    |some m=>
    rw[q4]at a;dsimp only at a;obtain⟨v',rv,hq⟩:=hp i0 i1 d w;refine hq H2 _ ⟨ad,vs2,n,m,rfl,rfl,f4,by rw[f5.length];exact q4,?_⟩;exact a σ G2 _ (k2.change (PM q3) h1 (f5.set (rv G2) m)) (s1.trans s2)
   |_=>exact a.elim
  |_=>exact a.elim
 |_=>exact a.elim
end
section
variable{X:Cx}{B G0:Hp}{e o a b c tg i:UF}{pos p2:Pos}{es rest:xp}
theorem A7:MtR X "list.index" (λv vs H Q=>∃l k,∃ns:xm,v=.ref l/\vs=[.int k]/\SqL X.K H l (ns.map V.int)/\PyData.layable0 (.list (ns.map .int))=xi/\k∈ns/\Q (.int (ns.idxOf k:Nat)) H):=by intro pins s σ H x vs v us Q I rx rv h;obtain⟨l,k,ns,rfl,rfl,hq,hl,hk,q⟩:=h;cases rx;obtain⟨u,rfl,ru⟩:=rv.one;obtain⟨t,rfl⟩:=ru;obtain⟨its,rv,p,hz⟩:=I.list hq;exact index_list_ints p.isList (VL rv) hl hk ⟨.int _,H,I.tok _,⟨_,rfl⟩,q⟩
noncomputable def SF(y:D)(xs:xk):xn:=match y,xs with
 |.list ds,[.int k]=>(match YE ds with
  |some ns=>if PyData.layable0 (.list (ns.map .int))=xi/\k∈ns then O (.int (ns.idxOf k:Nat))else xg
  |none=>xg)
 |_,_=>xg
theorem ki{ds xs:xk}{d:D}(h:SF (.list ds) xs=O d):∃k ns,xs=[.int k]/\YE ds=O ns/\PyData.layable0 (.list (ns.map .int))=xi/\k∈ns/\d=.int (ns.idxOf k:Nat):=by
 unfold SF at h;split at h
 .rename_i ds' k e1
  cases e1;cases z:YE ds with
  |none=>rw[z]at h;cases h
  |some ns=>
   rw[z]at h;dsimp only at h;split at h
   .rename_i c
    cases h;exact⟨k,ns,rfl,rfl,c.1,c.2,rfl⟩
   .cases h
 .cases h
noncomputable def Pa(f:M D)(g:M xk):M D:=Kn f λy=>Kn g λxs=>Ko (match y with | .list ds=>SF (.list ds) xs|_=>xg)
theorem A6{apos cpos:Pos}{f:M D}{g:M xk}(ho:PE X o (tD X.K B G0 f))(ha:PA X (e::es) (tDs X.K B G0 g))
  (hbase:attributeBase o "index" X.env (eval o X.env)=eval o X.env:=by rfl)
  (hfew:((backTo cpos (UI (e::es) X.env)).all (λx=>!x.1)&&(backToKw cpos (keywordEach [] X.env)).all (λx=>x.1.isSome)
   && decide ((e::es).length+([]:List Keyword).length+(if([]:List Keyword).isEmpty then 0 else 1)<30))=xi:=by rfl)
  (hline:(apos.endLine==cpos.line)=xi:=by rfl) (hs:UI (e::es) X.env=(xj,eval e X.env)::UI es X.env:=by rfl) (hplain:(backTo cpos (UI es X.env)).any (·.1)=xj:=by rfl) :
  PE X (.Call (.Attribute o "index" apos) (e::es) [] cpos) (tD X.K B G0 (Pa f g)):=
 KG (RX F.plainAttrs_list F.slot_list_index F.type_list_index A7 ho ha hbase hfew hline hs hplain) λσ H Q q=>by
  refine tM.one (R:=Rep X.K) q λv H2 G Z y k r a=>?_
  cases y with
  |list ds=>
   obtain⟨l,ws,rfl,h1,r1⟩:=r.lst_inv;refine⟨.inl ⟨rfl,ws,k.gh.seq h1⟩,?_⟩;refine tM.nx (R:=Reps X.K) k a λxs H3 G3 Z3 es k3 s3 r3 a3=>?_
   obtain⟨d,e,a3⟩:=a3.opt;obtain⟨x,ns,rfl,z,hl,hk,rfl⟩:=ki e;obtain⟨u,rfl,ru⟩:=r3.one_inv;have:=SY r1 z;subst this;exact⟨l,x,ns,rfl,by rw[ru.int_inv],k3.gh.seq (s3.seq h1),hl,hk,aft.now a3 k3 (.int _)⟩
  |_=>
   unfold Kn at a;cases z:g Z with
   |bad=>rw[z]at a;exact a.elim
   |ok xs Z1=>rw[z]at a;exact a.elim
theorem BW{f:M D}{g:M xk}{Z Z1 Z2:U0}{ds:xk}{x d:D}(h1:f Z=.ok (.list ds) Z1)(h2:g Z1=.ok [x] Z2)(h3:SF (.list ds) [x]=O d):Pa f g Z=.ok d Z2:=by unfold Pa Kn;rw[h1];dsimp only;rw[h2];dsimp only;rw[h3];rfl
end
end DL
namespace DL
open PySem PySem.Spec PySem.W PyProof.Rows
noncomputable def Ku{α:Type}(lt:Nat->Nat->Bool):KasT α->α
 |.ret a=>a
 |.ask i j k=>Ku lt (k (lt i j))
theorem SO{α β:Type}{lt:Nat->Nat->Bool}{f:α->KasT β}:∀t:KasT α,Ku lt (t.bind f)=Ku lt (f (Ku lt t))
 |.ret _=>rfl
 |.ask i j k=>by show Ku lt ((k (lt i j)).bind f)=_;rw[SO];rfl
section
variable{key:Nat->Int}{p:Array Nat}
noncomputable def KA(key:Nat->Int)(p:Array Nat)(i:Nat):Int:=key (p.getD i 0)
def srt(key:Nat->Int)(p:Array Nat)(m:Nat):Prop:=∀i j,i<=j->j<m->KA key p i<=KA key p j
def dsc(key:Nat->Int)(p:Array Nat)(m:Nat):Prop:=∀i j,i<=j->j<m->KA key p j<=KA key p i
noncomputable abbrev kl(key:Nat->Int)(i j:Nat):Bool:=decide (key i<key j)
theorem HS{k d i:Nat}(hk:k<p.size)(hd:d<=k):KA key (bubble p k d) i=if i=k-d then KA key p k else if k-d<i/\i<=k then KA key p (i-1)else KA key p i:=by
 unfold KA;simp only[Jj];rw[getElem?_bubble hk d hd]
 repeat' split
 all_goals rfl
theorem Rr{i j k:Nat}(hj:j<=p.size):KA key (kas_rev p i j) k=if i<=k/\k<j then KA key p (i+j-1-k)else KA key p k:=by
 unfold KA kas_rev;simp only[Jj];rw[getElem?_mirror_all hj]
 split<;>rfl
theorem V5{i j:Nat}:(kas_rev p i j).size=p.size:=mirror_size _ _ _ _
theorem WH{i j:Nat}:(kas_rev p i j).Perm p:=mirror_perm _ _ _ _
theorem OV:∀(f n:Nat),1<=n->srt key p n->srt key p (Ku (kl key) (kas_asc p f n))/\n<=Ku (kl key) (kas_asc p f n)/\Ku (kl key) (kas_asc p f n)<=n+f /\
  (Ku (kl key) (kas_asc p f n)<n+f->KA key p (Ku (kl key) (kas_asc p f n))<KA key p (Ku (kl key) (kas_asc p f n)-1))
 |0,n,h1,hs=>⟨hs,Qs _,Qs _,λh=>absurd h (JA _)⟩
 |f+1,n,h1,hs=>by
  unfold kas_asc Ku;cases c:kl key (p.getD n 0) (p.getD (n-1) 0)with
  |true=>dsimp only;rw[Qo xf];exact⟨hs,Qs _,by show n<=n+(f+1);omega,λ_=>Qa c⟩
  |false=>
   dsimp only;rw[Qv (by decide)];have hle:KA key p (n-1)<=KA key p n:=Uz.mp (Ji c)
   obtain⟨a1,a2,a3,a4⟩:=OV f (n+1) (by omega) (λi j hij hj=>by
    by_cases vP:j=n
    .subst vP
     by_cases hin:i=j
     .subst hin;exact QY _
     .exact J5 (hs i (j-1) (by omega) (by omega)) hle
    .exact hs i j hij (by omega))
   exact⟨a1,by omega,by omega,λh=>a4 (by omega)⟩
def eqs(key:Nat->Int)(p:Array Nat)(n q:Nat):Prop:=∀i,n-1-q<=i->i<n->KA key p i=KA key p (n-1)
theorem PL:∀(f:Nat)(p:Array Nat)(n q:Nat),1<=n->q+1<=n->n+f<=p.size->dsc key p n->eqs key p n q ->
  let r:=Ku (kl key) (kas_desc f p n q)
  r.1.Perm p/\r.1.size=p.size/\dsc key r.1 r.2.1/\eqs key r.1 r.2.1 r.2.2/\r.2.2+1<=r.2.1/\n<=r.2.1/\r.2.1<=n+f
 |0,p,n,q,h1,hq,hz,hd,he=>⟨Ut _,rfl,hd,he,hq,Qs _,Qs _⟩
 |f+1,p,n,q,h1,hq,hz,hd,he=>by
  intro r;have hr:r=Ku (kl key) (kas_desc (f+1) p n q):=rfl;unfold kas_desc Ku at hr;cases c:kl key (p.getD n 0) (p.getD (n-1) 0)with
  |true=>
   rw[c]at hr;(try dsimp only at hr);rw[if_pos xf]at hr;have hlt:KA key p n<KA key p (n-1):=Qa c
   have ext:∀p':Array Nat,(∀i,KA key p' i=KA key p i)->dsc key p' (n+1)/\eqs key p' (n+1) 0:=λp' hp=>⟨λi j hij hj=>by
     rw[hp,hp];by_cases vP:j=n
     .subst vP
      by_cases hin:i=j
      .subst hin;exact QY _
      .exact J5 (Int.le_of_lt hlt) (hd i (j-1) (by omega) (by omega))
     .exact hd i j hij (by omega),λi hi1 hi2=>by
     have:i=n:=by omega
     subst this;rfl⟩
   by_cases hq0:q > 0
   .rw[Qo hq0]at hr
    have same:∀i,KA key (kas_rev p (n-(q+1)) n) i=KA key p i:=λi=>by
     rw[Rr (by omega)];split
     .rw[he _ (by omega) (by omega),he i (by omega) (by omega)]
     .rfl
    obtain⟨d1,e1⟩:=ext _ same;obtain⟨a1,a2,a3,a4,a5,a6,a7⟩:=PL f (kas_rev p (n-(q+1)) n) (n+1) 0 (by omega) (by omega) (by rw[V5];omega) d1 e1;rw[←hr]at a1 a2 a3 a4 a5 a6 a7;exact⟨a1.trans WH,a2.trans V5,a3,a4,a5,by omega,by omega⟩
   .rw[Qv hq0]at hr
    obtain⟨d1,e1⟩:=ext p λ_=>rfl
    obtain⟨a1,a2,a3,a4,a5,a6,a7⟩:=PL f p (n+1) 0 (by omega) (by omega) (by omega) d1 e1;rw[←hr]at a1 a2 a3 a4 a5 a6 a7;exact⟨a1,a2,a3,a4,a5,by omega,by omega⟩
  |false=>
   rw[c]at hr;(try dsimp only at hr);rw[if_neg (by decide)]at hr;unfold Ku at hr;have hle:KA key p (n-1)<=KA key p n:=Uz.mp (Ji c);cases d:kl key (p.getD (n-1) 0) (p.getD n 0)with
   |true=>rw[d]at hr;(try dsimp only at hr);rw[if_pos xf]at hr;unfold Ku at hr;rw[hr];exact⟨Ut _,rfl,hd,he,hq,Qs _,by show n<=n+(f+1);omega⟩
   |false=>
    rw[d]at hr;(try dsimp only at hr);rw[if_neg (by decide)]at hr;have hge:KA key p n<=KA key p (n-1):=Uz.mp (Ji d)
    obtain⟨a1,a2,a3,a4,a5,a6,a7⟩:=PL f p (n+1) (q+1) (by omega) (by omega) (by omega) (λi j hij hj=>by
     by_cases vP:j=n
     .subst vP
      by_cases hin:i=j
      .subst hin;exact QY _
      .exact J5 hge (hd i (j-1) (by omega) (by omega))
     .exact hd i j hij (by omega)) (λi hi1 hi2=>by
     have e0:KA key p n=KA key p (n-1):=Uh hge hle;show KA key p i=KA key p (n+1-1);rw[JY,e0];by_cases hin:i=n
     .subst hin;exact e0
     .exact he i (by omega) (by omega))
    rw[←hr]at a1 a2 a3 a4 a5 a6 a7;exact⟨a1,a2,a3,a4,a5,by omega,by omega⟩
theorem Gu{n nrem:Nat}(h1:1<=n)(hn:n<=nrem)(hz:nrem<=p.size)(hd:dsc key p n) :
  let r:=Ku (kl key) (kas_tail3 n nrem p)
  r.2.Perm p/\r.2.size=p.size/\srt key r.2 r.1/\1<=r.1/\r.1<=nrem:=by
 intro r;have hr:r=Ku (kl key) (kas_tail3 n nrem p):=rfl;unfold kas_tail3 at hr;rw[SO]at hr;have hs:srt key (kas_rev p 0 n) n:=λi j hij hj=>by rw[Rr (by omega),Rr (by omega),Qo (by omega),Qo (by omega)];exact hd _ _ (by omega) (by omega)
 obtain⟨a1,a2,a3,_⟩:=OV (key:=key) (p:=kas_rev p 0 n) (nrem-n) n h1 hs;rw[hr];exact⟨WH,V5,a1,by show 1<=Ku _ _;omega,by show Ku _ _<=_;omega⟩
theorem GL{n nrem:Nat}(h1:1<=n)(hn:n+1<=nrem)(hz:nrem<=p.size)(hd:dsc key p (n+1)) :
  let r:=Ku (kl key) (kas_descPart n nrem p)
  r.2.Perm p/\r.2.size=p.size/\srt key r.2 r.1/\1<=r.1/\r.1<=nrem:=by
 intro r;have hr:r=Ku (kl key) (kas_descPart n nrem p):=rfl;unfold kas_descPart at hr;rw[SO]at hr
 obtain⟨a1,a2,a3,a4,a5,a6,a7⟩:=PL (key:=key) (nrem-(n+1)) p (n+1) 0 (by omega) (by omega) (by omega) hd (λi hi1 hi2=>by
  have:i=n:=by omega
  subst this;rfl)
 generalize Ku (kl key) (kas_desc (nrem-(n+1)) p (n+1) 0)=d at hr a1 a2 a3 a4 a5 a6 a7;obtain⟨p1,n1,q1⟩:=d;dsimp only at hr a1 a2 a3 a4 a5 a6 a7;by_cases hq:q1 > 0
 .rw[Qo hq]at hr
  have same:∀i,KA key (kas_rev p1 (n1-(q1+1)) n1) i=KA key p1 i:=λi=>by
   rw[Rr (by omega)];split
   .rw[a4 _ (by omega) (by omega),a4 i (by omega) (by omega)]
   .rfl
  obtain⟨b1,b2,b3,b4,b5⟩:=Gu (key:=key) (p:=kas_rev p1 (n1-(q1+1)) n1) (n:=n1) (nrem:=nrem) (by omega) (by omega) (by rw[V5];omega) (λi j hij hj=>by rw[same,same];exact a3 i j hij hj);rw[hr];exact⟨(b1.trans WH).trans a1,(b2.trans V5).trans a2,b3,b4,b5⟩
 .rw[Qv hq]at hr
  obtain⟨b1,b2,b3,b4,b5⟩:=Gu (key:=key) (p:=p1) (n:=n1) (nrem:=nrem) (by omega) (by omega) (by omega) a3;rw[hr];exact⟨b1.trans a1,b2.trans a2,b3,b4,b5⟩
theorem jN{nrem:Nat}(h1:1<=nrem)(hz:nrem<=p.size) :
  let r:=Ku (kl key) (kas_count nrem p)
  r.2.Perm p/\r.2.size=p.size/\srt key r.2 r.1/\1<=r.1/\r.1<=nrem:=by
 intro r;have hr:r=Ku (kl key) (kas_count nrem p):=rfl;unfold kas_count at hr;rw[SO]at hr
 obtain⟨a1,a2,a3,a4⟩:=OV (key:=key) (p:=p) (nrem-1) 1 (Qs _) (λi j hij hj=>by
  have:i=j:=by omega
  subst this;exact QY _)
 generalize Ku (kl key) (kas_asc p (nrem-1) 1)=n at hr a1 a2 a3 a4;by_cases hn:(n==nrem)=xi
 .rw[Qo hn]at hr
  unfold Ku at hr;rw[hr];exact⟨Ut _,rfl,a1,a2,by show n<=nrem;omega⟩
 .rw[Qv hn]at hr
  have hne:n≠nrem:=by simpa using hn
  have hlt:=a4 (by omega);by_cases hn1:n > 1
  .rw[Qo hn1]at hr
   unfold Ku at hr;cases c:kl key (p.getD 0 0) (p.getD (n-1) 0)with
   |true=>rw[c]at hr;(try dsimp only at hr);rw[if_pos xf]at hr;unfold Ku at hr;rw[hr];exact⟨Ut _,rfl,a1,a2,by show n<=nrem;omega⟩
   |false=>
    rw[c]at hr;(try dsimp only at hr);rw[if_neg (by decide)]at hr;have hge:KA key p (n-1)<=KA key p 0:=Uz.mp (Ji c);have all:∀i,i<n->KA key p i=KA key p 0:=λi hi=>Uh (J5 (a1 i (n-1) (by omega) (by omega)) hge) (a1 0 i (by omega) hi)
    have same:∀i,KA key (kas_rev p 0 n) i=KA key p i:=λi=>by
     rw[Rr (by omega)];split
     .rw[all _ (by omega),all i (by omega)]
     .rfl
    obtain⟨b1,b2,b3,b4,b5⟩:=GL (key:=key) (p:=kas_rev p 0 n) (n:=n) (nrem:=nrem) a2 (by omega) (by rw[V5];exact hz) (λi j hij hj=>by
     rw[same,same];by_cases vP:j=n
     .subst vP
      by_cases hin:i=j
      .subst hin;exact QY _
      .rw[all i (by omega)]
       rw[all (j-1) (by omega)]at hlt;exact Int.le_of_lt hlt
     .rw[all i (by omega),all j (by omega)];exact QY _)
    rw[hr];exact⟨b1.trans WH,b2.trans V5,b3,b4,b5⟩
  .rw[Qv hn1]at hr
   have:n=1:=by omega
   subst this
   obtain⟨b1,b2,b3,b4,b5⟩:=GL (key:=key) (p:=p) (n:=1) (nrem:=nrem) (Qs _) (by omega) hz (λi j hij hj=>by
    by_cases hij2:i=j
    .subst hij2;exact QY _
    .have h0:i=0:=by omega
     have h1:j=1:=by omega
     subst h0;subst h1;exact Int.le_of_lt hlt)
   rw[hr];exact⟨b1,b2,b3,b4,b5⟩
theorem Nw{k:Nat}(hs:srt key p k):∀(f l r:Nat),l<=r->r<=k->r-l<=f->(∀i,i<l->KA key p i<=KA key p k)->(∀i,r<=i->i<k->KA key p k<KA key p i) ->
  let m:=Ku (kl key) (kas_place p k f l r)
  m<=k/\(∀i,i<m->KA key p i<=KA key p k)/\(∀i,m<=i->i<k->KA key p k<KA key p i)
 |0,l,r,hlr,hrk,hf,h1,h2=>⟨by show l<=k;omega,h1,λi (hi:l<=i)=>h2 i (by omega)⟩
 |f+1,l,r,hlr,hrk,hf,h1,h2=>by
  intro m;have hm:m=Ku (kl key) (kas_place p k (f+1) l r):=rfl;unfold kas_place at hm;by_cases hge:l ≥ r
  .rw[Qo hge]at hm
   unfold Ku at hm;rw[hm];exact⟨by omega,h1,λi hi=>h2 i (by omega)⟩
  .rw[Qv hge]at hm
   unfold Ku at hm;cases c:kl key (p.getD k 0) (p.getD ((l+r) / 2) 0)with
   |true=>rw[c]at hm;(try dsimp only at hm);rw[if_pos xf]at hm;rw[hm];have hlt:KA key p k<KA key p ((l+r) / 2):=Qa c;exact Nw hs f l ((l+r) / 2) (by omega) (by omega) (by omega) h1 λi hi hik=>Int.lt_of_lt_of_le hlt (hs _ _ hi hik)
   |false=>rw[c]at hm;(try dsimp only at hm);rw[if_neg (by decide)]at hm;rw[hm];have hle:KA key p ((l+r) / 2)<=KA key p k:=Uz.mp (Ji c);exact Nw hs f ((l+r) / 2+1) r (by omega) hrk (by omega) (λi hi=>J5 (hs i ((l+r) / 2) (by omega) (by omega)) hle) h2
theorem L9:∀(f:Nat)(p:Array Nat)(k:Nat),k+f<=p.size->srt key p k->let r:=Ku (kl key) (kas_bin f p k);r.Perm p/\r.size=p.size/\srt key r (k+f)
 |0,p,k,_,hs=>⟨Ut _,rfl,hs⟩
 |f+1,p,k,hz,hs=>by
  intro r;have hr:r=Ku (kl key) (kas_bin (f+1) p k):=rfl;unfold kas_bin at hr;rw[SO]at hr;obtain⟨a1,a2,a3⟩:=Nw (key:=key) hs k 0 k (Uc _) (Qs _) (by omega) (λi hi=>by omega) (λi h1 h2=>by omega);generalize Ku (kl key) (kas_place p k k 0 k)=l at hr a1 a2 a3;have hk:k<p.size:=by omega
  obtain⟨b1,b2,b3⟩:=L9 f (bubble p k (k-l)) (k+1) (by rw[bubble_size];omega) (λi j hij hj=>by
   rw[HS hk (by omega),HS hk (by omega),show k-(k-l)=l by omega];by_cases hi:i=l
   .rw[Qo hi]
    by_cases xX:j=l
    .rw[Qo xX];exact QY _
    .rw[Qv xX,Qo (by omega)]
     exact Int.le_of_lt (a3 (j-1) (by omega) (by omega))
   .rw[Qv hi]
    by_cases hi2:l<i/\i<=k
    .rw[Qo hi2,Qv (show ¬j=l by omega),Qo (by omega)]
     exact hs _ _ (by omega) (by omega)
    .rw[Qv hi2]
     by_cases xX:j=l
     .rw[Qo xX];exact a2 i (by omega)
     .rw[Qv xX]
      split
      .exact hs _ _ (by omega) (by omega)
      .exact hs _ _ (by omega) (by omega))
  rw[hr];exact⟨b1.trans (bubble_perm _ _ _),b2.trans (bubble_size _ _ _),by rw[show k+(f+1)=k+1+f by omega];exact b3⟩
theorem A5{n:Nat}(h1:1<=n):let r:=Ku (kl key) (kas_sort n);r.Perm (List.toArray (UK n))/\r.size=n/\srt key r n:=by
 intro r;have hr:r=Ku (kl key) (kas_sort n):=rfl;unfold kas_sort at hr;rw[SO]at hr;have hsz:(List.toArray (UK n)).size=n:=by simp
 obtain⟨a1,a2,a3,a4,a5⟩:=jN (key:=key) (p:=List.toArray (UK n)) (nrem:=n) h1 (by rw[hsz];exact Qs _);generalize Ku (kl key) (kas_count n (List.toArray (UK n)))=d at hr a1 a2 a3 a4 a5;by_cases hlt:d.1<n
 .rw[Qo hlt]at hr
  have vO:max d.1 1=d.1:=by omega
  rw[vO]at hr;obtain⟨b1,b2,b3⟩:=L9 (key:=key) (n-d.1) d.2 d.1 (by omega) a3;rw[hr];exact⟨b1.trans a1,by omega,by rw[show d.1+(n-d.1)=n by omega]at b3;exact b3⟩
 .rw[Qv hlt]at hr
  unfold Ku at hr;rw[hr];exact⟨a1,by omega,by rw[show d.1=n by omega]at a3;exact a3⟩
noncomputable def Asks{α:Type}(N:Nat)(R:α->Prop):KasT α->Prop
 |.ret a=>R a
 |.ask i j k=>i<N/\j<N/\∀b,Asks N R (k b)
theorem Asks.bind{α β:Type}{N:Nat}{R:α->Prop}{S:β->Prop}{f:α->KasT β}(hf:∀a,R a->Asks N S (f a)):∀{t:KasT α},Asks N R t->Asks N S (t.bind f)
 |.ret a,h=>hf a h
 |.ask _ _ k,⟨h1,h2,h3⟩=>⟨h1,h2,λb=>Asks.bind hf (h3 b)⟩
theorem L8{α:Type}{lt:Nat->Nat->Bool}{cmp:Nat->Nat->(Bool->UB->Prop)->UB->Prop}{s:UB}{N:Nat}{R:α->Prop}(hc:∀i j C,i<N->j<N->C (lt i j) s->cmp i j C s):∀(t:KasT α)(Q:α->UB->Prop),Asks N R t->Q (Ku lt t) s->t.kasWp cmp Q s
 |.ret _,_,_,h=>h
 |.ask i j k,Q,⟨h1,h2,h3⟩,h=>hc i j _ h1 h2 (L8 hc (k (lt i j)) Q (h3 _) h)
def bnd(N:Nat)(p:Array Nat):Prop:=∀i,p.getD i 0<N
theorem SS{N:Nat}{p q:Array Nat}(hN:0<N)(h:bnd N p)(e:q.Perm p):bnd N q:=λi=>by
 rw[Jj];cases z:q[i]? with
 |none=>exact hN
 |some v=>have hm:v∈q:=Array.mem_of_getElem? z;have hm2:v∈p:=e.mem_iff.mp hm;obtain⟨j,hj,e2⟩:=Array.mem_iff_getElem.mp hm2;have:=h j;rw[Jj,JZ hj,e2]at this;exact this
section
variable{N:Nat}(hN:0<N)
include hN
theorem OU{p:Array Nat}(h:bnd N p):∀(f n:Nat),Asks N (λ_=>True) (kas_asc p f n)
 |0,_=>trivial
 |f+1,n=>⟨h _,h _,λb=>by
  cases b with
  |true=>(try dsimp only);rw[if_pos xf];trivial
  |false=>(try dsimp only);rw[if_neg (by decide)];exact OU h f (n+1)⟩
theorem PK:∀(f:Nat)(p:Array Nat)(n q:Nat),bnd N p->Asks N (λr=>bnd N r.1) (kas_desc f p n q)
 |0,p,_,_,h=>h
 |f+1,p,n,q,h=>⟨h _,h _,λb=>by
  cases b with
  |true=>
   dsimp only;rw[Qo xf];split
   .exact PK f _ _ _ (SS hN h WH)
   .exact PK f _ _ _ h
  |false=>
   dsimp only;rw[Qv (by decide)];refine⟨h _,h _,λb=>?_⟩;cases b with
   |true=>(try dsimp only);rw[if_pos xf];exact h
   |false=>(try dsimp only);rw[if_neg (by decide)];exact PK f _ _ _ h⟩
theorem Gs{p:Array Nat}{n nrem:Nat}(h:bnd N p):Asks N (λr=>bnd N r.2) (kas_tail3 n nrem p):=
 Asks.bind (N:=N) (R:=λ_=>True) (S:=λr:Nat×Array Nat=>bnd N r.2) (f:=λm=>.ret (m,kas_rev p 0 n)) (λ_ _=>SS (p:=p) (q:=kas_rev p 0 n) hN h WH) (OU hN (SS hN h WH) _ _)
theorem GK{p:Array Nat}{n nrem:Nat}(h:bnd N p):Asks N (λr=>bnd N r.2) (kas_descPart n nrem p):=
 Asks.bind (λr hr=>by
  split
  .exact Gs hN (SS hN hr WH)
  .exact Gs hN hr) (PK hN _ _ _ _ h)
theorem jM{p:Array Nat}{nrem:Nat}(h:bnd N p):Asks N (λr=>bnd N r.2) (kas_count nrem p):=
 Asks.bind (R:=λ_=>True) (λn _=>by
  split
  .exact h
  .split
   .refine⟨h _,h _,λb=>?_⟩
    cases b with
    |true=>(try dsimp only);rw[if_pos xf];exact h
    |false=>(try dsimp only);rw[if_neg (by decide)];exact GK hN (SS hN h WH)
   .exact GK hN h) (OU hN h _ _)
theorem Nv{p:Array Nat}(h:bnd N p)(k:Nat):∀(f l r:Nat),Asks N (λ_=>True) (kas_place p k f l r)
 |0,_,_=>trivial
 |f+1,l,r=>by
  unfold kas_place;split
  .trivial
  .refine⟨h _,h _,λb=>?_⟩
   cases b with
   |true=>(try dsimp only);rw[if_pos xf];exact Nv h k f _ _
   |false=>(try dsimp only);rw[if_neg (by decide)];exact Nv h k f _ _
theorem L7:∀(f:Nat)(p:Array Nat)(k:Nat),bnd N p->Asks N (λ_=>True) (kas_bin f p k)
 |0,_,_,_=>trivial
 |f+1,p,k,h=>Asks.bind (R:=λ_=>True) (λl _=>L7 f _ _ (SS hN h (bubble_perm _ _ _))) (Nv hN h k _ _ _)
end
theorem A4{n:Nat}(hn:0<n):Asks n (λ_=>True) (kas_sort n):=by
 have hb:bnd n (List.toArray (UK n)):=λi=>by
  rw[Jj];by_cases hi:i<n
  .simp[hi]
  .simp[hi,hn]
 refine Asks.bind (λr hr=>?_) (jM hn hb);split
 .exact L7 hn _ _ _ hr
 .trivial
end
noncomputable def KL(q:Int×Int):Int:=q.1*10000000+q.2
def okP(q:Int×Int):Prop:=-1000000<=q.2/\q.2<=1000000
theorem Ca{x y:Int×Int}(hx:okP x)(hy:okP y):KL x<KL y ↔ (x.1<y.1∨x.1=y.1/\x.2<y.2):=by unfold KL okP at *;omega
theorem BV{x y:Int×Int}(hx:okP x)(hy:okP y)(h:KL x=KL y):x=y:=by
 unfold KL okP at *;have h1:x.1=y.1:=by omega
 have h2:x.2=y.2:=by omega
 exact Prod.ext h1 h2
section
variable{prog:UC}{w:World}{A:Around}{E:UA->UB->Prop}{s:UB}
def R9(h:Heap)(v:UA)(q:Int×Int):Prop:=∃a t u o n,v=.ref a/\h.get? a=O o/\o.cls=.type "tuple" /\ o.data=.seq #[.int q.1 t,.int q.2 u] n
theorem D9{x y:UA}{p q:Int×Int}{Q:Bool->UB->Prop}(hx:R9 s.heap x p)(hy:R9 s.heap y q)(h:Q (decide (p.1<q.1∨p.1=q.1/\p.2<q.2)) s):UH (model prog w) A (keyLt' (tuples' xi) x y) Q E s:=by
 obtain⟨a,t,u,o,n,rfl,e1,c1,d1⟩:=hx;obtain⟨b,t',u',o',n',rfl,e2,c2,d2⟩:=hy;refine kat_lt e1 d1 e2 d2 ?_;show KatLex prog w A xi _ Q [(Value.int p.1 t,Value.int q.1 t'),(Value.int p.2 u,Value.int q.2 u')] 0 s;refine kat_cons (wpAny_eqBool_int ?_);by_cases h1:p.1=q.1
 .have e:(p.1==q.1)=xi:=by simpa using h1
  rw[e];refine kat_yes (kat_cons (wpAny_eqBool_int ?_));by_cases h2:p.2=q.2
  .have e:(p.2==q.2)=xi:=by simpa using h2
   rw[e];refine kat_yes (kat_nil ?_);have:decide (p.1<q.1∨p.1=q.1/\p.2<q.2)=xj:=QI (by omega);rw[this]at h;exact h
  .have e:(p.2==q.2)=xj:=by simpa using h2
   rw[e];refine kat_no (kat_one _ _ (PyProof.Rows.lt_int ?_))
   have:decide (p.1<q.1∨p.1=q.1/\p.2<q.2)=decide (p.2<q.2):=by
    by_cases z:p.2<q.2
    .rw[QT z,QT (.inr ⟨h1,z⟩)]
    .rw[QI z,QI (by omega)]
   rw[this]at h;exact h
 .have e:(p.1==q.1)=xj:=by simpa using h1
  rw[e];refine kat_no (oneLt_int ?_)
  have:decide (p.1<q.1∨p.1=q.1/\p.2<q.2)=decide (p.1<q.1):=by
   by_cases z:p.1<q.1
   .rw[QT z,QT (.inl z)]
   .rw[QI z,QI (by omega)]
  rw[this]at h;exact h
noncomputable def YT(h:Heap):xo->LP->Prop
 |[],[]=>True
 |v::vs,q::qs=>R9 h v q/\YT h vs qs
 |_,_=>False
theorem YT.get{h:Heap}:∀{vs:xo}{qs:LP},YT h vs qs->vs.length=qs.length/\∀(i:Nat)(hi:i<vs.length),R9 h (vs.getD i .none) (qs.getD i (0,0))
 |[],[],_=>⟨rfl,λi hi=>absurd hi (JU _)⟩
 |v::vs,q::qs,⟨h1,h2⟩=>by
  obtain⟨e,f⟩:=YT.get h2;refine⟨by simp[e],λi hi=>?_⟩;cases i with
  |zero=>exact h1
  |succ i=>exact f i (by simpa using hi)
theorem YT.tups{h:Heap}:∀{vs:xo}{qs:LP},YT h vs qs->∃fs:xo,KatTups h vs fs/\fs.length=vs.length/\∀v∈fs,∃i t,v=.int i t
 |[],[],_=>⟨[],trivial,rfl,λ_ h=>by cases h⟩
 |v::vs,q::qs,⟨hp,h2⟩=>by
  obtain⟨a,t,u,o,n,rfl,e1,c1,d1⟩:=hp;obtain⟨fs,f1,f2,f3⟩:=YT.tups h2;refine⟨.int q.1 t::fs,.cons e1 c1 d1 xf f1,by simp[f2],λv hv=>?_⟩;rcases QL.mp hv with rfl|hv
  .exact⟨_,_,rfl⟩
  .exact f3 v hv
theorem YT.mono{h h':Heap}(k:∀b o,h.get? b=O o->h'.get? b=O o):∀{vs:xo}{qs:LP},YT h vs qs->YT h' vs qs
 |[],[],_=>trivial
 |v::vs,q::qs,⟨hp,h2⟩=>by obtain⟨a,t,u,o,n,rfl,e1,c1,d1⟩:=hp;exact⟨⟨a,t,u,o,n,rfl,k _ _ e1,c1,d1⟩,YT.mono k h2⟩
def RV(qs:LP)(π:xx):Prop:=π.Perm (UK qs.length)/\(π.map λi=>qs.getD i (0,0)).Pairwise λx y=>KL x<=KL y
theorem kU{a:UD}{vs:xo}{qs:LP}{n:Nat}{P:Fin->UB->Prop}(ho:s.heap.get? a=O (seqObj "list" vs.toArray n))
  (hp:YT ((s.heap.update a (Obj.mapSeq λ_=>#[]))) vs qs) (hq:∀q∈qs,okP q) (h64:vs.length<64)
  (h:∀π:xx,RV qs π->P (.done (.ret .none)) {s with heap:=sortedHeap s.heap a vs (List.toArray (π.map λi=>vs.getD i .none))}) :
  UH (model prog w) A (Builtin.«list.sort» ⟨[.ref a],[]⟩) P E s:=by
 obtain⟨hl,hget⟩:=hp.get;rw[list_sort_plain];have ha:a<s.heap.objs.size:=Qh ho;refine Qe (listItems_at ho xf ?_);refine Qe (listUpdate_at ho xf ?_);obtain⟨e1,ho1⟩:∃e1,(s.heap.update a (Obj.mapSeq λ_=>#[])).get? a=O (seqObj "list" #[] e1):=⟨_,get?_update_seq ho (λ_=>#[])⟩
 refine Qe (seqEpoch_at ho1 xf ?_);refine Qe (wpAny_newTuple ?_);refine Qe (wpAny_newList ?_);refine Jw ?_;have ho6:(((s.heap.update a (Obj.mapSeq λ_=>#[])).push (seqObj "tuple" vs.toArray 0)).push (seqObj "list" #[] 0)).get? a=O (seqObj "list" #[] e1):=by rw[Heap.get?_push_ne _ _ _ (by rw[size_push',Heap.size_update];exact QN (Ul ha)),Heap.get?_push_ne _ _ _ (by rw[Heap.size_update];exact QN ha)];exact ho1
 have hp6:YT (((s.heap.update a (Obj.mapSeq λ_=>#[])).push (seqObj "tuple" vs.toArray 0)).push (seqObj "list" #[] 0)) vs qs:=hp.mono λb o e=>Ql _ (Ql _ e)
 show UH (model prog w) A _ P E {s with heap:=((s.heap.update a (Obj.mapSeq λ_=>#[])).push (seqObj "tuple" vs.toArray 0)).push (seqObj "list" #[] 0)};dsimp only;have hsz:vs.toArray.size=vs.length:=by simp
 by_cases h2:vs.toArray.size<2
 .rw[Qo h2,Qo h2]
  refine Qe (Qn ?_);rw[StateT.run_pure];refine Qe (Qn ?_);dsimp only;refine Qe (seqEpoch_at ho6 xf ?_);refine Qe (listUpdate_at ho6 xf ?_ (hsz2:=by rw[Array.size_map];show(pairsOf vs).size<=_;rw[pairsOf_size,sizeLine_eq];omega));simp only[bne_self_eq_false,JX,Uy]
  have hid:(arrOf (SortSt.mk' general' (vs.toArray.zip vs.toArray) #[] 7 xg)).map (·.2)=List.toArray ((UK vs.length).map λi=>vs.getD i .none):=by
   show(vs.toArray.zip vs.toArray).map (·.2)=_
   apply Array.toList_inj.mp;apply Jy;intro i;simp only[Array.toList_map,Array.toList_zip,Qd,J0];by_cases hi:i<vs.length
   .simp[List.getElem?_zip_eq_some,hi,List.getElem?_range]
   .simp[hi]
  rw[hid];refine Qn (h (UK vs.length) ⟨by rw[hl],?_⟩);rw[List.pairwise_map];rw[hsz]at h2
  rcases(show vs.length=0∨vs.length=1 by omega)with z|z<;>rw[z]
  .exact .nil
  .exact List.pairwise_singleton _ _
 .rw[Qv h2,Qv h2]
  rw[hsz]at h2;obtain⟨fs,f1,f2,f3⟩:=hp6.tups;refine Qe (kat_kind (T:=.type "int") f1 (by omega) (λv hv=>by obtain⟨i,t,rfl⟩:=f3 v hv;exact(show Looks _ _ (pure (Value.type "int")) _ from .now)) xf ?_)
  refine Qe (QO (kat_run (ks:=vs) (G:=λp s'=>s' = {s with heap:=((s.heap.update a (Obj.mapSeq λ_=>#[])).push (seqObj "tuple" vs.toArray 0)).push (seqObj "list" #[] 0)}/\p=Ku (kl λi=>KL (qs.getD i (0,0))) (kas_sort vs.length))
   (Q:=λst' s'=>s' = {s with heap:=((s.heap.update a (Obj.mapSeq λ_=>#[])).push (seqObj "tuple" vs.toArray 0)).push (seqObj "list" #[] 0)}/\failedOf st'=xg/\arrOf st'=(Ku (kl λi=>KL (qs.getD i (0,0))) (kas_sort vs.length)).map (kas_item (vs.toArray.zip vs.toArray)))
   rfl (by omega) h64 (λp st' s' a1 a2 a3 a4=>⟨a4.1,a3,by rw[a2,a4.2]⟩) ?_) ?_ λ_ _ e=>e)
  .refine L8 (N:=vs.length) (R:=λ_=>True) (lt:=kl λi=>KL (qs.getD i (0,0))) (λi j C hi hj hC=>?_) _ _ (A4 (by omega)) ⟨rfl,rfl⟩
   refine D9 (YT.get hp6 |>.2 i hi) (YT.get hp6 |>.2 j hj) ?_;have oi:okP (qs.getD i (0,0)):=hq _ (by rw[Qj,Qf (by omega)];exact JP _);have oj:okP (qs.getD j (0,0)):=hq _ (by rw[Qj,Qf (by omega)];exact JP _);have e:decide ((qs.getD i (0,0)).1<(qs.getD j (0,0)).1∨(qs.getD i (0,0)).1=(qs.getD j (0,0)).1/\(qs.getD i (0,0)).2<(qs.getD j (0,0)).2)=kl (λi=>KL (qs.getD i (0,0))) i j:=by unfold kl;exact decide_eq_decide.mpr (Ca oi oj).symm
   rw[e];exact hC
  .rintro⟨⟨⟩,st'⟩ s' ⟨rfl,hf,har⟩
   dsimp only;obtain⟨b1,b2,b3⟩:=A5 (key:=λi=>KL (qs.getD i (0,0))) (n:=vs.length) (by omega);generalize Ku (kl λi=>KL (qs.getD i (0,0))) (kas_sort vs.length)=p at har b1 b2 b3;have hout:=kat_snds (ks:=vs) (vs:=vs) xf har;have hsz2:((arrOf st').map (·.2)).size=vs.length:=by rw[hout,QJ,Qb,Jx,b2]
   refine Qe (seqEpoch_at ho6 xf ?_);refine Qe (listUpdate_at ho6 xf ?_ (hsz2:=by rw[hsz2,sizeLine_eq];omega));rw[hf];simp only[bne_self_eq_false,JX,Uy];rw[hout];refine Qn (h p.toList ⟨?_,?_⟩)
   .have:=Array.perm_iff_toList_perm.mp b1
    rw[←hl];exact this
   .rw[List.pairwise_map,List.pairwise_iff_getElem]
    intro i j hi hj hij;rw[Jx,b2]at hi hj;have:=b3 i j (by omega) hj;unfold KA at this;rw[Jj,Jj,JZ (by omega),JZ (by omega)]at this;simpa using this
end
section
variable{prog:UC}{w:World}{A:Around}{E:UA->UB->Prop}{s:UB}
theorem kK{l:UD}{vs:xo}{qs:LP}{Q:UA->UB->Prop}(hl:s.heap.IsList l vs.toArray)(hp:YT s.heap vs qs)(hq:∀q∈qs,okP q)(h64:vs.length<64)
  (h:∀π:xx,RV qs π->Q (.ref (s.heap.objs.size+1)) {s with heap:=sortedAll s.heap vs (List.toArray (π.map λi=>vs.getD i .none))}) :
  UH (model prog w) A (call (.builtin "sorted") [.ref l]) Q E s:=by
 refine Calls.call_function_entry kind_sorted plain_sorted entry_sorted (args_sorted1 _) ?_;unfold Builtin.«sorted»;refine Qe (m:=checkCount "sorted" 1 1 _) (Qn ?_);refine Qe (collect_list hl ?_);refine Qe (wpAny_newList ?_);have hsz:((s.heap.push (seqObj "list" #[] 0)).update s.heap.objs.size (Obj.mapSeq (· ++ vs.toArray))).objs.size=s.heap.objs.size+1:=by rw[Heap.size_update,size_push']
 have hoL:(((s.heap.push (seqObj "list" #[] 0)).update s.heap.objs.size (Obj.mapSeq (· ++ vs.toArray))).push (seqObj "list" vs.toArray 0)).get? (s.heap.objs.size+1)=O (seqObj "list" vs.toArray 0):=by rw[←hsz];exact QB _ xf
 show UH _ _ _ _ _ {s with heap:=((s.heap.push (seqObj "list" #[] 0)).update s.heap.objs.size (Obj.mapSeq (· ++ vs.toArray))).push (seqObj "list" vs.toArray 0)};rw[hsz];refine Qe (Jw (wpAny_call_entry slot_list_sort ⟨_,hoL,rfl⟩ entry_list_sort (kU (qs:=qs) hoL (hp.mono λb o e=>?_) hq h64 λπ a1=>⟨_,rfl,?_⟩) (args_list_sort _)))
 .have hlt:b<s.heap.objs.size:=Qh e
  dsimp only;have wm:(b:Nat)<s.heap.objs.size:=hlt;rw[Heap.get?_update_ne _ _ _ _ (QN (Ul wm)),Heap.get?_push_ne _ _ _ (by rw[hsz];exact QN (Ul wm)),Heap.get?_update_ne _ _ _ _ (QN hlt),Heap.get?_push_ne _ _ _ (QN hlt)];exact e
 .exact Qn ⟨_,rfl,h π a1⟩
end
end DL
namespace DL
open PySem PySem.Spec L2
open PyProof.Rows hiding St
section
variable{X:Cx}
theorem L6{pins:List (UD×Obj)}{s:UB}{σ:St}{H:Hp}(I:Inv X pins σ H s):∀{as:xw}{us:xo}{qs:LP},Vals (as.map V.ref) us->as.length=qs.length->(∀(i:Nat) a q,as[i]?=O a->qs[i]?=O q->SqT X.K H a [.int q.1,.int q.2])->YT s.heap us qs
 |[],_,[],.nil,_,_=>trivial
 |a::as,_,q::qs,.cons r t,hl,h=>by refine⟨?_,L6 I t (by simpa using hl) λi a q h1 h2=>h (i+1) a q (by simpa using h1) (by simpa using h2)⟩;cases r;obtain⟨its,rv,⟨o,e,c,n,d⟩,_⟩:=I.tuple (h 0 a q xf xf);obtain⟨u,v,rfl,r1,r2⟩:=rv.two;obtain⟨t1,rfl⟩:=r1;obtain⟨t2,rfl⟩:=r2;exact⟨a,t1,t2,o,n,rfl,e,c,by simpa using d⟩
theorem HR{as:xw}{us:xo}(r:Vals (as.map V.ref) us):∀(π:xx),(∀i∈π,i<as.length)->Vals (π.map λi=>V.ref (as.getD i 0)) (π.map λi=>us.getD i .none)
 |[],_=>.nil
 |i::π,h=>by
  refine .cons ?_ (HR r π λj hj=>h j (Qi _ hj));have hi:=h i Qk;have e:(as.map V.ref)[i]?=O (.ref (as.getD i 0)):=by rw[List.getElem?_map,List.getElem?_eq_getElem hi];simp[List.getD,List.getElem?_eq_getElem hi]
  obtain⟨u,e2,ru⟩:=r.get e;simp only[List.getD,e2,Ub];exact ru
theorem jL:YO X (.builtin "sorted") (λxs H Q=>∃l,∃as:xw,∃qs:LP,xs=[.ref l]/\SqL X.K H l (as.map V.ref)/\as.length=qs.length/\(∀(i:Nat) a q,as[i]?=O a->qs[i]?=O q->SqT X.K H a [.int q.1,.int q.2])/\(∀q∈qs,okP q)/\qs.length<64 /\
  ∀π p,RV qs π->H p=xg->Q (.ref p) (upd H p (.lst (π.map λi=>V.ref (as.getD i 0))))):=by
 intro pins s σ H xs us Q I rx h;obtain⟨l,as,qs,rfl,hq,hl,ht,ho,hb,q⟩:=h;obtain⟨u,rfl,ru⟩:=rx.one;cases ru;obtain⟨its,rv,p,hz⟩:=I.list hq;have hn:its.length=qs.length:=by have:=rv.length;rw[Qb]at this;omega
 refine kK (qs:=qs) p.isList (L6 I rv hl ht) ho (by omega) λπ hπ=>?_
 obtain⟨e,he⟩:=sortedAll_at s.heap its (List.toArray (π.map λi=>its.getD i .none));have hπl:∀i∈π,i<as.length:=λi hi=>by have:=hπ.1.mem_iff.mp hi;rw[Q7]at this;omega
 refine⟨.ref (s.heap.objs.size+1),_,I.laid (t':=s.toks) (λb o=>sortedAll_old) (JW _) (show Yy X.prog X.w _ _ _ (.lst (π.map λi=>V.ref (as.getD i 0)))from⟨?_,_,e,HR rv π hπl,he⟩),rfl,q π _ hπ (I.hok.fresh (JW _))⟩;rw[Qb,hπ.1.length_eq,Qq];rw[Qb]at hz;omega
noncomputable def R8:D->Option (Int×Int)
 |.tuple [.int a,.int b]=>O (a,b)
 |_=>xg
noncomputable def VN:xk->Option LP
 |[]=>O []
 |d::r=>(R8 d).bind λq=>(VN r).map (q :: ·)
noncomputable def K9(q:Int×Int):D:=.tuple [.int q.1,.int q.2]
theorem A3{d:D}{q:Int×Int}(h:R8 d=O q):d=K9 q:=by
 unfold R8 at h;split at h
 .cases h;rfl
 .cases h
theorem GF:∀{ds:xk}{qs:LP},VN ds=O qs->ds=qs.map K9
 |[],qs,h=>by cases h;rfl
 |d::r,qs,h=>by
  unfold VN at h;cases z:R8 d with
  |none=>rw[z]at h;cases h
  |some q=>
   rw[z]at h;cases z2:VN r with
   |none=>rw[z2]at h;cases h
   |some qs'=>rw[z2]at h;cases h;rw[A3 z,GF z2];rfl
theorem GT:∀qs:LP,VN (qs.map K9)=O qs
 |[]=>rfl
 |q::r=>by rw[Qu,VN,GT r];rfl
noncomputable def Ww(qs:LP):LP:=qs.mergeSort λx y=>decide (KL x<=KL y)
theorem Gr(qs:LP):(Ww qs).Perm qs:=List.mergeSort_perm ..
theorem HQ(qs:LP):(Ww qs).Pairwise λx y=>KL x<=KL y:=by have:=List.pairwise_mergeSort (le:=λx y:Int×Int=>decide (KL x<=KL y)) (by intro a b c;simp;omega) (by intro a b;simp;omega) qs;exact this.imp (by simp)
theorem OT:∀{a b:LP},(∀x∈a,okP x)->a.Perm b->a.Pairwise (λx y=>KL x<=KL y)->b.Pairwise (λx y=>KL x<=KL y)->a=b
 |[],b,_,p,_,_=>by rw[List.nil_perm.1 p]
 |x::a,[],_,p,_,_=>by have:=p.length_eq;simp at this
 |x::a,y::b,ok,p,ha,hb=>by
  have hx:KL y<=KL x:=by
   rcases QL.1 (p.mem_iff.1 (Qk ..))with e|e
   .rw[e];exact QY _
   .exact(JC.1 hb).1 x e
  have hy:KL x<=KL y:=by
   rcases QL.1 (p.mem_iff.2 (Qk ..))with e|e
   .rw[e];exact QY _
   .exact(JC.1 ha).1 y e
  have oky:okP y:=ok y (p.mem_iff.2 (Qk ..));have e:=BV (ok x (Qk ..)) oky (Uh hy hx);subst e;rw[OT (λz hz=>ok z (Qi _ hz)) (List.Perm.cons_inv p) (JC.1 ha).2 (JC.1 hb).2]
theorem BU{qs:LP}{π:xx}(ok:∀q∈qs,okP q)(h:RV qs π):(π.map λi=>qs.getD i (0,0))=Ww qs:=by
 have hp:(π.map λi=>qs.getD i (0,0)).Perm qs:=by
  have h1:=h.1.map λi=>qs.getD i (0,0)
  have e:(UK qs.length).map (λi=>qs.getD i (0,0))=qs:=by
   apply Jy;intro i;rw[Qd];by_cases hi:i<qs.length
   .rw[List.getElem?_range hi,List.getElem?_eq_getElem hi];simp[List.getD,List.getElem?_eq_getElem hi]
   .rw[QE (by rw[Qq];omega),QE (by omega)];rfl
  rw[e]at h1;exact h1
 exact OT (λx hx=>ok x (hp.mem_iff.mp hx)) (hp.trans (Gr qs).symm) h.2 (HQ qs)
noncomputable def okPB(q:Int×Int):Bool:=decide (-1000000<=q.2/\q.2<=1000000)
noncomputable def Rq:xk->xn
 |[.list ds]=>(match VN ds with
  |some qs=>if qs.length<64/\qs.all okPB=xi then O (.list ((Ww qs).map K9))else xg
  |none=>xg)
 |_=>xg
theorem jK{xs:xk}{d:D}(h:Rq xs=O d):∃qs:LP,xs=[.list (qs.map K9)]/\qs.length<64/\(∀q∈qs,okP q)/\d=.list ((Ww qs).map K9):=by
 unfold Rq at h;split at h
 .rename_i ds
  cases z:VN ds with
  |none=>rw[z]at h;cases h
  |some qs=>
   rw[z]at h;dsimp only at h;split at h
   .rename_i c
    cases h;exact⟨qs,by rw[GF z],c.1,λq hq=>(show -1000000<=q.2/\q.2<=1000000 from Qa (Jp.mp c.2 q hq)),rfl⟩
   .cases h
 .cases h
theorem HP{K:Frag}{G:Hp}:∀{vs:List V}{qs:LP},Reps K G vs (qs.map K9)->∃as:xw,vs=as.map V.ref/\as.length=qs.length/\∀(i:Nat) a q,as[i]?=O a->qs[i]?=O q->SqT K G a [.int q.1,.int q.2]
 |_,[],.nil=>⟨[],rfl,rfl,λi a q h=>by simp at h⟩
 |_,q::qs,.cons r t=>by
  obtain⟨as,rfl,hl,h⟩:=HP t;obtain⟨a,ws,rfl,h1,r1⟩:=r.tup_inv;cases r1 with
  |cons ra rb=>
   obtain⟨v,rfl,rb'⟩:=rb.one_inv;refine⟨a::as,rfl,by simp[hl],λi a' q' e1 e2=>?_⟩;cases i with
   |zero=>cases e1;cases e2;rw[ra.int_inv,rb'.int_inv]at h1;exact h1
   |succ i=>exact h i a' q' (by simpa using e1) (by simpa using e2)
theorem BS{K:Frag}{G:Hp}{a:UD}{q:Int×Int}(h:SqT K G a [.int q.1,.int q.2]):Rep K G (.ref a) (K9 q):=.tup h (.cons (.int _) (.cons (.int _) .nil))
theorem HN{K:Frag}{G:Hp}{as:xw}{qs:LP}(hl:as.length=qs.length)(h:∀(i:Nat) a q,as[i]?=O a->qs[i]?=O q->SqT K G a [.int q.1,.int q.2]):∀π:xx,(∀i∈π,i<qs.length)->Reps K G (π.map λi=>V.ref (as.getD i 0)) ((π.map λi=>qs.getD i (0,0)).map K9)
 |[],_=>.nil
 |i::π,hb=>by
  refine .cons ?_ (HN hl h π λj hj=>hb j (Qi _ hj));have hi:=hb i Qk;refine BS (h i _ _ ?_ ?_)
  .rw[List.getElem?_eq_getElem (by omega)];simp[List.getD,List.getElem?_eq_getElem (show i<as.length by omega)]
  .rw[List.getElem?_eq_getElem hi];simp[List.getD,List.getElem?_eq_getElem hi]
theorem D8:Y3 X (.builtin "sorted") Rq:=by refine⟨_,jL,λvs G H ds d Q s r e k=>?_⟩;obtain⟨qs,rfl,h64,ok,rfl⟩:=jK e;obtain⟨v,rfl,q1⟩:=r.one_inv;obtain⟨l,ws,rfl,h1,r1⟩:=q1.lst_inv;obtain⟨as,rfl,hl,ht⟩:=HP r1;refine⟨l,as,qs,rfl,s.seq h1,hl,λi a q e1 e2=>Y6 s (ht i a q e1 e2),ok,h64,λπ p hπ hp=>?_⟩;have hb:∀i∈π,i<qs.length:=λi hi=>Q7.mp (hπ.1.mem_iff.mp hi);have rr:=(HN hl ht π hb).mono (ZT (s.free hp):Same G (upd G p (.lst (π.map λi=>V.ref (as.getD i 0)))));rw[BU ok hπ]at rr;exact k _ _ _ (Ext.new s hp) (.lst (SqL.of ZU) rr)
theorem Y3.or{f:UA}{p q:xk->xn}(h1:Y3 X f p)(h2:Y3 X f q):Y3 X f (λxs=>(p xs).orElse λ_=>q xs):=by
 obtain⟨r1,c1,k1⟩:=h1;obtain⟨r2,c2,k2⟩:=h2;refine⟨λxs H Q=>r1 xs H Q∨r2 xs H Q,λpins s σ H xs us Q I rx h=>?_,λvs G H ds d Q s r e k=>?_⟩
 .rcases h with h|h
  .exact c1 pins s σ H xs us Q I rx h
  .exact c2 pins s σ H xs us Q I rx h
 .dsimp only at e
  cases z:p ds with
  |some d'=>rw[z]at e;cases e;exact .inl (k1 vs G H ds _ Q s r z k)
  |none=>rw[z]at e;exact .inr (k2 vs G H ds _ Q s r e k)
noncomputable def VR(xs:xk):xn:=(V3 xs).orElse λ_=>Rq xs
theorem Ev:Y3 X (.builtin "sorted") VR:=Ck.or D8
theorem Gq{ns:xm}(h:ns.length<64):VR [.list (ns.map .int)]=O (.list ((YR ns).map .int)):=by unfold VR;rw[qS h];rfl
theorem A2{qs:LP}(h:qs.length<64)(ok:∀q∈qs,okP q):VR [.list (qs.map K9)]=O (.list ((Ww qs).map K9)):=by
 cases qs with
 |nil=>
  have e1:Ww []=[]:=by unfold Ww;simp
  have e2:YR []=[]:=by unfold YR;simp
  have:=Gq (ns:=[]) (by decide);rw[e2]at this;rw[e1];exact this
 |cons q r=>have e1:V3 [.list ((q::r).map K9)]=xg:=rfl;unfold VR;rw[e1,Option.orElse];unfold Rq;dsimp only;rw[GT];exact Qo ⟨h,Jp.mpr λq hq=>QT (show -1000000<=q.2/\q.2<=1000000 from ok q hq)⟩
end
section
variable{X:Cx}{B G0:Hp}{e o a b c tg:UF}{pos p2:Pos}{es rest:xp}{te to ti:TE}
noncomputable def Vu{β:Type}(p:D->D->Option β)(f:M D)(j:Nat):M β:=Kn f λx=>λZ=>match Z[j]? with
 |some (O (.pub d))=>Ko (p x d) Z
 |some (O (.own ds))=>Ko (p x (.list ds)) Z
 |_=>.bad
theorem NR{K:Frag}{σ:St}{H:Hp}{p:D->D->xy}{r:R2}{j:Nat}{f:M D}{Q:Bool->Hp->Prop}{QV:VK}(hq:∀t H3,Q t H3->QV (.bl t) H3)
  (hr:∀v u G H x y d Q,Same G H->Rep K G v x->Rep K G u y->p x y=O d->Q (.bl d) H->r v u H Q)
  (q:tBo K B G0 (Vu p f j) σ H Q):tD K B G0 f σ H λx H1=>Zy j σ H1 λy H2=>r x y H2 QV:=by
 refine tM.one (R:=Rep K) q λv H2 G Z x k rx a=>?_
 cases z:Z[j]? with
 |none=>rw[z]at a;exact a.elim
 |some o=>
  cases o with
  |none=>rw[z]at a;exact a.elim
  |some sl=>
   cases sl with
   |deep _ _=>rw[z]at a;exact a.elim
   |pub d=>rw[z]at a;dsimp only at a;obtain⟨d',e',a'⟩:=aft.opt a;obtain⟨u,h1,h2⟩:=k.pub j d z;exact⟨u,h1,hr v u G H2 x d d' _ k.gh rx h2 e' (hq _ _ (a' d' G H2 k (.refl _) xf))⟩
   |own ds=>rw[z]at a;dsimp only at a;obtain⟨d',e',a'⟩:=aft.opt a;obtain⟨ad,vs,h1,h2,h3,h4,h5⟩:=k.own j ds z;exact⟨.ref ad,h1,hr v (.ref ad) H2 H2 x (.list ds) d' _ (.refl _) (rx.mono k.gh) (.lst (SqL.of h4) (h5.mono k.gh)) e' (hq _ _ (a' d' G H2 k (.refl _) xf))⟩
theorem D7{op:CmpOp}{p:D->D->xy}{j:Nat}{f:M D}(o:OpB X (UJ op) p)(ha:PE X a (tD X.K B G0 f))(hb:PE X b (Zy j))(hm:behindInMarks op b=xj) :
  PT X (.Compare a [op] [b] pos) (tBo X.K B G0 (Vu p f j)):=by
 obtain⟨r,h,i⟩:=o;exact YK (Ox h ha hb hm) λσ H Q q=>NR (λt H3 z=>⟨t,rfl,z⟩) i q
theorem D6{op:CmpOp}{p:D->D->xy}{j:Nat}{f:M D}(o:OpB X (UJ op) p)(ha:PE X a (tD X.K B G0 f))(hb:PE X b (Zy j))(hm:behindInMarks op b=xj) :
  PE X (.Compare a [op] [b] pos) (tD X.K B G0 (Ke UN (Vu p f j))):=by
 obtain⟨r,h,i⟩:=o;exact KG (Oy h ha hb hm) λσ H Q q=>NR (λt H3 z=>z) i (tBo.val q)
theorem Pv{β:Type}{p:D->D->Option β}{f:M D}{j:Nat}{Z Z1:U0}{x:D}{ds:xk}{r:β}(h1:f Z=.ok x Z1)(h2:Z1[j]?=O (O (.own ds)))(h3:p x (.list ds)=O r):Vu p f j Z=.ok r Z1:=by unfold Vu;exact K4 h1 (by rw[h2];exact Yl h3)
end
noncomputable def Rp(Z:U0)(j:Nat):xn:=match Z[j]? with
 |some (O (.pub d))=>O d
 |some (O (.own ds))=>O (.list ds)
 |some (O (.deep _ d))=>O d
 |_=>xg
theorem EOk.tree{K:Frag}{B G0 G H:Hp}{σ:St}{Z:U0}{j:Nat}{d:D}(k:EOk K B G0 G H σ Z)(h:Rp Z j=O d):∃v,σ[j]?=O (O v)/\Rep K H v d:=by
 unfold Rp at h;split at h
 .rename_i d' e
  cases h;obtain⟨v,h1,h2⟩:=k.pub j _ e;exact⟨v,h1,h2.mono k.gh⟩
 .rename_i ds e
  cases h;obtain⟨a,vs,h1,h2,h3,h4,h5⟩:=k.own j ds e;exact⟨.ref a,h1,.lst (SqL.of h4) (h5.mono k.gh)⟩
 .rename_i p d' e
  cases h;obtain⟨ω,k1,k2⟩:=k.dp;obtain⟨v,fp,s,r,_⟩:=k1 j p _ e;exact⟨v,s,r.rep k.gh⟩
 .cases h
end DL
namespace HT
open PySem PyProof.Rows
theorem BR{xs ys:xm}{i:Nat}(h1:xs.length<=i):Z7 (ys.drop i) (xs.drop i)=xj:=by rw[List.drop_of_length_le h1];cases ys.drop i<;>rfl
theorem BQ{xs ys:xm}{i:Nat}(h1:ys.length<=i)(h2:i<xs.length):Z7 (ys.drop i) (xs.drop i)=xi:=by rw[List.drop_of_length_le h1,QQ h2];rfl
theorem BP{xs ys:xm}{i:Nat}{a c:Int}(h1:xs[i]?=O a)(h2:ys[i]?=O c):Z7 (ys.drop i) (xs.drop i)=if c=a then Z7 (ys.drop (i+1)) (xs.drop (i+1))else decide (c<a):=by obtain⟨l1,e1⟩:=Qg.mp h1;obtain⟨l2,e2⟩:=Qg.mp h2;rw[QQ l1,QQ l2,Nz,e1,e2]
section
open PySem.SeqAt
open PySem.AutoSeq1 (wpAny_loadPart')
open PySem.MeetsSeq PySem.MeetsSeq2 PySem.MeetsSeq3
theorem BO(A:Around)(s:UB)(a:Int)(t:Tok)(c:Int)(u:Tok)(prog:UC)(w:World)(E:UA->UB->Prop)(Q:UA->UB->Prop)(h:Q (.bool (decide (c<a))) s) :
  UH (model prog w) A (richCompare .Gt (.int a t) (.int c u)) Q E s:=
 (PyProof.Rows.gt_int h:UH (model prog w) A (UJ .Gt (.int a t) (.int c u)) Q E s)
theorem A1{p q:UD}{us vs:Array UA}{m m':Nat}{dp dq:xz}{sp sq:Array xr}{xs ys:xm}(ix:IntsAre us.toList xs)(iy:IntsAre vs.toList ys) :
  ∀d i:Nat,us.size-i=d->i<=us.size->i<=vs.size->Meets (Builtin.«list.__eq__.loop» ⟨[.ref p,.ref q,rawInt i,rawInt 4],[]⟩)
   (λ_ R s=>s.heap.get? p=O {cls:=.type "list", dict:=dp,data:=.seq us m,slots:=sp}/\s.heap.get? q=O {cls:=.type "list", dict:=dq,data:=.seq vs m',slots:=sq} /\
    R (.ok (.ret (.bool (Z7 (ys.drop i) (xs.drop i))))) s):=by
 have zx:us.size=xs.length:=by rw[←ix.length];simp
 have zy:vs.size=ys.length:=by rw[←iy.length];simp
 intro d;induction d with
 |zero=>
  intro i hd h1 h2 prog w A R s h;obtain⟨hp,g,dd,tk,os⟩:=s;obtain⟨gp,gq,h⟩:=h
  wp_walk using wpAny_loadPart' gp,wpAny_loadPart' gq
  have n1:us[((i:Nat):Int).toNat]?=xg:=by simp;omega
  rw[n1]
  wp_walk using wpAny_loadPart' gp,wpAny_loadPart' gq
  show R (.ok (.ret (.bool (decide (us.size > vs.size))))) _;rw[QI (by omega)];rw[BR (by omega)]at h;exact h
 |succ d ih=>
  intro i hd h1 h2 prog w A R s h;obtain⟨hp,g,dd,tk,os⟩:=s;obtain⟨gp,gq,h⟩:=h
  wp_walk using wpAny_loadPart' gp,wpAny_loadPart' gq
  have lt1:i<us.size:=by omega
  have s1:us[((i:Nat):Int).toNat]?=O us[i]:=by simp[lt1]
  obtain⟨a,t,ea,xa⟩:=ix.at (i:=i) (v:=us[i]) (by simp[lt1]);rcases Nat.lt_or_ge i vs.size with lt2|ge2
  .have s2:vs[((i:Nat):Int).toNat]?=O vs[i]:=by simp[lt2]
   obtain⟨c,u,ec,yc⟩:=iy.at (i:=i) (v:=vs[i]) (by simp[lt2]);rw[s1,s2,ea,ec];rw[BP xa yc]at h;obtain⟨e,he,wq⟩:=AL A.in1 ⟨hp,g,dd,tk,os⟩ a t c u;refine Qe (he prog w _ _ ?_);cases e with
   |true=>
    have hac:a=c:=wq.mp xf;rw[Qo hac.symm]at h
    wp_walk
    have up:((i:Int)+1)=((i+1:Nat):Int):=by omega
    rw[up];exact⟨JJ plain_eq_loop _,Jk entry_eq_loop (by rw[Jm plain_eq_loop _];exact ih (i+1) (by omega) (by omega) (by omega) prog w A R _ ⟨gp,gq,h⟩)⟩
   |false=>
    have hac:¬c=a:=λz=>absurd (wq.mpr z.symm) JO;rw[Qv hac]at h;have rc:=BO A.in1 ⟨hp,g,dd,tk,os⟩ a t c u prog w
    wp_walk using wpAny_loadPart' gp,wpAny_loadPart' gq
    rw[s1,s2,ea,ec]
    wp_walk using rc
    exact h
  .have n2:vs[((i:Nat):Int).toNat]?=xg:=by simp;omega
   rw[s1,n2]
   wp_walk using wpAny_loadPart' gp,wpAny_loadPart' gq
   show R (.ok (.ret (.bool (decide (us.size > vs.size))))) _;rw[QT (by omega)];rw[BQ (by omega) (by omega)]at h;exact h
theorem jJ{p q:UD}{us vs:Array UA}{m m':Nat}{dp dq:xz}{sp sq:Array xr}{xs ys:xm}(ix:IntsAre us.toList xs)(iy:IntsAre vs.toList ys) :
  Meets (Builtin.«list.__gt__» ⟨[.ref p,.ref q],[]⟩)
   (λ_ R s=>s.heap.get? p=O {cls:=.type "list", dict:=dp,data:=.seq us m,slots:=sp}/\s.heap.get? q=O {cls:=.type "list", dict:=dq,data:=.seq vs m',slots:=sq} /\
    R (.ok (.ret (.bool (Z7 ys xs)))) s):=by
 intro prog w A R s h;obtain⟨hp,g,dd,tk,os⟩:=s;obtain⟨gp,gq,h⟩:=h;have f3:=AutoSeq1.sub_list_list
 wp_walk using wpAny_loadPart' gp,wpAny_loadPart' gq
 exact⟨JJ plain_eq_loop _,Jk entry_eq_loop (by rw[Jm plain_eq_loop _];exact A1 ix iy _ 0 xf (Nat.zero_le _) (Nat.zero_le _) prog w A R _ ⟨gp,gq,by simpa using h⟩)⟩
end
section
variable{prog:UC}{w:World}{A:Around}{E:UA->UB->Prop}{s:UB}
theorem kh{p q:UD}{us vs:Array UA}{xs ys:xm}{Q:UA->UB->Prop}(hl:s.heap.IsList p us)(hb:s.heap.IsList q vs)(ix:IntsAre us.toList xs)(iy:IntsAre vs.toList ys)
  (hu:A.units<cLine) (h:Q (.bool (Z7 ys xs)) s):UH (model prog w) A (UJ .Gt (.ref p) (.ref q)) Q E s:=by
 obtain⟨⟨cls,dd,data,sl⟩,ho,hc,n,hd⟩:=id hl;obtain⟨⟨cls2,dd2,data2,sl2⟩,ho2,hc2,n2,hd2⟩:=id hb;simp only at hc hd hc2 hd2;subst hc hd hc2 hd2
 exact richCompare_meets_room (op:=.Gt) ⟨_,ho,rfl⟩ ⟨_,ho2,rfl⟩ PySem.F.slot_list_gt PySem.F.entry_list_gt (PySem.F.args_list_gt_2 _ _) (jJ ix iy)
  ⟨ho,ho2,show Value.bool (Z7 ys xs)≠Value.notImplemented/\Q (.bool (Z7 ys xs)) s from⟨(λx=>nomatch x),h⟩⟩ hu
end
end HT
namespace DL
open PySem PySem.Spec L2
open PyProof.Rows hiding St
section
variable{X:Cx}
noncomputable def Sw(x y:D):Option xk:=match x,y with
 |.list xs,.int k=>if -1000000<=k/\k<=1000000/\xs.length*k.toNat<=1000000 then O (UL k.toNat xs).flatten else xg
 |_,_=>xg
theorem A0{x y:D}{ds:xk}(h:Sw x y=O ds):∃xs k,x=.list xs/\y=.int k/\(-1000000<=k/\k<=1000000/\xs.length*k.toNat<=1000000)/\ds=(UL k.toNat xs).flatten:=by
 unfold Sw at h;split at h
 .split at h
  .rename_i xs k c
   cases h;exact⟨xs,k,rfl,rfl,c,rfl⟩
  .cases h
 .cases h
noncomputable def VQ(f g:M D):M xk:=Kn f λx=>Kn g λy=>Ko (Sw x y)
theorem MJ{f g:M D}(ha:PE X a (tD X.K B G0 f))(hb:PE X b (tD X.K B G0 g)):PE X (.BinOp a .Mult b pos) (tL X.K B G0 (VQ f g)):=
 KG (NV Lj ha hb) λσ H Q ⟨G,Z,k,q⟩=>by
  refine⟨G,Z,k,?_⟩;unfold VQ Kn at q;cases z:f Z with
  |bad=>rw[z]at q;exact q.elim
  |ok x Z1=>
   rw[z]at q;dsimp only at q;intro v G1 H1 k1 s1 r1;refine⟨G1,Z1,k1,?_⟩;cases z2:g Z1 with
   |bad=>rw[z2]at q;exact q.elim
   |ok y Z2=>
    rw[z2]at q;dsimp only[Ko]at q;intro u G2 H2 k2 s2 r2;cases z3:Sw x y with
    |none=>rw[z3]at q;exact q.elim
    |some ds=>rw[z3]at q;obtain⟨xs,i,rfl,rfl,c,rfl⟩:=A0 z3;obtain⟨l,vs,rfl,h1,w⟩:=r1.lst_inv;exact⟨l,i,vs,rfl,r2.int_inv,k2.gh.seq (s2.seq h1),by omega,by omega,by rw[w.length];exact QR c.2.2 lim,λp hp=>q p _ G2 _ (k2.ext (Ext.hid k2.gh hp)) (s1.trans s2) (NewL.of k2 hp ((w.mono s2).rep _))⟩
theorem OE{f g:M D}{Z Z1 Z2:U0}{x:D}{n:Nat}(h1:f Z=.ok (.list [x]) Z1)(h2:g Z1=.ok (.int n) Z2)(h:n<=1000):VQ f g Z=.ok (UL n x) Z2:=by
 unfold VQ Kn;rw[h1];dsimp only;rw[h2];dsimp only[Ko]
 have e:Sw (.list [x]) (.int n)=O (UL n x):=by
  unfold Sw;dsimp only;rw[Qo ⟨by omega,by omega,by show 1*_<=_;omega⟩]
  congr 1
  rw[QD];clear h2 h;induction n with
  |zero=>rfl
  |succ n ih=>rw[Q0,QP,ih,Q0];rfl
 rw[e]
end
end DL
namespace DL
open PySem
theorem lz0{P:xo->Prop}{us:xo}(hl:us.length=0)(h:P []):P us:=by
 cases us with
 |nil=>exact h
 |cons a r=>cases hl
theorem lzS{P:xo->Prop}{us:xo}{n:Nat}(hl:us.length=n+1)(h:∀a r,r.length=n->P (a::r)):P us:=by
 cases us with
 |nil=>cases hl
 |cons a r=>exact h a r (Nat.succ.inj hl)
theorem lz1{P:xo->Prop}{us:xo}(hl:us.length=1)(h:∀a,P [a]):P us:=lzS hl λa r e=>lz0 (P:=λr=>P (a::r)) e (h a)
theorem lz2{P:xo->Prop}{us:xo}(hl:us.length=2)(h:∀a b,P [a,b]):P us:=lzS hl λa r e=>lz1 (P:=λr=>P (a::r)) e (h a)
theorem lz3{P:xo->Prop}{us:xo}(hl:us.length=3)(h:∀a b c,P [a,b,c]):P us:=lzS hl λa r e=>lz2 (P:=λr=>P (a::r)) e (h a)
theorem lz4{P:xo->Prop}{us:xo}(hl:us.length=4)(h:∀a b c d,P [a,b,c,d]):P us:=lzS hl λa r e=>lz3 (P:=λr=>P (a::r)) e (h a)
theorem lz5{P:xo->Prop}{us:xo}(hl:us.length=5)(h:∀a b c d e,P [a,b,c,d,e]):P us:=lzS hl λa r e=>lz4 (P:=λr=>P (a::r)) e (h a)
theorem bz1{fd:UE}{ps:List Str}{us:xo}(hl:us.length=1)(h:∀a,bindArgs fd {pos:=[a]}=pure (ps.zip [a])):bindArgs fd {pos:=us}=pure (ps.zip us):=lz1 (P:=λus=>bindArgs fd {pos:=us}=pure (ps.zip us)) hl h
theorem bz2{fd:UE}{ps:List Str}{us:xo}(hl:us.length=2)(h:∀a b,bindArgs fd {pos:=[a,b]}=pure (ps.zip [a,b])):bindArgs fd {pos:=us}=pure (ps.zip us):=lz2 (P:=λus=>bindArgs fd {pos:=us}=pure (ps.zip us)) hl h
theorem bz3{fd:UE}{ps:List Str}{us:xo}(hl:us.length=3)(h:∀a b c,bindArgs fd {pos:=[a,b,c]}=pure (ps.zip [a,b,c])):bindArgs fd {pos:=us}=pure (ps.zip us):=lz3 (P:=λus=>bindArgs fd {pos:=us}=pure (ps.zip us)) hl h
theorem bz4{fd:UE}{ps:List Str}{us:xo}(hl:us.length=4)(h:∀a b c d,bindArgs fd {pos:=[a,b,c,d]}=pure (ps.zip [a,b,c,d])):bindArgs fd {pos:=us}=pure (ps.zip us):=lz4 (P:=λus=>bindArgs fd {pos:=us}=pure (ps.zip us)) hl h
theorem bz5{fd:UE}{ps:List Str}{us:xo}(hl:us.length=5)(h:∀a b c d e,bindArgs fd {pos:=[a,b,c,d,e]}=pure (ps.zip [a,b,c,d,e])):bindArgs fd {pos:=us}=pure (ps.zip us):=lz5 (P:=λus=>bindArgs fd {pos:=us}=pure (ps.zip us)) hl h
end DL
namespace DL
open PySem PySem.Spec L2
open PyProof.Rows hiding St
noncomputable def whole(h:Heap):Frag:=(UK h.objs.size).filterMap λa=>(h.get? a).map λo=>(a,o)
theorem HM{g:UD->Option Obj}{x:UD}:∀l:xw,(l.filterMap λa=>(g a).map λo=>(a,o)).lookup x=if x∈l then g x else xg
 |[]=>rfl
 |y::l=>by
  have ih:=HM (g:=g) (x:=x) l;by_cases e:x=y
  .subst e
   rw[Qo Qk];cases z:g x with
   |none=>rw[List.filterMap_cons_none (by rw[z];rfl),ih,z];split<;>rfl
   |some o=>rw[List.filterMap_cons_some (by rw[z];rfl),Q2,beq_self_eq_true]
  .have m:(x∈y::l)=(x∈l):=by simp[List.mem_cons,e]
   have b:(x==y)=xj:=by simpa using e
   have ih':(if x∈y::l then g x else xg)=_:=(by simp only[m];exact ih.symm)
   rw[ih'];cases z:g y with
   |none=>rw[List.filterMap_cons_none (by rw[z];rfl)]
   |some o=>rw[List.filterMap_cons_some (by rw[z];rfl),Q2,b]
theorem RK{h:Heap}{a:UD}:(whole h).lookup a=h.get? a:=by
 unfold whole;rw[HM];split
 .rfl
 .rename_i n
  cases z:h.get? a with
  |none=>rfl
  |some o=>exact absurd (Q7.mpr (Qh z)) n
theorem BN(h:Heap):(whole h).In h:=λa o e=>by rw[RK]at e;exact e
noncomputable def FG(st:Stmt):Option DefRec:=match st with
 |.FunctionDef name a b _ _ _ sc _ _ pos=>O ⟨name,a,b,sc,pos⟩
 |_=>xg
noncomputable def Oa(st:Stmt):Option Str:=match st with
 |.FunctionDef name _ _ _ _ _ _ _ _ _=>O name
 |_=>xg
noncomputable def FF(st:Stmt):Pos:=match st with
 |.FunctionDef _ _ _ _ _ _ _ _ _ pos=>pos
 |_=>⟨0,0,0,0⟩
noncomputable abbrev ZK(p:UC)(i:Nat):Stmt:=p.main.body.getD i (.Pass ⟨0,0,0,0⟩)
noncomputable def Ro(p:UC)(ix:xx):List DefRec:=ix.filterMap λi=>FG (ZK p i)
section
variable{p q:UC}{loose:List Str}{mean:ExcName->xr}{mg mb:Str->xr}{h:Heap}{w:World}
theorem Mk{ix:xx}(T:Top q loose mean mg mb h)(e:recsOf q=Ro p ix)(i:Nat)(x:Str)(hi:ix.contains i=xi)(hn:Oa (ZK p i)=O x):∃f fd,mg x=O (.ref f)/\Fun (whole h) x x (ZK p i) f fd:=by
 cases hs:ZK p i with
 |FunctionDef name a b _ _ _ sc _ _ pos=>
  rw[hs]at hn;cases hn;have hd:(⟨x,a,b,sc,pos⟩:DefRec)∈recsOf q:=by rw[e];exact List.mem_filterMap.mpr ⟨i,by simpa using hi,by rw[hs];rfl⟩
  obtain⟨f,⟨oc,od,dt,osl⟩,pm,cd,doc,h1,h2,h3,h4⟩:=T.fn _ hd;have h3:dt=_:=h3;subst h3;refine⟨f,_,h1,⟨⟨oc,od,.none,doc,pm,_,cd,_,osl,rfl,by rw[RK];exact h2,?_⟩,?_⟩⟩
  .obtain⟨c,⟨_,_,dc,_⟩,vs,t,rfl,g1,g2,g3⟩:=h4
   have g2:dc=_:=g2;subst g2;unfold PySem.W.codeIn;dsimp only;rw[RK,g1];dsimp only;have g4:vs.toList[1]?=O (.str x t):=by rw[Array.getElem?_toList];exact g3
   cases hv:vs.toList with
   |nil=>rw[hv]at g4;cases g4
   |cons v0 r=>
    rw[hv]at g4;cases r with
    |nil=>cases g4
    |cons v1 r=>cases g4;exact beq_self_eq_true _
  .unfold PySem.W.keepIn
   dsimp only;rw[RK,h2]
 |_=>rw[hs]at hn;cases hn
theorem AZ{K:Frag}{x qual y:Str}{st:Stmt}{f:UD}{fd:UE}(F:Fun K x qual st f fd)
  (hb:∀(kV doc pm:UA)(an:xz)(cdv ct v:UA),bindArgs (PySem.W.fnOf x qual (SK st) (WC st) (Yk st) .none kV doc pm an cdv ct) ⟨[v],[]⟩=pure [(y,v)]) (s:UB) (v:UA):BindsTo s fd ⟨[v],[]⟩ [(y,v)]:=by
 obtain⟨oc,od,kV,doc,pm,an,cdv,ct,osl,rfl,lk,hcd⟩:=F.ex;exact .of_eq (hb kV doc pm an cdv ct v)
noncomputable def RU(q:UC)(loose:List Str)(x:Str):Bool:=
 !startupNames.contains x && !loose.contains x && !((recsOf q).map (·.name)).contains x && !((litsOf q).map (·.1)).contains x && !((clssOf q loose).map (·.name)).contains x
theorem Y7(T:Top q loose mean mg mb h){xs:List Str}(e:xs.all (RU q loose)=xi){x:Str}(hx:x∈xs):mg x=xg:=by have:=Jp.mp e x hx;unfold RU at this;simp only[Jh,Bool.not_eq_true',List.contains_eq_mem,decide_eq_false_iff_not]at this;exact T.free x this.1.1.1.1 this.1.1.1.2 this.1.1.2 this.1.2 this.2
theorem PJ(T:Top q loose mean mg mb h){x:Str}{i:Int}(e:valOf q x=O (.int i)):∃t,mg x=O (.int i t):=by obtain⟨v,h1,h2⟩:=T.const x _ e;have:=h2 h;cases this;exact⟨_,h1⟩
theorem NQ:∀{vs:xo}{ss:List Str},StrsAre vs ss->Vals (ss.map V.str) vs
 |_,_,.nil=>.nil
 |_,_,.cons y t r=>.cons ⟨t,rfl⟩ (NQ r)
theorem AY(B:Tables q w mg h){x:Str}{ss:List Str}(e:tupStrsOf q x=O ss)(hl:ss.length<=1000) :
  ∃ad o its n,mg x=O (.ref ad)/\(whole h).lookup ad=O o/\o.cls=.type "tuple" /\ o.data=.seq its n/\its.size<=UG/\Vals (ss.map V.str) its.toList:=by
 obtain⟨a,vs,h1,⟨o,h2,h3,n,h4⟩,h5⟩:=B.tupS x ss e;have r:=NQ h5;refine⟨a,o,_,n,h1,by rw[RK];exact h2,h3,h4,?_,r⟩;have:=r.length;rw[Qb]at this;have l:(1000:Nat)<=UG:=by decide
 rw[QJ];omega
end
noncomputable def scOk(sc:Scope)(N gl:List Str):Bool:=(N.all λx=>match sc.names.lookup x with|some .local=>xi|some .cell=>xi|_=>xj)&&gl.all λx=>match sc.names.lookup x with|some .globalImplicit=>xi|_=>xj
noncomputable def fnB(sc:Scope)(N gl:List Str):Bool:=decide (sc.kind=.function) && !sc.isCoroutine && !sc.isGenerator&&decide N.Nodup&&(sc.names.all λy=>match y.2 with | .free=>xj|_=>xi)&&scOk sc N gl
structure FnNm(sc:Scope)(N gl:List Str):Prop where
 kind:sc.kind=.function
 co:sc.isCoroutine=xj
 gen:sc.isGenerator=xj
 nd:N.Nodup
 nofree:∀y∈sc.names,y.2≠.free
 nm:∀x∈N,sc.names.lookup x=O .local∨sc.names.lookup x=O .cell
 gl:∀x∈gl,sc.names.lookup x=O .globalImplicit
theorem K7{sc:Scope}{N gl:List Str}(H:fnB sc N gl=xi):FnNm sc N gl:=by
 unfold fnB scOk at H;simp only[Jh,Q8,Bool.not_eq_true',Jp]at H;obtain⟨⟨⟨⟨⟨h1,h2⟩,h3⟩,h4⟩,h5⟩,h6,h7⟩:=H;refine⟨h1,h2,h3,h4,λy hy e=>?_,λx hx=>?_,λx hx=>?_⟩
 .have:=h5 y hy;rw[e]at this;cases this
 .have:=h6 x hx
  split at this
  .rename_i e;exact .inl e
  .rename_i e;exact .inr e
  .cases this
 .have:=h7 x hx
  split at this
  .rename_i e;exact e
  .cases this
section
variable{sc:Scope}{N gl:List Str}{x:Str}
theorem nq(H:FnNm sc N gl):N.Nodup:=H.nd
theorem fq(H:FnNm sc N gl)(n:Nat):Ru N (N.take n) sc:=⟨H.kind,H.co,H.gen,H.nd,by rw[QS,List.take_eq_take_iff];omega,λx hx=>H.nm x (List.mem_of_mem_take hx),H.nofree⟩
theorem lq(H:FnNm sc N gl)(i:Nat)(h:N[i]?=O x:=by rfl):L2.Loc sc x:=H.nm x (Qr h)
theorem gq(H:FnNm sc N gl)(i:Nat)(h:gl[i]?=O x:=by rfl):sc.names.lookup x=O .globalImplicit:=H.gl x (Qr h)
theorem pq{X:Cx}{pos:Pos}(H:FnNm X.env.scope X.N gl)(i:Nat)(h:X.N[i]?=O x:=by rfl)(hd:(x==("__debug__" : Str))=xj:=by decide)(hc:(x==("__classdict__" : Str))=xj:=by decide):PE X (.Name x pos) (Zy i):=
 Mb h ((H.nm x (Qr h)).elim .inl λz=>.inr (.inl z)) hd hc
end
theorem Za{q p:UC}{loose:List Str}{mean:ExcName->xr}{mg mb:Str->xr}{h:Heap}{ix:xx}(P:UC)(w:World)(base:Heap){ps:List Str}{k n:Nat}{F:xk->xn}(T:Top q loose mean mg mb h)(e:recsOf q=Ro p ix)(i:Nat)(x:Str)(hi:ix.contains i=xi)(hn:Oa (ZK p i)=O x)
  (ok:∀{f:UD}{fd:UE},Fun (whole h) x x (ZK p i) f fd->FnOk P w (whole h) mg base CX0 k f fd ps (spD (whole h) n F))
  (hb:∀(kV doc pm:UA)(an:xz)(cdv ct:UA)(us:xo),us.length=ps.length->bindArgs (PySem.W.fnOf x x (SK (ZK p i)) (WC (ZK p i)) (Yk (ZK p i)) .none kV doc pm an cdv ct) ⟨us,[]⟩=pure (ps.zip us)):Def P w (whole h) mg base x k n F:=by
 obtain⟨f,fd,m,FU⟩:=Mk T e i x hi hn;exact Def.mk m FU (FU.binds hb) (ok FU)
section
variable{X:Cx}{B G0:Hp}{e:UF}{pos:Pos}{es:xp}
theorem pdf{k kk n:Nat}{F:xk->xn}{g:M xk}{x:Str}{p2:Pos}(d:Def X.prog X.w X.K X.mg X.base x k n F)(hr:Room kk X.A)(hg:Gl X x)(ha:PA X (e::es) (tDs X.K B G0 g))(hk:k<=kk:=by decide)(hn:(e::es).length=n:=by rfl)
  (hdb:(x==("__debug__" : Str))=xj:=by decide) (he:UI (e::es) X.env=(xj,eval e X.env)::UI es X.env:=by rfl) (hpl:(backTo pos (UI es X.env)).any (·.1)=xj:=by rfl) :
  PE X (.Call (.Name x p2) (e::es) [] pos) (tD X.K B G0 (Kb n F g)):=DE d (hr.mono hk) hg ha hn hdb he hpl
end
theorem FE{q p:UC}{loose:List Str}{mean:ExcName->xr}{mg mb:Str->xr}{h:Heap}{ix:xx}{P:UC}{w:World}{k:Nat}{F:xk->xn}{y:Str}{fa:UD}(T:Top q loose mean mg mb h)(e:recsOf q=Ro p ix)(i:Nat)(x:Str)(hi:ix.contains i=xi)(hn:Oa (ZK p i)=O x)(hfa:mg x=O (.ref fa))
  (hb:∀(kV doc pm:UA)(an:xz)(cdv ct v:UA),bindArgs (PySem.W.fnOf x x (SK (ZK p i)) (WC (ZK p i)) (Yk (ZK p i)) .none kV doc pm an cdv ct) ⟨[v],[]⟩=pure [(y,v)])
  (ok:∀(base:Heap){f:UD}{fd:UE},Fun (whole h) x x (ZK p i) f fd->FnOk P w (whole h) mg base CX0 k f fd [y] (spD (whole h) 1 F)) :
  ∃fd:UE,(∀(s:UB)(v:UA),BindsTo s fd ⟨[v],[]⟩ [(y,v)])/\∀base:Heap,FnOk P w (whole h) mg base CX0 k fa fd [y] (spD (whole h) 1 F):=by
 obtain⟨f,fd,m,FU⟩:=Mk T e i x hi hn;cases hfa.symm.trans m;exact⟨fd,AZ FU hb,λbase=>ok base FU⟩
theorem BM{l:PySem.W.OpenLaw}{n k:Nat}{q:UC}{loose:List Str}{XP:(Str->xr)->Heap->Prop}{YP:World->Heap->Prop}{d:DefRec}{F:xk->xn}{x:Str}
  (hn:l.most=O n) (hn2:n<=UG) (hdf:d.params.defaults=[]) (hr:Room k callerA)
  (hF:∀(w:World)(s₀:UB)(mg mb:Str->xr)(fa:UD)(h:Heap),PySem.W.Ground q loose [] XP w s₀ mg mb h->mg d.name=O (.ref fa) ->
   ∃fd:UE,(∀(s:UB)(u:UA),BindsTo s fd ⟨[u],[]⟩ [(x,u)])/\∀base:Heap,FnOk l.prog w (whole h) mg base CX0 k fa fd [x] (spD (whole h) 1 F))
  (hl:∀ns:xm,ns.length<=n->F [.list (ns.map int)]=O (.bool xi)) :
  PySem.W.WalkO q loose XP YP l.row.toRowW d [] (λf vs=>PySem.call f vs):=by
 refine Att.attach_call hn hdf λw s₀ s₁ mg mb fa o pm cd doc a vs ns G Y ho hd hcd hmg hobj hints hlen hg=>?_
 obtain⟨fd,hb,hF⟩:=hF w s₀ mg mb fa _ G hmg;exact AH (BN _) G.T.g G.T.b G.T.builtins G.T.nolimit hg hobj hints (QR hlen hn2) hr (λbase _ _=>hF base) hb (λH hO hS=>F8 hS (hl ns hlen)) λH e s' z=>z
end DL
namespace L2
open PySem PySem.Spec PyProof.Rows
end L2
namespace DL
open PySem PySem.Spec L2
open PyProof.Rows hiding St
end DL
namespace DL
open PySem PySem.Spec L2 PySem.SeqAt PySem.AutoSeq1
open PyProof.Rows hiding St
end DL
namespace DL
open PySem PySem.Spec L2
open PyProof.Rows hiding St
end DL
namespace L2
open PySem PySem.Spec PyProof.Rows
end L2
namespace DL
open PySem PySem.Spec L2
open PyProof.Rows hiding St
end DL
namespace L2
open PySem PySem.Spec PyProof.Rows
end L2
namespace DL
open PySem PySem.Spec L2
open PyProof.Rows hiding St
end DL
namespace L2
open PySem PySem.Spec PyProof.Rows
end L2
namespace DL
open PySem PySem.Spec L2
open PyProof.Rows hiding St
theorem EOk.lent{K:Frag}{B G0 G H:Hp}{σ:St}{Z:U0}(k:EOk K B G0 G H σ Z):EOk K H H H H σ (Yn Z) where
 bh:=.refl _
 gh:=.refl _
 g0:=.refl _
 np:=λ_ _ e n=>by rw[n]at e;cases e
 len:=by unfold Yn;rw[Qb];exact k.len
 pub:=λi d e=>by
  rcases HA e with e2|⟨ds,rfl,e2⟩|⟨p,e2⟩
  .exact k.tree (by unfold Rp;rw[e2])
  .exact k.tree (by unfold Rp;rw[e2])
  .exact k.tree (by unfold Rp;rw[e2])
 own:=λi ds e=>(SQ e).elim
 sep:=λi j a ds es e=>(SQ e).elim
 dp:=.of (λ_ _ _ q=>Gx q) λ_ _ q=>SQ q
end DL
namespace L2
open PySem PySem.Spec PyProof.Rows
end L2
namespace DL
open PySem PySem.Spec L2
open PyProof.Rows hiding St
end DL
namespace L2
open PySem PySem.Spec PyProof.Rows
end L2
namespace DL
open PySem PySem.Spec L2
open PyProof.Rows hiding St
noncomputable def isT:Option HO->Bool
 |some (.tup _)=>xi
 |some (.frz _ (.tup _))=>xi
 |_=>xj
theorem Eu{u:MO}:isT (O u.ho)=xj:=by cases u<;>rfl
noncomputable def ZH(fp:xw)(G H:Hp):Hp:=λb=>if b∈fp∨isT (H b)=xi then H b else G b
section
variable{K:Frag}{B G0 G H:Hp}{fp:xw}
theorem AX(gh:Same G H):Same G (ZH fp G H):=λb o e=>by
 unfold ZH;split
 .exact gh b o e
 .exact e
theorem D5(gh:Same G H):Same (ZH fp G H) H:=λb o e=>by
 unfold ZH at e;split at e
 .exact e
 .exact gh b o e
theorem MI{b:UD}(h:b∈fp∨isT (H b)=xi):ZH fp G H b=H b:=by unfold ZH;rw[Qo h]
theorem MH{b:UD}(h:b∉fp)(h2:isT (H b)=xj):ZH fp G H b=G b:=by
 unfold ZH;rw[Qv];rintro(z|z)
 .exact h z
 .rw[h2]at z;cases z
theorem Ext.pubT{G' H':Hp}(ex:Ext G H G' H')(fr:∀a∈fp,H a=xg):Ext G H (ZH fp G' H') H':=
 ⟨ex.h,ex.g.trans (AX ex.gh),D5 ex.gh,λa u e n=>by rw[MH (λm=>by rw[fr a m]at e;cases e) (by rw[ex.h a _ e];exact Eu)];exact ex.np a u e n⟩
noncomputable def nl0:D->Bool
 |.tuple ds=>ds.all flat
 |d=>flat d
theorem Rep.nl{G' G2 H':Hp}{v:V}{d:D}(r:Rep K G' v d)(h:nl0 d=xi)(gh:Same G' H'):Rep K (ZH fp G2 H') v d:=by
 cases r with
 |tup hs rr=>
  refine .tup ?_ (rr.flat h);rcases hs with (hs|⟨o,hs⟩)|hs
  .have:=gh _ _ hs
   exact .inl (.inl ((MI (.inr (by rw[this];rfl))).trans this))
  .have:=gh _ _ hs
   exact .inl (.inr ⟨o,(MI (.inr (by rw[this];rfl))).trans this⟩)
  .exact .inr hs
 |non=>exact .non
 |bl b=>exact .bl b
 |int i=>exact .int i
 |str x=>exact .str x
 |lst _ _=>cases h
 |dic _=>cases h
 |exc _ _ _ _=>cases h
 |dct _ _ _ _ _=>cases h
 |dtt _ _ _ _=>cases h
theorem Reps.nl{G' G2 H':Hp}(gh:Same G' H'):∀{vs:List V}{ds:xk},Reps K G' vs ds->ds.all nl0=xi->Reps K (ZH fp G2 H') vs ds
 |_,_,.nil,_=>.nil
 |_,_,.cons r t,h=>by rw[List.all_cons,Jh]at h;exact .cons (r.nl h.1 gh) (Reps.nl gh t h.2)
end
noncomputable def Ws(f:M xk):M xk:=λZ=>match f (Yn Z)with
 |.ok ds _=>if ds.all nl0=xi then .ok ds Z else .bad
 |.bad=>.bad
section
variable{Z Z1 Z2 Z':U0}{pt:Pat}
theorem BL{f:M xk}{ds:xk}(h:f (Yn Z)=.ok ds Z')(hf:ds.all nl0=xi):Ws f Z=.ok ds Z:=by unfold Ws;rw[h];dsimp only;rw[if_pos hf]
end
theorem NewL.back{K:Frag}{B G0 G H G' H':Hp}{σ:St}{Z Z1:U0}{ad:UD}{vs:List V}{ds:xk}(k:EOk K B G0 G H σ Z)(k':EOk K H H G' H' σ Z1)(n:NewL K H G' H' σ Z1 ad vs ds)(hf:ds.all nl0=xi) :
  EOk K B G0 (ZH [] G H') H' σ Z/\Same G (ZH [] G H')/\NewL K B (ZH [] G H') H' σ Z ad vs ds:=by
 have ex:Ext G H G H':=⟨k'.bh,.refl _,k.gh.trans k'.bh,λ_ _ _ n=>n⟩;have ex2:Ext G H (ZH [] G H') H':=ex.pubT (λa m=>by cases m);refine⟨k.ext ex2,ex2.g,⟨k.bh.free n.b,?_,n.h,n.r.nl k'.gh hf,λj es q w=>?_,λj pt d v fp q s r=>k.freshD k'.bh n.b q s r⟩⟩
 .rw[MH (by simp) (by rw[n.h];rfl)]
  exact k.gh.free n.b
 .obtain⟨b,us,g1,g2,g3,g4,g5⟩:=k.own j es q
  rw[g1]at w;cases w;rw[n.b]at g4;cases g4
section
variable{X:Cx}{B G0:Hp}{KX:XW}
theorem FD{l:Bool}{y:Str}{j:Nat}{py:Pos}{spos:Pos}{tg elt iter:UF}{ifs:xp}{gs:List Comprehension}{scope:Scope}{pos:Pos}{N2:List Str}{k:Nat}{f:M xk}{s:D->U0->xu}{t:M Bool}{rd:RdB}(hN:X.N.Nodup)(hj:X.N[j]?=O y)(hy:X.env.scope.names.lookup y=O .local)(hc:X.calm=xi)
  (hi:∀B' G',PI X tg iter (iD X.K B' G' f)) (xB:YC X N2 scope (.ListComp elt (⟨tg,iter,ifs,0⟩::gs) scope pos) tg ifs s t rd) (hb:Ss X.env.scope scope X.N N2 k) (hs:∀x,UY iter X.env x=pure x:=by intro _;rfl)
  (hsw:swapsWith (.ListComp elt (⟨tg,iter,ifs,0⟩::gs) scope pos) (O (.Name y py)) spos.line X.env=pure xi:=by rfl) :
  PS X (.Assign [.Name y py] (.ListComp elt (⟨tg,iter,ifs,0⟩::gs) scope pos) spos) (tS X.K B G0 KX (Zg j (Ws (dCG l f k s t rd)))):=by
 intro pins s0 σ H Dn I ⟨G,Z,k0,a⟩;unfold Zg sB Ws at a;cases z:dCG l f k s t rd (Yn Z)with
 |bad=>rw[z]at a;exact a.elim
 |ok es Z1=>
 rw[z]at a;dsimp only at a;by_cases hnl:es.all nl0=xi
 case neg=>rw[Qv hnl]at a;exact a.elim
 rw[Qo hnl]at a;dsimp only at a;by_cases hl:j<Z.length
 .rw[Qo hl]at a
  obtain⟨ds,ZF,zf,zl,hfl⟩:=Os z;rw[exec_Assign_Name_used _ _ _ _ hsw];refine Qe (Jv (Qe ?_));show UH _ X.A (do let _ ←comprehension (.ListComp elt (⟨tg,iter,ifs,0⟩::gs) scope pos) scope X.env _ (newList []) xj (eval iter X.env) (O (assign (.Name y py) X.env))) _ _ s0;refine Qe (QO (O1 (use:=O (assign (.Name y py) X.env)) (Qc:=λ_ s'=>SP X pins Dn .next s') hc (hi H H) xB hb hs I k0.lent zf zl hfl λC D vs G' H' s4 m I7 hm hC hL hz hcl hp k' s' n=>?_) (λ_ s' hq=>Qn (Qn hq)) λ_ _ e=>e);show UH _ X.A (assign (.Name y py) X.env (.ref D)) _ _ s4;refine wpAny_assign_Name (Nb I7 hN hj (.inl hy) (v:=.ref D) xf (λs5 I8 ⟨ad,sb,hx⟩=>?_) (.inr hy))
  have hCa:C≠ad:=by
   rcases hx with e|e
   .rw[e];exact hL
   .exact Ne.symm (hcl y ad e)
  refine⟨m,hm.sameBut sb hCa,λh' vh=>⟨_,H',I8.turned (t':=s5.toks) (it:=C) (λb o hb e=>(vh.2 b hb).trans e) hC hL (.inr hz) hcl hp,?_⟩⟩;obtain⟨k2,s2,n2⟩:=NewL.back k0 k' n hnl;exact a _ _ H' (k2.setOwn n2 hl) s2
 .rw[Qv hl]at a;exact a.elim
theorem AW{F F':M xk}(h:∀Z es Z',F Z=.ok es Z'->F' Z=.ok es Z')(Z:U0)(es:xk)(Z':U0)(e:Ws F Z=.ok es Z'):Ws F' Z=.ok es Z':=by
 unfold Ws at e⊢;cases z:F (Yn Z)with
 |bad=>rw[z]at e;cases e
 |ok ds Z1=>rw[z]at e;rw[h _ _ _ z];exact e
theorem FC{l:Bool}{y:Str}{j:Nat}{py:Pos}{spos:Pos}{tg elt iter:UF}{ifs:xp}{gs:List Comprehension}{scope:Scope}{pos:Pos}{f:M xk}{s:D->U0->xu}{t:M Bool}{rd:RdB}{F:M xk}(SC:Scope)(N1 N2:List Str)(k:Nat)(le:∀Z es Z',F Z=.ok es Z'->dCG l f k s t rd Z=.ok es Z')(hN:X.N.Nodup)(hj:X.N[j]?=O y)(hy:X.env.scope.names.lookup y=O .local)(hc:X.calm=xi)
  (hi:∀B' G',PI X tg iter (iD X.K B' G' f)) (xB:YC X N2 scope (.ListComp elt (⟨tg,iter,ifs,0⟩::gs) scope pos) tg ifs s t rd) (h1:X.env.scope=SC) (h2:X.N=N1) (hb:Vy Sr SC scope N1 N2 k=xi) (hs:∀x,UY iter X.env x=pure x:=by intro _;rfl)
  (hsw:swapsWith (.ListComp elt (⟨tg,iter,ifs,0⟩::gs) scope pos) (O (.Name y py)) spos.line X.env=pure xi:=by rfl) :
  PS X (.Assign [.Name y py] (.ListComp elt (⟨tg,iter,ifs,0⟩::gs) scope pos) spos) (tS X.K B G0 KX (Zg j (Ws F))):=
 ZL (FD hN hj hy hc hi xB (by rw[h1,h2];exact Oq hb) hs hsw) λ_ _ _ q=>Mp (AW le) q
end
noncomputable def SE(f:M D):M Bool:=Kn f λx=>match x with | .list ds=>U5 (!ds.isEmpty)|_=>λ_=>.bad
noncomputable def Wg:Nat:=10 ^ 60
section
variable{X:Cx}{B G0:Hp}{e:UF}
theorem kg{α β:Type}{xs:List α}{ys:List β}(h:xs.length=ys.length):xs.isEmpty=ys.isEmpty:=by cases xs<;>cases ys<;>first|rfl|(simp at h)
theorem D4{f:M D}(h:PE X e (tD X.K B G0 f))(he:∀whole,isTrue e X.env whole=(do let v ←whole;standAt e.pos;holding [v] (truthy v)):=by intro _;rfl):PT X e (tBo X.K B G0 (SE f)):=
 YK (AM h he) λσ H Q q=>tM.one (R:=Rep X.K) q λv H2 G Z x k r a=>by
  cases x with
  |list ds=>obtain⟨l,vs,rfl,h1,r1⟩:=r.lst_inv;refine⟨!vs.isEmpty,.inl ⟨vs,k.gh.seq h1,rfl⟩,?_⟩;exact aft.now (v:=!vs.isEmpty) a k (by rw[kg r1.length])
  |_=>exact a.elim
theorem PH{f:M D}{Z Z1:U0}{ds:xk}(h1:f Z=.ok (.list ds) Z1):SE f Z=.ok (!ds.isEmpty) Z1:=by unfold SE;exact K4 h1 xf
end
end DL
namespace L2
open PySem PySem.Spec PyProof.Rows PySem.Calls PyProof.V
end L2
namespace DL
open PySem PySem.Spec L2
open PyProof.Rows hiding St
noncomputable def tgN:UF->List Str
 |.Name x _=>[x]
 |.Tuple [.Name x _] _ _=>[x]
 |.Tuple [.Name x _,.Name y _] _ _=>[x,y]
 |.Tuple [.Name x _,.Name y _,.Name z _] _ _=>[x,y,z]
 |.Tuple [.Name x _,.Name y _,.Name z _,.Name u _] _ _=>[x,y,z,u]
 |_=>[]
noncomputable def adN(vs:List Str):List Str->List Str
 |[]=>vs
 |x::r=>adN (if vs.elem x then vs else vs++[x]) r
noncomputable def Tg(vs:List Str):List Comprehension->List Str
 |[]=>vs
 |⟨tg,_,_,_⟩::r=>Tg (adN vs (tgN tg)) r
noncomputable def dotN(x:Str):Str:=("." : Str)++x
noncomputable def blN(N:List Str)(gs:List Comprehension):List Str:=N.map (λx=>if(Tg [] gs).elem x then dotN x else x)++Tg [] gs
noncomputable def glN(sc:Scope):List Str:=sc.names.filterMap λy=>match y.2 with | .globalImplicit=>O y.1|_=>xg
abbrev NmF(s:Stmt)(N:List Str):Prop:=FnNm (Yk s) N (glN (Yk s))
theorem mq{α:Type}{l:List α}{x:α}(n:Nat)(h:l[n]?=O x):x∈l:=Qr h
section
variable{sc:Scope}{N gl:List Str}{x:Str}
theorem gA(H:FnNm sc N gl)(h:gl.elem x=xi):sc.names.lookup x=O .globalImplicit:=H.gl x (by simpa using h)
end
section
variable{X:Cx}{B G0:Hp}{KX:XW}{e e1 e2 o a b c i:UF}{gl:List Str}{pos p2:Pos}{x:Str}{j:Nat}
theorem FA(H:FnNm X.env.scope X.N gl)(hi:X.N[j]?=O x:=by rfl)(hf:X.fn x=xi∨X.env.scope.names.lookup x=O .local:=by first|exact .inl rfl|exact .inr rfl|assumption):PG X (.Name x pos) (tG X.K B G0 (gN j)):=Wo (Wp H.nd hi (lq H j hi) hf)
theorem Et{N':List Str}{scope:Scope}{cl:List (Str×UD)}{C:UD}{s₀:UB}{H₀:Hp}{ex:xw}(hN:N'.Nodup:=by decide +kernel)(hi:N'[j]?=O x:=by rfl)(hl:locK (scope.names.lookup x)=xi:=by rfl):PG (X.blk N' scope cl C s₀ H₀ ex) (.Name x pos) (tG X.K B G0 (gN j)):=Wo (Wp hN hi (SG hl).1 (SG hl).2)
theorem aSet{f:M D}(H:FnNm X.env.scope X.N gl)(he:PE X e (tD X.K B G0 f))(hi:X.N[j]?=O x:=by rfl)(hs:swapsWith e (O (.Name x p2)) pos.line X.env=pure xj:=by rfl)
  (hf:X.fn x=xi∨X.env.scope.names.lookup x=O .local:=by first|exact .inl rfl|exact .inr rfl|assumption):PS X (.Assign [.Name x p2] e pos) (tS X.K B G0 KX (Km j f)):=F9 H.nd hi (lq H j hi) he hs hf
theorem NP{f:M xk}(H:FnNm X.env.scope X.N gl)(he:PE X e (tL X.K B G0 f))(hi:X.N[j]?=O x:=by rfl)(hs:swapsWith e (O (.Name x p2)) pos.line X.env=pure xj:=by rfl)
  (hf:X.fn x=xi∨X.env.scope.names.lookup x=O .local:=by first|exact .inl rfl|exact .inr rfl|assumption):PS X (.Assign [.Name x p2] e pos) (tS X.K B G0 KX (Zg j f)):=Li H.nd hi (lq H j hi) he hs hf
theorem aAug{op:Operator}{p:Int->Int->xn}{f:M D}{pos':Pos}(H:FnNm X.env.scope X.N gl)(ho:IpD X op p)(he:PE X e (tD X.K B G0 f))(hi:X.N[j]?=O x:=by rfl)(hf:X.fn x=xi∨X.env.scope.names.lookup x=O .local:=by first|exact .inl rfl|exact .inr rfl|assumption):PS X (.AugAssign (.Name x pos') op e pos) (tS X.K B G0 KX (Xw p j f)):=Ew H.nd hi (lq H j hi) ho he hf
theorem Fz{l:Bool}{tg elt iter:UF}{ifs:xp}{gs:List Comprehension}{scope:Scope}{f:M xk}{s:D->U0->xu}{t:M Bool}{rd:RdB}{F:M xk}{k:Nat}{SC:Scope}{N1:List Str}(H:FnNm SC N1 gl)(le:∀Z es Z',F Z=.ok es Z'->dCG l f k s t rd Z=.ok es Z')(hc:X.calm=xi)
  (hi:PI X tg iter (iD X.K B G0 f)) (xB:YC X (blN N1 (⟨tg,iter,ifs,0⟩::gs)) scope (.ListComp elt (⟨tg,iter,ifs,0⟩::gs) scope pos) tg ifs s t rd) (hb:Vy Sr SC scope N1 (blN N1 (⟨tg,iter,ifs,0⟩::gs)) k=xi) (h1:X.env.scope=SC:=by rfl) (h2:X.N=N1:=by rfl) (hs:∀x,UY iter X.env x=pure x:=by intro _;rfl) :
  PE X (.ListComp elt (⟨tg,iter,ifs,0⟩::gs) scope pos) (tL X.K B G0 F):=FR _ _ _ k le hc hi xB h1 h2 hb hs
theorem Fy{l:Bool}{y:Str}{py spos:Pos}{tg elt iter:UF}{ifs:xp}{gs:List Comprehension}{scope:Scope}{f:M xk}{s:D->U0->xu}{t:M Bool}{rd:RdB}{F:M xk}{k:Nat}{SC:Scope}{N1:List Str}(H:FnNm SC N1 gl)(le:∀Z es Z',F Z=.ok es Z'->dCG l f k s t rd Z=.ok es Z')(hc:X.calm=xi)
  (hi:PI X tg iter (iD X.K B G0 f)) (xB:YC X (blN N1 (⟨tg,iter,ifs,0⟩::gs)) scope (.ListComp elt (⟨tg,iter,ifs,0⟩::gs) scope pos) tg ifs s t rd) (hb:Vy Sr SC scope N1 (blN N1 (⟨tg,iter,ifs,0⟩::gs)) k=xi) (hj:N1[j]?=O y:=by rfl) (hy:SC.names.lookup y=O .local:=by rfl) (h1:X.env.scope=SC:=by rfl) (h2:X.N=N1:=by rfl) (hs:∀x,UY iter X.env x=pure x:=by intro _;rfl)
  (hsw:swapsWith (.ListComp elt (⟨tg,iter,ifs,0⟩::gs) scope pos) (O (.Name y py)) spos.line X.env=pure xi:=by rfl) :
  PS X (.Assign [.Name y py] (.ListComp elt (⟨tg,iter,ifs,0⟩::gs) scope pos) spos) (tS X.K B G0 KX (Zg j F)):=sD_1 _ _ _ k le (h2 ▸ H.nd) (h2 ▸ hj) (h1 ▸ hy) hc hi xB h1 h2 hb hs hsw
end
end DL
namespace DL
open PySem PySem.Spec L2
open PyProof.Rows hiding St
open Builtin Builtin.Str
end DL
namespace DL
open PySem PySem.Spec L2
open PyProof.Rows hiding St
end DL
namespace DL
open PySem PySem.Spec L2
open PyProof.Rows hiding St
open PySem.SeqRoads2 PySem.SeqAt
end DL
namespace DL
open PySem PySem.Spec L2
open PyProof.Rows hiding St
end DL
namespace L2
open PySem PySem.Spec PyProof.Rows
end L2
namespace DL
open PySem PySem.Spec L2
open PyProof.Rows hiding St
end DL
namespace DL
open PySem PySem.Spec L2
open PyProof.Rows hiding St
open PySem.SeqRoads2 PySem.SeqAt
end DL
namespace DL
open PySem PySem.Spec L2
open PyProof.Rows hiding St
section
variable{X:Cx}{B G0:Hp}{KX:XW}{e e':UF}{es es':xp}{st st':Stmt}{sts vK:List Stmt}{pos p2:Pos}{x:Str}{j:Nat}{gl:List Str}
theorem BK{g h:SM}(q:st::sts=vK)(h1:PS X st (tS X.K B G0 KX g))(h2:PSs X sts (tS X.K B G0 KX h)):PSs X vK (tS X.K B G0 KX (U7 g h)):=q ▸ SH h1 h2
theorem Es{f:M xk}(q:Stmt.Assign [.Name x p2] e pos=st')(H:FnNm X.env.scope X.N gl)(he:PE X e (tL X.K B G0 f))(hi:X.N[j]?=O x:=by rfl)(hs:swapsWith e (O (.Name x p2)) pos.line X.env=pure xj:=by rfl)
  (hf:X.fn x=xi∨X.env.scope.names.lookup x=O .local:=by first|exact .inl rfl|exact .inr rfl|assumption):PS X st' (tS X.K B G0 KX (Zg j f)):=q ▸ NP H he hi hs hf
theorem BJ{f:M xk}(q:Expr.List es pos=e')(h:PA X es (tDs X.K B G0 f)):PE X e' (tL X.K B G0 (Kn f λxs=>if xs.length<=1000000 then U5 xs else λ_=>.bad)):=q ▸ Lh h
theorem AV{f:M D}{g:M xk}(q:e::es=es')(ha:PE X e (tD X.K B G0 f))(hr:PA X es (tDs X.K B G0 g))(hs:UI (e::es) X.env=(xj,eval e X.env)::UI es X.env:=by rfl):PA X es' (tDs X.K B G0 (U2 f g)):=q ▸ Xk ha hr hs
end
section
variable{X:Cx}{B G0:Hp}{KX:XW}{a b e e':UF}{es es':xp}{st st':Stmt}{sts vK:List Stmt}{pos p2:Pos}{x:Str}{j:Nat}{gl:List Str}
theorem Fx{f:M D}(q:Stmt.Assign [.Name x p2] e pos=st')(H:FnNm X.env.scope X.N gl)(he:PE X e (tD X.K B G0 f))(hi:X.N[j]?=O x:=by rfl)(hs:swapsWith e (O (.Name x p2)) pos.line X.env=pure xj:=by rfl)
  (hf:X.fn x=xi∨X.env.scope.names.lookup x=O .local:=by first|exact .inl rfl|exact .inr rfl|assumption):PS X st' (tS X.K B G0 KX (Km j f)):=q ▸ aSet H he hi hs hf
theorem BI{f:M xk}(q:Expr.List es pos=e')(h:PA X es (tDs X.K B G0 f)):PE X e' (tD X.K B G0 (Kx f)):=q ▸ Ot h
theorem BH{x1}{f:M xk}(q:Expr.Tuple es x1 pos=e')(h:PA X es (tDs X.K B G0 f)):PE X e' (tD X.K B G0 (KQ f)):=q ▸ Pm h
theorem Mj{op:Operator}{p:D->D->xn}{f g:M D}(o:OpD X (binaryOp op) p)(q:Expr.BinOp a op b pos=e')(ha:PE X a (tD X.K B G0 f))(hb:PE X b (tD X.K B G0 g)):PE X e' (tD X.K B G0 (U6 p f g)):=q ▸ Vq o ha hb
end
noncomputable def Wk(b:UD×xm):List (UD×xm)->UD×xm
 |[]=>b
 |p::r=>Wk (if HT.Z7 b.2 p.2=xi then p else b) r
noncomputable def Wv(b:xm):List xm->xm
 |[]=>b
 |p::r=>Wv (if HT.Z7 b p=xi then p else b) r
theorem MG:∀(cs:List (UD×xm))(b:UD×xm),(Wk b cs).2=Wv b.2 (cs.map (·.2))
 |[],b=>rfl
 |p::r,b=>by
  show(Wk (if HT.Z7 b.2 p.2=xi then p else b) r).2=Wv (if HT.Z7 b.2 p.2=xi then p.2 else b.2) (r.map (·.2))
  rw[MG r];by_cases h:HT.Z7 b.2 p.2=xi
  .rw[Qo h,Qo h]
  .rw[Qv h,Qv h]
theorem HL:∀{cs ds:List (UD×xm)}{b:UD×xm},b∈ds->(∀p∈cs,p∈ds)->Wk b cs∈ds
 |[],_,_,h,_=>h
 |p::r,_,b,h,k=>HL (cs:=r) (by
   by_cases z:HT.Z7 b.2 p.2=xi
   .rw[Qo z];exact k p (Qk ..)
   .rw[Qv z];exact h) λq m=>k q (Qi _ m)
section
variable{prog:UC}{w:World}{A:Around}{R:Result->UB->Prop}{h0:Heap}{l I S:UD}{cs:List (UD×xm)}
theorem AU(hh:A.in1.handled=xg)(hu:A.in1.units<cLine)(hI:h0.objs.size<=I)(hS:h0.objs.size<=S)(hIS:S≠I)(hl:h0.IsList l (cs.map λp=>Value.ref p.1).toArray)(hr:∀p∈cs,∃its,Ls h0 p.1 its/\IntsAre its p.2) :
  ∀(k i:Nat)(s:UB)(b:UD×xm)(c:Nat),cs.length-i=k->i<=cs.length->b∈cs->ZW h0 s.heap->s.heap.IsListIter I l i ->
   s.heap.get? S=O {cls:=.type "list", dict:=xg,data:=.seq #[.ref b.1,.ref b.1] c,slots:=#[]} ->
   (∀h' tk,ZW h0 h'->R (.ok (.ret (.ref (Wk b (cs.drop i)).1))) {s with heap:=h',toks:=tk}) ->
   codeAny (model prog w) A (.builtin "max.loop" ⟨[.ref I,.none,.ref S],[]⟩) R s:=by
 have nm:(toString "max" ++ toString ".loop" : String) = "max.loop" :=by decide
 intro k;induction k with
 |zero=>
  intro i s b c hk hi hb hK hit xO hR;have hin:i=cs.length:=by omega
  subst hin;have hl':s.heap.IsList l (cs.map λp=>Value.ref p.1).toArray:=by obtain⟨o,e,r⟩:=hl;exact⟨o,hK _ _ e,r⟩
  refine Jk F.entry_max_loop ?_;rw[Jm JH _];show UH _ A.in1 (seqItems? (.ref S) >>= _) _ _ s;refine Qe (wpAny_seqItems xO xf ?_);show UH _ A.in1 (tryCatch (pyNext (.ref I)) _ >>= _) _ _ s;refine wpAny_bind (wpAny_tryCatch (wpAny_pyNext_list_end hh hit hl' (by simp) λh' ex=>?_));have hS':=ex S _ hIS xO;show UH _ A.in1 (updateSeq S (λ_=>#[]) >>= _) _ _ _;refine Qe (wpAny_updateSeq hS' xf (Qe (wpAny_letGo (Qn ?_))));rw[List.drop_length]at hR;refine hR _ _ λx o e=>?_;have hx:=Qh e
  exact(Q4 _ _ (Js (Qz hx hS))).trans (ex x o (QN (Qz hx hI)) (hK x o e))
 |succ k ih=>
  intro i s b c hk hi hb hK hit xO hR;have hlt:i<cs.length:=by omega
  have hl':s.heap.IsList l (cs.map λp=>Value.ref p.1).toArray:=by obtain⟨o,e,r⟩:=hl;exact⟨o,hK _ _ e,r⟩
  have hd:cs.drop i=cs[i]'hlt::cs.drop (i+1):=QQ hlt;have hm:cs[i]'hlt∈cs:=JP hlt;have hx:(cs.map λp=>Value.ref p.1).toArray[i]?=O (.ref (cs[i]'hlt).1):=by simp[hlt]
  generalize cs[i]'hlt=p at hd hm hx;rw[hd]at hR;refine Jk F.entry_max_loop ?_;rw[Jm JH _];show UH _ A.in1 (seqItems? (.ref S) >>= _) _ _ s;refine Qe (wpAny_seqItems xO xf ?_);show UH _ A.in1 (tryCatch (pyNext (.ref I)) _ >>= _) _ _ s;refine Qe (wpAny_tryCatch (wpAny_pyNext_list_item (x:=.ref p.1) hit hl' hx λh' xJ sb=>?_));have vv:ZW h0 h':=λb o e=>(sb.2 b (QN (Qz (Qh e) hI))).trans (hK b o e);have hS':=(sb.2 S hIS).trans xO
  obtain⟨us,q1,i1⟩:=hr p hm;obtain⟨vs,q2,i2⟩:=hr b hb;show UH _ A.in1 (tryCatch (holding [Value.ref p.1,Value.ref p.1] (richCompare .Gt (.ref p.1) (.ref b.1) >>= _)) _ >>= _) _ _ _;refine Qe (wpAny_tryCatch (Jw (Qe (HT.kh (q1.kept vv).isList (q2.kept vv).isList i1 i2 hu ?_))));refine Qe (Jw (QX (Qe (wpAny_letGo (Qn ?_)))));cases z:HT.Z7 b.2 p.2 with
  |true=>
   simp only[if_true];refine Qe (wpAny_updateSeq hS' xf (Qe (wpAny_letGo ?_)));rw[nm];refine Qn ⟨JJ JH _,ih (i+1) _ p _ (by omega) hlt hm (λx o e=>?_) ?_ (Heap.get?_update_self _ hS' xf) λh'' tk hk''=>?_⟩
   .exact(Q4 _ _ (Js (Qz (Qh e) hS))).trans (vv x o e)
   .obtain⟨o,e,r⟩:=xJ
    exact⟨o,(Q4 _ _ hIS).trans e,r⟩
   .have:=hR h'' tk hk''
    unfold Wk at this;rw[Qo z]at this;exact this
  |false=>simp only[JX,Uy];refine Qe (wpAny_letGo ?_);rw[nm];refine Qn ⟨JJ JH _,ih (i+1) _ b _ (by omega) hlt hb vv xJ hS' λh'' tk hk''=>?_⟩;have:=hR h'' tk hk'';unfold Wk at this;rw[Qv (by rw[z];decide)]at this;exact this
theorem jI{p:UD×xm}{s:UB}(hh:A.in1.handled=xg)(hu:A.in1.units<cLine)(hI:h0.objs.size<=I)(hS:h0.objs.size<=S)(hIS:S≠I)(hl:h0.IsList l ((p::cs).map λp=>Value.ref p.1).toArray)(hr:∀q∈p::cs,∃its,Ls h0 q.1 its/\IntsAre its q.2)
  (hK:ZW h0 s.heap) (hit:s.heap.IsListIter I l 0) (xO:s.heap.get? S=O {cls:=.type "list", dict:=xg,data:=.seq #[] 0,slots:=#[]})
  (hR:∀h' tk,ZW h0 h'->R (.ok (.ret (.ref (Wk p cs).1))) {s with heap:=h',toks:=tk}) :
  codeAny (model prog w) A (.builtin "max.loop" ⟨[.ref I,.none,.ref S],[]⟩) R s:=by
 have nm:(toString "max" ++ toString ".loop" : String) = "max.loop" :=by decide
 have hl':s.heap.IsList l ((p::cs).map λp=>Value.ref p.1).toArray:=by obtain⟨o,e,r⟩:=hl;exact⟨o,hK _ _ e,r⟩
 refine Jk F.entry_max_loop ?_;rw[Jm JH _];show UH _ A.in1 (seqItems? (.ref S) >>= _) _ _ s;refine Qe (wpAny_seqItems xO xf ?_);show UH _ A.in1 (tryCatch (pyNext (.ref I)) _ >>= _) _ _ s;refine wpAny_bind (wpAny_tryCatch (wpAny_pyNext_list_item (x:=.ref p.1) hit hl' (by simp) λh' xJ sb=>?_));have vv:ZW h0 h':=λb o e=>(sb.2 b (QN (Qz (Qh e) hI))).trans (hK b o e);have hS':=(sb.2 S hIS).trans xO;show UH _ A.in1 (updateSeq S (λ_=>#[Value.ref p.1,Value.ref p.1]) >>= _) _ _ _;refine Qe (wpAny_updateSeq hS' xf ?_);rw[nm];refine wpAny_pure ⟨plainId_quiet F.plain_max_loop _,AU hh hu hI hS hIS hl hr _ 1 _ p _ xf (by simp) (List.mem_cons_self ..) (λx o e=>?_) ?_ (Heap.get?_update_self _ hS' xf) λh'' tk hk''=>?_⟩
 .exact(Q4 _ _ (Js (Qz (Qh e) hS))).trans (vv x o e)
 .obtain⟨o,e,r⟩:=xJ
  exact⟨o,(Q4 _ _ hIS).trans e,r⟩
 .exact hR h'' tk hk''
end
section
variable{prog:UC}{w:World}{A:Around}{E:UA->UB->Prop}{s:UB}{l:UD}{cs:List (UD×xm)}{p:UD×xm}
theorem AT{Q:UA->UB->Prop}(hh:A.handled=xg)(hu:A.in1.units<cLine)(hl:s.heap.IsList l ((p::cs).map λp=>Value.ref p.1).toArray)(hr:∀q∈p::cs,∃its,Ls s.heap q.1 its/\IntsAre its q.2)
  (h:∀h' tk,ZW s.heap h'->Q (.ref (Wk p cs).1) {s with heap:=h',toks:=tk}):UH (model prog w) A (call (.builtin "max") [.ref l]) Q E s:=by
 have nm:(toString "max" ++ toString ".loop" : String) = "max.loop" :=by decide
 refine call_function_tree F.kind_max F.plain_max F.entry_max (F.args_max1 _) ?_;show UH _ A.in1 (Builtin.Builtins.bindParams "max" ["key", "default"] 0 ⟨[],[]⟩ >>= _) _ _ s;refine Qe (wpAny_of_eq (show Builtin.Builtins.bindParams "max" ["key", "default"] 0 ⟨[],[]⟩=pure [xg,xg]from rfl) (Qe (Qn (Qe (JF hl (Qe (wpAny_newObj_type ?_)))))));rw[nm];have s1:(s.heap.push {cls:=.type "list_iterator", data:=.fields #[.ref l,.int 0 0]}).objs.size=s.heap.objs.size+1:=JE ..
 refine Qn ⟨JJ JH _,jI (h0:=s.heap) (l:=l) (I:=s.heap.objs.size) (cs:=cs) (p:=p) hh hu (Qs _) (by rw[s1];exact JW _) (by rw[s1];exact Nat.succ_ne_self _) hl hr
  (λb o e=>Ql _ (Ql _ e)) ⟨_,Ql _ (QB _ xf),rfl,rfl⟩ (QB _ xf) λh' tk hk=>h h' tk hk⟩
end
noncomputable def Wz:xk->Option (List xm)
 |[]=>O []
 |.list xs::r=>(match YE xs,Wz r with
  |some ns,O rs=>O (ns::rs)
  |_,_=>xg)
 |_=>xg
theorem kf(ns:List xm):Wz (ns.map λr=>.list (r.map .int))=O ns:=by
 induction ns with
 |nil=>rfl
 |cons b r ih=>rw[Qu];unfold Wz;rw[SX,ih]
theorem kJ{K:Frag}{G:Hp}:∀{ds:xk}{vs:List V}{ns:List xm},Reps K G vs ds->Wz ds=O ns ->
  ∃cs:List (UD×xm),vs=(cs.map λp=>V.ref p.1)/\(∀p∈cs,SqL K G p.1 (p.2.map V.int))/\cs.map (·.2)=ns:=by
 intro ds;induction ds with
 |nil=>intro vs ns h e;cases h;cases e;exact⟨[],rfl,(λ_ h=>by cases h),rfl⟩
 |cons d r ih=>
  intro vs ns h e;cases h with
  |cons h t=>
  cases d with
  |list xs=>
   unfold Wz at e;cases z1:YE xs with
   |none=>rw[z1]at e;cases e
   |some n1=>
   rw[z1]at e;cases z2:Wz r with
   |none=>rw[z2]at e;cases e
   |some n2=>
   rw[z2]at e;cases e;obtain⟨cs,rfl,h1,rfl⟩:=ih t z2;obtain⟨a,ws,rfl,q,rr⟩:=h.lst_inv;have e2:=SY rr z1;subst e2;refine⟨(a,n1)::cs,rfl,λp hp=>?_,rfl⟩;rcases QL.1 hp with rfl|hp
   .exact q
   .exact h1 p hp
  |_=>cases e
section
variable{X:Cx}
theorem jH(hc:X.calm=xi)(hu:X.A.units+64<cLine):YO X (.builtin "max") (λxs H Q=>∃l p cs,xs=[.ref l]/\SqL X.K H l ((p::cs).map λp=>V.ref p.1)/\(∀q∈p::cs,SqL X.K H q.1 (q.2.map V.int))/\Q (.ref (Wk p cs).1) H):=by
 intro pins s σ H xs us Q I rx h;obtain⟨l,p,cs,rfl,hq,hr,q⟩:=h;obtain⟨u,rfl,ru⟩:=rx.one;cases ru;obtain⟨its,rv,pl, -⟩:=I.list hq;have ei:its=(p::cs).map λp=>Value.ref p.1:=by have:=O8 (as:=(p::cs).map (·.1)) (us:=its) (by rw[QW];exact rv);rw[this,QW];rfl
 subst ei;refine AT (I.ok.hd hc) (by rw[Around.in1_units];omega) pl.isList (λr hm=>?_) λh' tk hk=>⟨.ref _,H,I.kept hk,rfl,q⟩
 obtain⟨its,rv,⟨⟨c1,d1,t1,sl⟩,n,e1,ec,ed,et⟩, -⟩:=I.list (hr r hm);simp only at ec ed et;subst ec ed et;exact⟨its,⟨n,sl,e1⟩,jm rv⟩
noncomputable def V0:xk->xn
 |[.list ds]=>(match Wz ds with
  |some (n::ns)=>O (.list ((Wv n ns).map .int))
  |_=>xg)
 |_=>xg
theorem jG{xs:xk}{d:D}(h:V0 xs=O d):∃ds n ns,xs=[.list ds]/\Wz ds=O (n::ns)/\d=.list ((Wv n ns).map .int):=by
 unfold V0 at h;split at h
 .rename_i ds
  cases z:Wz ds with
  |none=>rw[z]at h;cases h
  |some w=>
   rw[z]at h;cases w with
   |nil=>cases h
   |cons n ns=>cases h;exact⟨ds,n,ns,rfl,z,rfl⟩
 .cases h
theorem CC(hc:X.calm=xi)(hu:X.A.units+64<cLine):Y3 X (.builtin "max") V0:=by
 refine⟨_,jH hc hu,λvs G H ds d Q s r e k=>?_⟩;obtain⟨ds,n,ns,rfl,z,rfl⟩:=jG e;obtain⟨v,rfl,q1⟩:=r.one_inv;obtain⟨l,ws,rfl,h1,r1⟩:=q1.lst_inv;obtain⟨cs,rfl,h2,h3⟩:=kJ r1 z;cases cs with
 |nil=>cases h3
 |cons p cs=>
 cases h3;refine⟨l,p,cs,rfl,s.seq h1,λq hq=>s.seq (h2 q hq),k _ G H (.refl s) ?_⟩;have e2:=MG cs p;have hm:=h2 _ (HL (cs:=cs) (ds:=p::cs) (b:=p) (Qk ..) λq hq=>Qi _ hq);rw[←e2];exact .lst hm (Nn _)
theorem AS{n:xm}{ns:List xm}:V0 [.list ((n::ns).map λr=>.list (r.map .int))]=O (.list ((Wv n ns).map .int)):=by unfold V0;simp only[kf]
end
section
variable{X:Cx}{B G0:Hp}{e o:UF}{es:xp}
noncomputable def VE(y x:D):xn:=match y with
 |.list ds=>if(x.canLay0=xi/\UQ ds=xi/\x.depth<=60)/\(ds.findIdx λy=>US y x)<ds.length/\ds.length<=1000000 then O (.int ((ds.findIdx λy=>US y x:Nat):Int))else xg
 |_=>xg
theorem AR(hu:X.A.units+64<cLine):MtR X "list.index" (λv vs H Q=>∃G u y x d,vs=[u]/\Same G H/\Rep X.K G v y/\Rep X.K G u x/\VE y x=O (.int d)/\Q (.int d) H):=by
 intro pins s σ H x xs v us Q I rx rs h;obtain⟨G,u,dy,dx,d,rfl,sg,py,px,e,q⟩:=h;obtain⟨w,rfl,vo⟩:=rs.one;unfold VE at e;split at e
 .rename_i ds
  split at e
  .rename_i c
   obtain⟨c,hj,hz⟩:=c;obtain⟨bs,rb⟩:=YW I sg py rx (show UQ _=xi from c.2.1);obtain⟨as,ra⟩:=YW I sg px vo c.1;cases rb with
   |list h1 h2 h3 h4=>
    rename_i l ob its cs n;obtain⟨cls,dd,data,sl⟩:=ob;simp only at h2 h3;subst h2 h3;have key:ds=its.toList.map (SeqAt.readOf s.heap):=(SeqAt.readsAll_map ds _ _ c.2.1 h4).symm;have hl:ds.length=its.size:=by rw[key,Qb,Jx]
    have tx:∀(i:Nat)(hi:i<its.size)(hi':i<ds.length),SeqAt.readOf s.heap its[i]=ds[i]:=λi hi hi'=>by simp only[key,JQ,Array.getElem_toList]
    cases e
    refine call_meets PySem.F.slot_list_index ⟨_,h1,rfl⟩ PySem.F.entry_list_index (PySem.F.args_list_index_2 _ _)
     (SeqAt.list_indexAt l its _ dd sl _ (λy=>US (SeqAt.readOf s.heap y) dx) (ds.findIdx λy=>US y dx) (by omega) (by omega) ?_ λm hm hlt=>?_) ⟨h1,SeqAt.items_eqAt h4 ra c.2.1 c.1 (by have:=c.2.2;omega),?_⟩
    .show US (SeqAt.readOf s.heap its[_]) dx=xi
     rw[tx _ (by omega) hj];exact List.findIdx_getElem (w:=hj)
    .show US (SeqAt.readOf s.heap its[m]) dx=xj
     rw[tx m hm (by omega)];have:=List.not_of_lt_findIdx hlt;simpa using this
    .exact⟨.int _,H,I.tok _,⟨_,rfl⟩,q⟩
  .cases e
 .cases e
noncomputable def OD(y:D)(xs:xk):xn:=match xs with
 |[x]=>VE y x
 |_=>xg
theorem ke{ds xs:xk}{d:D}(h:OD (.list ds) xs=O d):∃x n,xs=[x]/\d=.int n/\VE (.list ds) x=O (.int n):=by
 unfold OD at h;split at h
 .rename_i x
  have h':=h;unfold VE at h;dsimp only at h;split at h
  .cases h;exact⟨x,_,rfl,rfl,h'⟩
  .cases h
 .cases h
noncomputable def Pi(f:M D)(g:M xk):M D:=Kn f λy=>Kn g λxs=>Ko (match y with | .list ds=>OD (.list ds) xs|_=>xg)
theorem jF{apos cpos:Pos}{f:M D}{g:M xk}(hu:X.A.units+64<cLine)(ho:PE X o (tD X.K B G0 f))(ha:PA X (e::es) (tDs X.K B G0 g))
  (hbase:attributeBase o "index" X.env (eval o X.env)=eval o X.env:=by rfl)
  (hfew:((backTo cpos (UI (e::es) X.env)).all (λx=>!x.1)&&(backToKw cpos (keywordEach [] X.env)).all (λx=>x.1.isSome)
   && decide ((e::es).length+([]:List Keyword).length+(if([]:List Keyword).isEmpty then 0 else 1)<30))=xi:=by rfl)
  (hline:(apos.endLine==cpos.line)=xi:=by rfl) (hs:UI (e::es) X.env=(xj,eval e X.env)::UI es X.env:=by rfl) (hplain:(backTo cpos (UI es X.env)).any (·.1)=xj:=by rfl) :
  PE X (.Call (.Attribute o "index" apos) (e::es) [] cpos) (tD X.K B G0 (Pi f g)):=
 KG (RX F.plainAttrs_list F.slot_list_index F.type_list_index (AR hu) ho ha hbase hfew hline hs hplain) λσ H Q q=>by
  refine tM.one (R:=Rep X.K) q λv H2 G Z y k r a=>?_
  cases y with
  |list ds=>
   obtain⟨l,ws,rfl,h1,r1⟩:=r.lst_inv;refine⟨.inl ⟨rfl,ws,k.gh.seq h1⟩,?_⟩;refine tM.nx (R:=Reps X.K) k a λxs H3 G3 Z3 es k3 s3 r3 a3=>?_
   obtain⟨d,e,a3⟩:=a3.opt;obtain⟨x,n,rfl,rfl,e'⟩:=ke e;obtain⟨u,rfl,ru⟩:=r3.one_inv;exact⟨G3,u,.list ds,x,n,rfl,k3.gh,r.mono s3,ru,e',aft.now a3 k3 (.int _)⟩
  |_=>
   unfold Kn at a;cases z:g Z with
   |bad=>rw[z]at a;exact a.elim
   |ok xs Z1=>rw[z]at a;exact a.elim
theorem AQ{f:M D}{g:M xk}{Z Z1 Z2:U0}{ds:xk}{x d:D}(h1:f Z=.ok (.list ds) Z1)(h2:g Z1=.ok [x] Z2)(h3:VE (.list ds) x=O d):Pi f g Z=.ok d Z2:=by unfold Pi;exact K4 h1 (K4 h2 (Yl h3))
end
end DL
namespace W
open PySem PySem.Spec L2 DL
open PyProof.Rows hiding St
noncomputable def top(i:Nat):Stmt:=PySem.Challenge.pw_wishdeal_k42_best_of_all_small.main.body.getD i (.Pass ⟨0,0,0,0⟩)
abbrev GG(s:Stmt)(x:Str):Prop:=(Yk s).names.lookup x=O NameKind.globalImplicit
abbrev VV(s:Stmt)(x:Str):Prop:=L2.Vis (Yk s) x
abbrev LL(s:Stmt)(x:Str):Prop:=L2.Loc (Yk s) x
theorem vk{s:Stmt}{x:Str}(h:(Yk s).names.lookup x=O .local∨(Yk s).names.lookup x=O .cell∨(Yk s).names.lookup x=O .free):VV s x:=h
theorem lk{s:Stmt}{x:Str}(h:(Yk s).names.lookup x=O .local∨(Yk s).names.lookup x=O .cell):LL s x:=h
structure Txt(K:Frag)(mg:Str->xr):Prop where
 b_all:mg "all" = xg
 b_bool:mg "bool" = xg
 b_enumerate:mg "enumerate" = xg
 b_int:mg "int" = xg
 b_isinstance:mg "isinstance" = xg
 b_len:mg "len" = xg
 b_list:mg "list" = xg
 b_max:mg "max" = xg
 b_range:mg "range" = xg
 b_set:mg "set" = xg
 b_sorted:mg "sorted" = xg
 b_str:mg "str" = xg
 b_sum:mg "sum" = xg
 b_tuple:mg "tuple" = xg
 b_zip:mg "zip" = xg
 c_MOST_ASKERS:∃t,mg "MOST_ASKERS" = O (Value.int 7 t)
 c_MOST_COPIES:∃t,mg "MOST_COPIES" = O (Value.int 7 t)
 c_MOST_RANKS:∃t,mg "MOST_RANKS" = O (Value.int 5 t)
 c_MOST_THINGS:∃t,mg "MOST_THINGS" = O (Value.int 6 t)
 c_ORDERS:∃ad o its n,mg "ORDERS" = O (.ref ad)/\K.lookup ad=O o/\o.cls=.type "tuple" /\ o.data=.seq its n/\its.size<=UG/\Vals ((["firsts", "full", "lasts"]:List Str).map V.str) its.toList
noncomputable abbrev Sbl:Stmt:=top 56
noncomputable abbrev N_bl:List Str:=["_law_script", "_law_k"]
theorem Hbl:NmF Sbl N_bl:=K7 (by decide +kernel)
noncomputable def WN:SM:=
 U7 (sIf (ZA (oIB λi j=>decide (i<j)) 1 (Zv 0))
 (Kh (Kj 0 (UZ 1)))
 (sNx))
 (Kh (U5 (.int 0)))
noncomputable def Y2:xk->xn:=Kq N_bl WN
noncomputable abbrev Sbu:Stmt:=top 65
noncomputable abbrev N_bu:List Str:=["_law_wishes_here", "_law_lists", "_law_ranks"]
theorem Hbu:NmF Sbu N_bu:=K7 (by decide +kernel)
noncomputable def Ld:SM:=
 ZG 1 (Ke UM (ZB (Zb (UZ 2)) 1 (gN 3) (U5 xi) (Ke UM (VC 3))))
noncomputable def Tl:SM:=
 U7 (Zg 1 (Kn (U1) λxs=>if xs.length<=1000000 then U5 xs else λ_=>.bad))
 (U7 (KI (Zb (Kj 0 (U5 (.int 1)))) (gN 2) Ld)
 (Kh (KQ (U2 (Ke UM (Kn (U2 (Kj 0 (U5 (.int 0))) (U1)) λxs=>Ko (Xh xs))) (U2 (UZ 1) (U1))))))
noncomputable def Wb:xk->xn:=Kq N_bu Tl
noncomputable abbrev Sbh:Stmt:=top 50
noncomputable abbrev N_bh:List Str:=["askers", "worths", "prices", "asks", "asker", "thing", "worth"]
theorem Hbh:NmF Sbh N_bh:=K7 (by decide +kernel)
noncomputable def Lc:SM:=
 VT 3 (UZ 4) (Zt Rf (U2 (Kj 3 (UZ 4)) (U2 (U6 Zc (UZ 6) (Kj 2 (UZ 5))) (U1))))
noncomputable def Tz:SM:=
 U7 (Zg 3 (VQ (Kx (U2 (U5 (.int 0)) (U1))) (UZ 0)))
 (U7 (KI (Zb (UZ 1)) (gT 3 (gNC (gN 4) (gNC (gN 5) (gNC (gN 6) (gN0))))) Lc)
 (Kh (UZ 3)))
noncomputable def W0:xk->xn:=Kq N_bh Tz
noncomputable abbrev Saw:Stmt:=top 39
noncomputable abbrev N_aw:List Str:=["nothing", "got"]
theorem Haw:NmF Saw N_aw:=K7 (by decide +kernel)
noncomputable def TQ:SM:=
 Kh (mIf (Ke isNon (UZ 1)) (UZ 0) (UZ 1))
noncomputable def Wd:xk->xn:=Kq N_aw TQ
noncomputable abbrev Sax:Stmt:=top 40
noncomputable abbrev Sn:List Str:=["nothing", "worths", "dealing", "had", "asker", "thing", "worth", "told"]
theorem Hax:FnNm (Yk Sax) Sn ["place_of", "enumerate", "len"]:=K7 (by decide +kernel)
noncomputable def Lb:SM:=
 sIf (U6 oNe (Kj 2 (UZ 4)) (UZ 5))
 (ZG 7 (KQ (U2 (Kb 2 Wd (U2 (UZ 0) (U2 (Kj 2 (UZ 4)) (U1)))) (U2 (UZ 5) (U2 (U6 Zc (UZ 6) (Kj 3 (UZ 4))) (U2 (UZ 4) (U1)))))))
 (sNx)
noncomputable def La:SM:=
 sIf (U6 oEq (Kj 2 (UZ 4)) (UZ 5))
 (VT 3 (UZ 4) (UZ 6))
 (sNx)
noncomputable def TN:SM:=
 U7 (Zg 3 (VQ (Kx (U2 (U5 (.int 0)) (U1))) (Zv 2)))
 (U7 (KI (Zb (UZ 1)) (gT 3 (gNC (gN 4) (gNC (gN 5) (gNC (gN 6) (gN0))))) La)
 (U7 (Zg 7 (Ws (ZB (YS (U2 (UZ 2) (U1))) 2 (gT 2 (gNC (gN 8) (gNC (gN 9) (gN0)))) (Ke (λd=>!isNon d) (UZ 9)) (KQ (U2 (UZ 9) (U2 (UZ 0) (U2 (Ye (Kj 3 (UZ 8))) (U2 (UZ 8) (U1)))))))))
 (U7 (KI (Zb (UZ 1)) (gT 3 (gNC (gN 4) (gNC (gN 5) (gNC (gN 6) (gN0))))) Lb)
 (Kh (UZ 7)))))
noncomputable def W8:xk->xn:=Kq Sn TN
noncomputable abbrev Saa:Stmt:=top 1
noncomputable abbrev N_aa:List Str:=["thing"]
theorem Haa:NmF Saa N_aa:=K7 (by decide +kernel)
noncomputable def Sg:SM:=
 Kh (XV (Ke (λd=>.bool (Ze d "int")) (UZ 0)) (RQ (Ke (λd=>.bool (Ze d "bool")) (UZ 0))))
noncomputable def Vo:xk->xn:=Kq N_aa Sg
noncomputable abbrev Sab:Stmt:=top 2
noncomputable abbrev N_ab:List Str:=["thing", "many"]
theorem Hab:NmF Sab N_ab:=K7 (by decide +kernel)
noncomputable def Sf:SM:=
 Kh (XV (Kb 1 Vo (U2 (UZ 0) (U1))) (Ke UN (VW (oIB λi j=>decide (i<=j)) (oIB λi j=>decide (i<j)) (U5 (.int 0)) (UZ 0) (UZ 1))))
noncomputable def ZX:xk->xn:=Kq N_ab Sf
noncomputable abbrev Sad:Stmt:=top 13
noncomputable abbrev N_ad:List Str:=["thing", "things"]
theorem Had:NmF Sad N_ad:=K7 (by decide +kernel)
noncomputable def Sd:SM:=
 U7 (sIf (mOr (Zd (Yg (Ke (λd=>.bool (Ze d "list")) (UZ 0)))) (U6 oEq (Zv 0) (U5 (.int 0))))
 (Kh (U5 (.bool xj)))
 (sNx))
 (Kh (Zt Yq (U2 (Ke UM (ZB (Zb (UZ 0)) 1 (gN 2) (U5 xi) (Kb 2 ZX (U2 (UZ 2) (U2 (UZ 1) (U1)))))) (U1))))
noncomputable def Wf:xk->xn:=Kq N_ad Sd
noncomputable abbrev Sae:Stmt:=top 14
noncomputable abbrev N_ae:List Str:=["thing", "things", "wished"]
theorem Hae:NmF Sae N_ae:=K7 (by decide +kernel)
noncomputable def Sc:SM:=
 U7 (sIf (mOr (Zd (Yg (Ke (λd=>.bool (Ze d "list")) (UZ 0)))) (U6 (oIB λi j=>decide (j<i)) (Zv 0) (U5 (.int 5))))
 (Kh (U5 (.bool xj)))
 (sNx))
 (U7 (sIf (Zd (Yg (Zt Yq (U2 (Ke UM (ZB (Zb (UZ 0)) 1 (gN 3) (U5 xi) (Kb 2 Wf (U2 (UZ 3) (U2 (UZ 1) (U1)))))) (U1)))))
 (Kh (U5 (.bool xj)))
 (sNx))
 (U7 (Zg 2 (Rm (Zb (UZ 0)) 2 (gN 3) (U5 xi) (Zb (UZ 3)) (gN 4) (U5 xi) (UZ 4)))
 (Kh (Ke UN (U6 oEq (Zt WA (U2 (UZ 2) (U1))) (Zv 2))))))
noncomputable def Vm:xk->xn:=Kq N_ae Sc
noncomputable abbrev Saf:Stmt:=top 15
noncomputable abbrev N_af:List Str:=["lists", "things", "asker", "ranks"]
theorem Haf:NmF Saf N_af:=K7 (by decide +kernel)
noncomputable def M9:SM:=
 sIf (Zd (Yg (Kb 2 Vm (U2 (UZ 3) (U2 (UZ 1) (U1))))))
 (Wr)
 (sNx)
noncomputable def Sb:SM:=
 U7 (sIf (mOr (Zd (Yg (Ke (λd=>.bool (Ze d "list")) (UZ 0)))) (Zd (VW (oIB λi j=>decide (i<=j)) (oIB λi j=>decide (i<=j)) (U5 (.int 1)) (Zv 0) (U5 (.int 7)))))
 (Wr)
 (sNx))
 (KI (YS (U2 (UZ 0) (U1))) (gT 2 (gNC (gN 2) (gNC (gN 3) (gN0)))) M9)
noncomputable def Vl:xk->xn:=Kq N_af Sb
noncomputable abbrev Sac:Stmt:=top 12
noncomputable abbrev N_ac:List Str:=["copies", "number", "many"]
theorem Hac:NmF Sac N_ac:=K7 (by decide +kernel)
noncomputable def M8:SM:=
 sIf (Zd (Yg (Kb 2 ZX (U2 (UZ 2) (U2 (U6 Kf (U5 (.int 7)) (U5 (.int 1))) (U1))))))
 (Wr)
 (sNx)
noncomputable def Se:SM:=
 U7 (sIf (mOr (Zd (Yg (Ke (λd=>.bool (Ze d "list")) (UZ 0)))) (Zd (VW (oIB λi j=>decide (i<=j)) (oIB λi j=>decide (i<=j)) (U5 (.int 1)) (Zv 0) (U5 (.int 6)))))
 (Wr)
 (sNx))
 (KI (YS (U2 (UZ 0) (U1))) (gT 2 (gNC (gN 1) (gNC (gN 2) (gN0)))) M8)
noncomputable def Vn:xk->xn:=Kq N_ac Se
noncomputable abbrev Sag:Stmt:=top 16
noncomputable abbrev N_ag:List Str:=["thing", "copies", "lists"]
theorem Hag:NmF Sag N_ag:=K7 (by decide +kernel)
noncomputable def Sa:SM:=
 U7 (sIf (mOr (Zd (Yg (Ke (λd=>.bool (Ze d "tuple")) (UZ 0)))) (U6 oNe (Zv 0) (U5 (.int 2))))
 (Wr)
 (sNx))
 (U7 (Z8 (UZ 0) (gT 2 (gNC (gN 1) (gNC (gN 2) (gN0)))))
 (U7 (XU (Kb 1 Vn (U2 (UZ 1) (U1))))
 (XU (Kb 2 Vl (U2 (UZ 2) (U2 (Zv 1) (U1)))))))
noncomputable def YD:xk->xn:=Kq N_ag Sa
noncomputable abbrev Sak:Stmt:=top 21
noncomputable abbrev N_ak:List Str:=["wishes", "dealing"]
theorem Hak:NmF Sak N_ak:=K7 (by decide +kernel)
noncomputable def T6:SM:=
 U7 (XU (Kb 1 YD (U2 (UZ 0) (U1))))
 (Kh (Ke UM (ZB (YS (U2 (Kj 0 (U5 (.int 0))) (U1))) 2 (gT 2 (gNC (gN 2) (gNC (gN 3) (gN0)))) (U5 xi) (U6 Zc (UZ 3) (Sy (UZ 1) (U2 (UZ 2) (U1)))))))
noncomputable def Vh:xk->xn:=Kq N_ak T6
noncomputable abbrev Say:Stmt:=top 41
noncomputable abbrev N_ay:List Str:=["wishes", "dealing", "nothing", "left", "to_nothing"]
theorem Hay:NmF Say N_ay:=K7 (by decide +kernel)
noncomputable def TM:SM:=
 U7 (Km 2 (Zt Kt (U2 (Kj 0 (U5 (.int 0))) (U1))))
 (U7 (Km 3 (Kb 2 Vh (U2 (UZ 0) (U2 (UZ 1) (U1)))))
 (U7 (Zg 4 (ZB (YS (U2 (UZ 3) (U1))) 2 (gT 2 (gNC (gN 5) (gNC (gN 6) (gN0)))) (ZA (oIB λi j=>decide (j<i)) 6 (U5 (.int 0))) (KQ (U2 (UZ 5) (U2 (UZ 2) (U2 (U5 (.int 0)) (U2 (U5 .none) (U1))))))))
 (Kh (U6 Kf (UZ 4) (Ke UM (ZB (XT (U2 (UZ 2) (U1))) 1 (gN 5) (U5 xi) (KQ (U2 (UZ 2) (U2 (UZ 5) (U2 (U5 (.int 0)) (U2 (U5 .none) (U1))))))))))))
noncomputable def W7:xk->xn:=Kq N_ay TM
noncomputable abbrev Saz:Stmt:=top 42
noncomputable abbrev N_az:List Str:=["wishes", "worths", "dealing"]
theorem Haz:NmF Saz N_az:=K7 (by decide +kernel)
noncomputable def TL:SM:=
 Kh (U6 Kf (Kb 3 W8 (U2 (Zt Kt (U2 (Kj 0 (U5 (.int 0))) (U1))) (U2 (UZ 1) (U2 (UZ 2) (U1))))) (Kb 2 W7 (U2 (UZ 0) (U2 (UZ 2) (U1)))))
noncomputable def Xf:xk->xn:=Kq N_az TL
noncomputable abbrev Sba:Stmt:=top 43
noncomputable abbrev N_ba:List Str:=["walks", "steps", "told", "step", "ahead", "behind", "gain", "asker", "gained", "walked"]
theorem Hba:NmF Sba N_ba:=K7 (by decide +kernel)
noncomputable def M7:SM:=
 U7 (Z8 (UZ 3) (gT 4 (gNC (gN 4) (gNC (gN 5) (gNC (gN 6) (gNC (gN 7) (gN0)))))))
 (U7 (Z8 (Kj 0 (UZ 4)) (gT 2 (gNC (gN 8) (gNC (gN 9) (gN0)))))
 (sIf (U6 (oIB λi j=>decide (j<i)) (U6 Kf (UZ 8) (UZ 6)) (U6 oIx (Kj 2 (UZ 5)) (U5 (.int 0))))
 (VT 2 (UZ 5) (KQ (U2 (U6 Kf (UZ 8) (UZ 6)) (U2 (U6 Kf (UZ 9) (Kx (U2 (UZ 3) (U1)))) (U1)))))
 (sNx)))
noncomputable def TK:SM:=
 U7 (Zg 2 (VC 0))
 (U7 (KI (Zb (UZ 1)) (gN 3) M7)
 (Kh (UZ 2)))
noncomputable def W6:xk->xn:=Kq N_ba TK
noncomputable abbrev Sbb:Stmt:=top 44
noncomputable abbrev N_bb:List Str:=["places", "steps", "told", "turn"]
theorem Hbb:NmF Sbb N_bb:=K7 (by decide +kernel)
noncomputable def M6:SM:=
 Km 2 (Kb 2 W6 (U2 (UZ 2) (U2 (UZ 1) (U1))))
noncomputable def TJ:SM:=
 U7 (Km 2 (U6 KJ (Kx (U2 (KQ (U2 (U5 (.int 0)) (U2 (Kx (U1)) (U1)))) (U1))) (UZ 0)))
 (U7 (KI (XT (U2 (UZ 0) (U1))) (gN 3) M6)
 (Kh (UZ 2)))
noncomputable def XH:xk->xn:=Kq N_bb TJ
noncomputable abbrev Sbg:Stmt:=top 49
noncomputable abbrev N_bg:List Str:=["wishes", "worths", "dealing", "nothing", "walks"]
theorem Hbg:NmF Sbg N_bg:=K7 (by decide +kernel)
noncomputable def TB:SM:=
 U7 (Km 3 (Zt Kt (U2 (Kj 0 (U5 (.int 0))) (U1))))
 (U7 (Km 4 (Kb 2 XH (U2 (U6 Kf (UZ 3) (U5 (.int 1))) (U2 (Kb 3 Xf (U2 (UZ 0) (U2 (UZ 1) (U2 (UZ 2) (U1))))) (U1)))))
 (Kh (Ke UM (ZB (Zb (Yd (UZ 4) (U5 xg) (Kn (UZ 3) λx=>Ko (YG x)))) 2 (gT 2 (gNC (gN 5) (gNC (gN 6) (gN0)))) (U5 xi) (UZ 5)))))
noncomputable def W3:xk->xn:=Kq N_bg TB
noncomputable abbrev Sbi:Stmt:=top 51
noncomputable abbrev N_bi:List Str:=["wishes", "worths", "dealing", "prices"]
theorem Hbi:NmF Sbi N_bi:=K7 (by decide +kernel)
noncomputable def Tx:SM:=
 U7 (Km 3 (Kb 3 W3 (U2 (UZ 0) (U2 (UZ 1) (U2 (UZ 2) (U1))))))
 (Kh (KQ (U2 (U5 (.int 1)) (U2 (Kb 3 W0 (U2 (Zt Kt (U2 (Kj 0 (U5 (.int 1))) (U1))) (U2 (UZ 1) (U2 (UZ 3) (U1))))) (U2 (UZ 3) (U1))))))
noncomputable def XG:xk->xn:=Kq N_bi Tx
noncomputable abbrev Sbc:Stmt:=top 45
noncomputable abbrev N_bc:List Str:=["walk", "end", "step", "begin"]
theorem Hbc:NmF Sbc N_bc:=K7 (by decide +kernel)
noncomputable def M5:SM:=
 sIf (U6 oEq (U6 oIx (Kj 0 (UZ 3)) (U5 (.int 0))) (Kj 2 (U5 (.int 1))))
 (Kh (Yd (UZ 0) (Kn (UZ 3) λx=>Ko (YG x)) (Kn (U6 Kf (UZ 1) (U5 (.int 1))) λx=>Ko (YG x))))
 (sNx)
noncomputable def M4:SM:=
 KI (XT (U2 (U6 Kf (UZ 1) (U5 (.int 1))) (U1))) (gN 3) M5
noncomputable def TH:SM:=
 U7 (KI (YS (U2 (UZ 0) (U1))) (gT 2 (gNC (gN 1) (gNC (gN 2) (gN0)))) M4)
 (Kh (Kx (U1)))
noncomputable def W5:xk->xn:=Kq N_bc TH
noncomputable abbrev Sbd:Stmt:=top 46
noncomputable abbrev N_bd:List Str:=["nothing", "steps", "begin", "number", "step", "way", "ahead", "behind", "gain", "asker"]
theorem Hbd:NmF Sbd N_bd:=K7 (by decide +kernel)
noncomputable def M0:SM:=
 sIf (Ke (λd=>!isNon d) (UZ 9))
 (ZG 5 (KQ (U2 (UZ 9) (U2 (mIf (ZA oEq 7 (UZ 0)) (U5 .none) (UZ 7)) (U1)))))
 (sNx)
noncomputable def MZ:SM:=
 sIf (U6 oEq (Kj 4 (U5 (.int 0))) (UZ 0))
 (Km 2 (UZ 3))
 (sNx)
noncomputable def TF:SM:=
 U7 (Km 2 (U5 (.int 0)))
 (U7 (KI (YS (U2 (UZ 1) (U1))) (gT 2 (gNC (gN 3) (gNC (gN 4) (gN0)))) MZ)
 (U7 (Zg 5 (Kn (U1) λxs=>if xs.length<=1000000 then U5 xs else λ_=>.bad))
 (U7 (KI (Zb (U6 Kf (Yd (UZ 1) (Kn (UZ 2) λx=>Ko (YG x)) (U5 xg)) (Yd (UZ 1) (U5 xg) (Kn (UZ 2) λx=>Ko (YG x))))) (gT 4 (gNC (gN 6) (gNC (gN 7) (gNC (gN 8) (gNC (gN 9) (gN0)))))) M0)
 (Kh (UZ 5)))))
noncomputable def Wc:xk->xn:=Kq N_bd TF
noncomputable abbrev Sbe:Stmt:=top 47
noncomputable abbrev N_be:List Str:=["wishes", "worths", "dealing", "nothing", "gained", "walk"]
theorem Hbe:NmF Sbe N_be:=K7 (by decide +kernel)
noncomputable def MY:SM:=
 sIf (U6 oEq (Zv 5) (U6 Kf (UZ 3) (U5 (.int 1))))
 (Kh (Kb 2 Wc (U2 (UZ 3) (U2 (Kb 1 W5 (U2 (UZ 5) (U1))) (U1)))))
 (sNx)
noncomputable def TD:SM:=
 U7 (Km 3 (Zt Kt (U2 (Kj 0 (U5 (.int 0))) (U1))))
 (U7 (KI (Zb (Kb 2 XH (U2 (U6 Kf (UZ 3) (U5 (.int 1))) (U2 (Kb 3 Xf (U2 (UZ 0) (U2 (UZ 1) (U2 (UZ 2) (U1))))) (U1))))) (gT 2 (gNC (gN 4) (gNC (gN 5) (gN0)))) MY)
 (Kh (Kx (U1))))
noncomputable def Xe:xk->xn:=Kq N_be TD
noncomputable abbrev Saj:Stmt:=top 19
noncomputable abbrev N_aj:List Str:=["wishes"]
theorem Haj:NmF Saj N_aj:=K7 (by decide +kernel)
noncomputable def T7:SM:=
 U7 (XU (Kb 1 YD (U2 (UZ 0) (U1))))
 (Kh (Zt VR (U2 (Ke UM (Rl (YS (U2 (Kj 0 (U5 (.int 1))) (U1))) 4 (gT 2 (gNC (gN 1) (gNC (gN 2) (gN0)))) (U5 xi) (Zb (UZ 2)) (gN 3) (U5 xi) (Zb (UZ 3)) (gN 4) (U5 xi) (KQ (U2 (UZ 1) (U2 (UZ 4) (U1)))))) (U1))))
noncomputable def Vi:xk->xn:=Kq N_aj T7
noncomputable abbrev Saq:Stmt:=top 31
noncomputable abbrev N_aq:List Str:=["base", "times", "told", "step"]
theorem Haq:NmF Saq N_aq:=K7 (by decide +kernel)
noncomputable def MX:SM:=
 Xw YB 2 (UZ 0)
noncomputable def TY:SM:=
 U7 (Km 2 (U5 (.int 1)))
 (U7 (KI (XT (U2 (UZ 1) (U1))) (gN 3) MX)
 (Kh (UZ 2)))
noncomputable def ZI:xk->xn:=Kq N_aq TY
noncomputable abbrev Sas:Stmt:=top 33
noncomputable abbrev N_as:List Str:=["turns", "base", "asker", "rank", "behind"]
theorem Has:NmF Sas N_as:=K7 (by decide +kernel)
noncomputable def TW:SM:=
 U7 (sIf (ZA Y9 2 (UZ 0))
 (Kh (U5 (.int 0)))
 (sNx))
 (U7 (Km 4 (U6 Zc (U6 Zc (Zv 0) (U5 (.int 1))) (Pa (UZ 0) (U2 (UZ 2) (U1)))))
 (Kh (U6 KJ (U6 Zc (UZ 1) (UZ 3)) (Kb 2 ZI (U2 (UZ 1) (U2 (UZ 4) (U1)))))))
noncomputable def Va:xk->xn:=Kq N_as TW
noncomputable abbrev Sar:Stmt:=top 32
noncomputable abbrev N_ar:List Str:=["order", "base", "most", "rank"]
theorem Har:NmF Sar N_ar:=K7 (by decide +kernel)
noncomputable def TX:SM:=
 U7 (sIf (ZA oEq 0 (U5 (.str "firsts")))
 (Kh (Kb 2 ZI (U2 (UZ 1) (U2 (U6 Zc (UZ 2) (UZ 3)) (U1)))))
 (sNx))
 (U7 (sIf (ZA oEq 0 (U5 (.str "full")))
 (Kh (U6 Kf (Kb 2 ZI (U2 (UZ 1) (U2 (UZ 2) (U1)))) (Kb 2 ZI (U2 (UZ 1) (U2 (U6 Zc (UZ 2) (UZ 3)) (U1))))))
 (sNx))
 (Kh (U6 Zc (Kb 2 ZI (U2 (UZ 1) (U2 (UZ 2) (U1)))) (Kb 2 ZI (U2 (UZ 1) (U2 (U6 Zc (UZ 3) (U5 (.int 1))) (U1)))))))
noncomputable def Vb:xk->xn:=Kq N_ar TX
noncomputable abbrev Sah:Stmt:=top 17
noncomputable abbrev N_ah:List Str:=["ranks", "thing", "number", "rank"]
theorem Hah:NmF Sah N_ah:=K7 (by decide +kernel)
noncomputable def MW:SM:=
 sIf (ZA oIn 1 (UZ 3))
 (Kh (UZ 2))
 (sNx)
noncomputable def T9:SM:=
 U7 (KI (RZ (U2 (UZ 0) (U1))) (gT 2 (gNC (gN 2) (gNC (gN 3) (gN0)))) MW)
 (Kh (U5 (.int 0)))
noncomputable def Vk:xk->xn:=Kq N_ah T9
noncomputable abbrev Sat:Stmt:=top 34
noncomputable abbrev N_at:List Str:=["wishes", "aim", "most", "asker", "thing", "order", "old", "turns", "lists", "rank", "base", "kept", "by_counts"]
theorem Hat:NmF Sat N_at:=K7 (by decide +kernel)
noncomputable def TV:SM:=
 U7 (Z8 (UZ 1) (gT 3 (gNC (gN 5) (gNC (gN 6) (gNC (gN 7) (gN0))))))
 (U7 (Km 8 (Kj 0 (U5 (.int 1))))
 (U7 (Km 9 (Kb 2 Vk (U2 (Kj 8 (UZ 3)) (U2 (UZ 4) (U1)))))
 (U7 (Km 10 (U6 Kf (Zv 8) (U5 (.int 1))))
 (U7 (Km 11 (mIf (Yc (Ke (λd=>!isNon d) (UZ 6)) (U6 oEq (Kj 6 (UZ 3)) (UZ 4))) (U5 (.int 1)) (U5 (.int 0))))
 (U7 (Km 12 (U6 Kf (U6 KJ (Kb 4 Vb (U2 (UZ 5) (U2 (UZ 10) (U2 (UZ 2) (U2 (UZ 9) (U1)))))) (UZ 10)) (UZ 11)))
 (Kh (U6 Kf (U6 KJ (UZ 12) (Kb 2 ZI (U2 (U6 Kf (UZ 2) (U5 (.int 1))) (U2 (Zv 7) (U1))))) (Kb 4 Va (U2 (UZ 7) (U2 (U6 Kf (UZ 2) (U5 (.int 1))) (U2 (UZ 3) (U2 (UZ 9) (U1)))))))))))))
noncomputable def We:xk->xn:=Kq N_at TV
noncomputable abbrev Sai:Stmt:=top 18
noncomputable abbrev N_ai:List Str:=["wishes"]
theorem Hai:NmF Sai N_ai:=K7 (by decide +kernel)
noncomputable def T8:SM:=
 U7 (XU (Kb 1 YD (U2 (UZ 0) (U1))))
 (Kh (Zt VS (U2 (Ke UM (ZB (Zb (Kj 0 (U5 (.int 1)))) 1 (gN 1) (U5 xi) (Zv 1))) (U1))))
noncomputable def Vj:xk->xn:=Kq N_ai T8
noncomputable abbrev Sao:Stmt:=top 28
noncomputable abbrev N_ao:List Str:=["thing", "askers"]
theorem Hao:NmF Sao N_ao:=K7 (by decide +kernel)
noncomputable def T2:SM:=
 U7 (sIf (mOr (Zd (Yg (Ke (λd=>.bool (Ze d "list")) (UZ 0)))) (Zd (Yg (Zt Yq (U2 (Ke UM (ZB (Zb (UZ 0)) 1 (gN 2) (U5 xi) (Kb 2 ZX (U2 (UZ 2) (U2 (UZ 1) (U1)))))) (U1))))))
 (Kh (U5 (.bool xj)))
 (sNx))
 (Kh (Ke UN (U6 oEq (Zt WA (U2 (UZ 0) (U1))) (Zv 0))))
noncomputable def Vd:xk->xn:=Kq N_ao T2
noncomputable abbrev San:Stmt:=top 27
noncomputable abbrev N_an:List Str:=["thing", "askers", "things"]
theorem Han:NmF San N_an:=K7 (by decide +kernel)
noncomputable def T3:SM:=
 U7 (sIf (Ke isNon (UZ 0))
 (Kh (U5 (.bool xi)))
 (sNx))
 (U7 (sIf (mOr (Zd (Yg (Ke (λd=>.bool (Ze d "list")) (UZ 0)))) (U6 oNe (Zv 0) (UZ 1)))
 (Kh (U5 (.bool xj)))
 (sNx))
 (Kh (Zt Yq (U2 (Ke UM (ZB (Zb (UZ 0)) 1 (gN 3) (U5 xi) (X6 (Ke (λd=>.bool (isNon d)) (UZ 3)) (Kb 2 ZX (U2 (UZ 3) (U2 (UZ 2) (U1))))))) (U1)))))
noncomputable def Ve:xk->xn:=Kq N_an T3
noncomputable abbrev Sal:Stmt:=top 24
noncomputable abbrev N_al:List Str:=["thing"]
theorem Hal:NmF Sal N_al:=K7 (by decide +kernel)
noncomputable def T5:SM:=
 Kh (XV (Ke (λd=>.bool (Ze d "str")) (UZ 0)) (Ke UN (ZA oIn 0 (U5 (.tuple ((["firsts", "full", "lasts"]:List Str).map UO))))))
noncomputable def Vg:xk->xn:=Kq N_al T5
noncomputable abbrev Sam:Stmt:=top 25
noncomputable abbrev N_am:List Str:=["thing"]
theorem Ham:NmF Sam N_am:=K7 (by decide +kernel)
noncomputable def T4:SM:=
 sIf (Zd (Yg (Kb 1 Vg (U2 (UZ 0) (U1)))))
 (Wr)
 (sNx)
noncomputable def Vf:xk->xn:=Kq N_am T4
noncomputable abbrev Sap:Stmt:=top 29
noncomputable abbrev N_ap:List Str:=["wishes", "thing", "copies", "lists", "order", "old", "turns"]
theorem Hap:NmF Sap N_ap:=K7 (by decide +kernel)
noncomputable def TZ:SM:=
 U7 (XU (Kb 1 YD (U2 (UZ 0) (U1))))
 (U7 (sIf (mOr (Zd (Yg (Ke (λd=>.bool (Ze d "tuple")) (UZ 1)))) (U6 oNe (Zv 1) (U5 (.int 3))))
 (Wr)
 (sNx))
 (U7 (Z8 (UZ 0) (gT 2 (gNC (gN 2) (gNC (gN 3) (gN0)))))
 (U7 (Z8 (UZ 1) (gT 3 (gNC (gN 4) (gNC (gN 5) (gNC (gN 6) (gN0))))))
 (U7 (XU (Kb 1 Vf (U2 (UZ 4) (U1))))
 (U7 (sIf (Zd (Yg (Kb 3 Ve (U2 (UZ 5) (U2 (Zv 3) (U2 (Zv 2) (U1)))))))
 (Wr)
 (sNx))
 (sIf (Zd (Yg (Kb 2 Vd (U2 (UZ 6) (U2 (Zv 3) (U1))))))
 (Wr)
 (sNx)))))))
noncomputable def Vc:xk->xn:=Kq N_ap TZ
noncomputable abbrev Sau:Stmt:=top 35
noncomputable abbrev N_au:List Str:=["wishes", "aim", "most"]
theorem Hau:NmF Sau N_au:=K7 (by decide +kernel)
noncomputable def TU:SM:=
 U7 (XU (Kb 2 Vc (U2 (UZ 0) (U2 (UZ 1) (U1)))))
 (U7 (Km 2 (Kb 1 Vj (U2 (UZ 0) (U1))))
 (Kh (Ke UM (ZB (Zb (Kb 1 Vi (U2 (UZ 0) (U1)))) 2 (gT 2 (gNC (gN 3) (gNC (gN 4) (gN0)))) (U5 xi) (KQ (U2 (UZ 3) (U2 (UZ 4) (U2 (Kb 5 We (U2 (UZ 0) (U2 (UZ 1) (U2 (UZ 2) (U2 (UZ 3) (U2 (UZ 4) (U1))))))) (U1)))))))))
noncomputable def XI:xk->xn:=Kq N_au TU
noncomputable abbrev Sbk:Stmt:=top 54
noncomputable abbrev N_bk:List Str:=["wishes", "aim", "dealing", "worths", "way"]
theorem Hbk:NmF Sbk N_bk:=K7 (by decide +kernel)
noncomputable def Tv:SM:=
 U7 (Km 3 (Kb 2 XI (U2 (UZ 0) (U2 (UZ 1) (U1)))))
 (U7 (Km 4 (Kb 3 Xe (U2 (UZ 0) (U2 (UZ 3) (U2 (UZ 2) (U1))))))
 (U7 (sIf (SE (UZ 4))
 (Kh (KQ (U2 (U5 (.str "way")) (U2 (UZ 4) (U1)))))
 (sNx))
 (Kh (KQ (U2 (U5 (.str "best")) (U2 (Kb 3 XG (U2 (UZ 0) (U2 (UZ 3) (U2 (UZ 2) (U1))))) (U1)))))))
noncomputable def WY:xk->xn:=Kq N_bk Tv
noncomputable abbrev Sbm:Stmt:=top 57
noncomputable abbrev N_bm:List Str:=["_law_cell", "_law_salt", "_law_sizes", "_law_number", "_law_left", "_law_found", "_law_k", "_law_one"]
theorem Hbm:NmF Sbm N_bm:=K7 (by decide +kernel)
noncomputable def OC:SM:=
 sIf (Yc (ZA (oIB λi j=>decide (j<=i)) 3 (U6 X4 (U5 (.int 10)) (U5 (.int 18)))) (ZA (oIB λi j=>decide (j<i)) 4 (U5 (.int 0))))
 (U7 (ZG 5 (U6 YA (UZ 4) (Kj 2 (UZ 6))))
 (Km 4 (U6 X5 (UZ 4) (Kj 2 (UZ 6)))))
 (U7 (Km 7 (U6 YA (U6 Kf (U6 Kf (U6 Kf (UZ 3) (U6 KJ (U5 (.int 7919)) (UZ 1))) (U6 KJ (U6 KJ (U5 (.int 101)) (UZ 6)) (UZ 6))) (UZ 6)) (U5 (.int 2147483647))))
 (U7 (Km 7 (U6 YA (U6 KJ (UZ 7) (U5 (.int 48271))) (U5 (.int 2147483647))))
 (U7 (Km 7 (U6 YA (U6 KJ (U6 YA (U6 KJ (UZ 7) (UZ 7)) (U5 (.int 2147483629))) (U5 (.int 48271))) (U5 (.int 2147483647))))
 (ZG 5 (U6 YA (U6 X5 (UZ 7) (U5 (.int 16))) (Kj 2 (UZ 6)))))))
noncomputable def Tu:SM:=
 U7 (Km 3 (Zt Rf (U2 (UZ 0) (U2 (U6 Zc (Ye (U5 (.int 1))) (UZ 0)) (U1)))))
 (U7 (Km 4 (UZ 3))
 (U7 (Zg 5 (Kn (U1) λxs=>if xs.length<=1000000 then U5 xs else λ_=>.bad))
 (U7 (KI (XT (U2 (Zv 2) (U1))) (gN 6) OC)
 (Kh (UZ 5)))))
noncomputable def YM:xk->xn:=Kq N_bm Tu
noncomputable abbrev Sbo:Stmt:=top 59
noncomputable abbrev N_bo:List Str:=["_law_wishes_here", "_law_asker", "_law_thing", "_law_k", "_law_row"]
theorem Hbo:NmF Sbo N_bo:=K7 (by decide +kernel)
noncomputable def MV:SM:=
 sIf (ZA oIn 2 (UZ 4))
 (Kh (U6 Kf (UZ 3) (U5 (.int 1))))
 (sNx)
noncomputable def Ts:SM:=
 U7 (KI (YS (U2 (U6 oIx (Kj 0 (U5 (.int 1))) (UZ 1)) (U1))) (gT 2 (gNC (gN 3) (gNC (gN 4) (gN0)))) MV)
 (Kh (U5 (.int 0)))
noncomputable def Y1:xk->xn:=Kq N_bo Ts
noncomputable abbrev Sbp:Stmt:=top 60
noncomputable abbrev N_bp:List Str:=["_law_wishes_here"]
theorem Hbp:NmF Sbp N_bp:=K7 (by decide +kernel)
noncomputable def Tr:SM:=
 Kh (Zt VS (U2 (Ke UM (ZB (Zb (Kj 0 (U5 (.int 1)))) 1 (gN 1) (U5 xi) (Zv 1))) (U1)))
noncomputable def Y0:xk->xn:=Kq N_bp Tr
noncomputable abbrev Sbw:Stmt:=top 67
noncomputable abbrev N_bw:List Str:=["_law_wishes_here", "_law_asker", "_law_thing"]
theorem Hbw:NmF Sbw N_bw:=K7 (by decide +kernel)
noncomputable def Tj:SM:=
 U7 (sIf (Ke isNon (UZ 2))
 (Kh (U6 Kf (Kb 1 Y0 (U2 (UZ 0) (U1))) (U5 (.int 1))))
 (sNx))
 (Kh (Kb 3 Y1 (U2 (UZ 0) (U2 (UZ 1) (U2 (UZ 2) (U1))))))
noncomputable def XF:xk->xn:=Kq N_bw Tj
noncomputable abbrev Sbx:Stmt:=top 68
noncomputable abbrev N_bx:List Str:=["_law_wishes_here", "_law_one", "_law_other", "_law_mine", "_law_theirs"]
theorem Hbx:NmF Sbx N_bx:=K7 (by decide +kernel)
noncomputable def Ti:SM:=
 U7 (Zg 3 (ZB (YS (U2 (UZ 1) (U1))) 2 (gT 2 (gNC (gN 5) (gNC (gN 6) (gN0)))) (U5 xi) (Kb 3 XF (U2 (UZ 0) (U2 (UZ 5) (U2 (UZ 6) (U1)))))))
 (U7 (Zg 4 (ZB (YS (U2 (UZ 2) (U1))) 2 (gT 2 (gNC (gN 5) (gNC (gN 6) (gN0)))) (U5 xi) (Kb 3 XF (U2 (UZ 0) (U2 (UZ 5) (U2 (UZ 6) (U1)))))))
 (Kh (XV (Ke UN (Vu oNe (UZ 3) 4)) (Zt Yq (U2 (Ke UM (ZB (XA (U2 (UZ 3) (U2 (UZ 4) (U1)))) 2 (gT 2 (gNC (gN 5) (gNC (gN 6) (gN0)))) (U5 xi) (Ke UN (ZA (oIB λi j=>decide (i<=j)) 5 (UZ 6))))) (U1))))))
noncomputable def X9:xk->xn:=Kq N_bx Ti
noncomputable abbrev Sav:Stmt:=top 37
noncomputable abbrev N_av:List Str:=["dealing", "way", "told", "asker", "taken"]
theorem Hav:NmF Sav N_av:=K7 (by decide +kernel)
noncomputable def MU:SM:=
 VT 2 (UZ 3) (UZ 4)
noncomputable def TR:SM:=
 U7 (Zg 2 (VC 0))
 (U7 (KI (Zb (UZ 1)) (gT 2 (gNC (gN 3) (gNC (gN 4) (gN0)))) MU)
 (Kh (UZ 2)))
noncomputable def W9:xk->xn:=Kq N_av TR
noncomputable abbrev Sbf:Stmt:=top 48
noncomputable abbrev N_bf:List Str:=["wishes", "worths", "dealing", "way"]
theorem Hbf:NmF Sbf N_bf:=K7 (by decide +kernel)
noncomputable def Ph:SM:=
 U7 (Km 2 (Kb 2 W9 (U2 (UZ 2) (U2 (UZ 3) (U1)))))
 (Km 3 (Kb 3 Xe (U2 (UZ 0) (U2 (UZ 1) (U2 (UZ 2) (U1))))))
noncomputable def TC:SM:=
 U7 (Km 2 (U6 KJ (Kx (U2 (U5 .none) (U1))) (Zt Kt (U2 (Kj 0 (U5 (.int 1))) (U1)))))
 (U7 (Km 3 (Kb 3 Xe (U2 (UZ 0) (U2 (UZ 1) (U2 (UZ 2) (U1))))))
 (U7 (Xl (SE (UZ 3)) Ph Wg)
 (Kh (UZ 2))))
noncomputable def W4:xk->xn:=Kq N_bf TC
noncomputable abbrev Sbj:Stmt:=top 53
noncomputable abbrev N_bj:List Str:=["wishes", "aim", "worths", "dealing"]
theorem Hbj:NmF Sbj N_bj:=K7 (by decide +kernel)
noncomputable def Tw:SM:=
 U7 (Km 2 (Kb 2 XI (U2 (UZ 0) (U2 (UZ 1) (U1)))))
 (U7 (Km 3 (Kb 2 W4 (U2 (UZ 0) (U2 (UZ 2) (U1)))))
 (Kh (KQ (U2 (UZ 3) (U2 (Kb 3 XG (U2 (UZ 0) (U2 (UZ 2) (U2 (UZ 3) (U1))))) (U1))))))
noncomputable def WZ:xk->xn:=Kq N_bj Tw
noncomputable abbrev Sbs:Stmt:=top 63
noncomputable abbrev N_bs:List Str:=["_law_wishes_here", "_law_dealing", "_law_counts_here", "_law_asker", "_law_thing"]
theorem Hbs:NmF Sbs N_bs:=K7 (by decide +kernel)
noncomputable def MT:SM:=
 sIf (Ke isNon (UZ 4))
 (Vv (λi j=>O (.int (i+j))) 2 (Ye (U5 (.int 1))) (U5 (.int 1)))
 (Vv (λi j=>O (.int (i+j))) 2 (U6 Zc (Kb 3 Y1 (U2 (UZ 0) (U2 (UZ 3) (U2 (UZ 4) (U1))))) (U5 (.int 1))) (U5 (.int 1)))
noncomputable def To:SM:=
 U7 (Zg 2 (VQ (Kx (U2 (U5 (.int 0)) (U1))) (U6 Kf (Kb 1 Y0 (U2 (UZ 0) (U1))) (U5 (.int 1)))))
 (U7 (KI (YS (U2 (UZ 1) (U1))) (gT 2 (gNC (gN 3) (gNC (gN 4) (gN0)))) MT)
 (Kh (UZ 2)))
noncomputable def WU:xk->xn:=Kq N_bs To
noncomputable abbrev Sbv:Stmt:=top 66
noncomputable abbrev N_bv:List Str:=["_law_wishes_here", "_law_aim_here", "_law_dealing", "_law_order", "_law_old", "_law_turns", "_law_counts_here", "_law_kept", "_law_same", "_law_ranks", "_law_asker", "_law_rank_here"]
theorem Hbv:NmF Sbv N_bv:=K7 (by decide +kernel)
noncomputable def Pg:SM:=
 U7 (Km 11 (U5 (.int 0)))
 (U7 (sIf (Ke (λd=>!isNon d) (Kj 2 (UZ 10)))
 (Km 11 (U6 Zc (U6 Kf (Kb 1 Y0 (U2 (UZ 0) (U1))) (U5 (.int 1))) (Kb 3 Y1 (U2 (UZ 0) (U2 (UZ 10) (U2 (Kj 2 (UZ 10)) (U1)))))))
 (sNx))
 (ZG 9 (UZ 11)))
noncomputable def Tk:SM:=
 U7 (Z8 (UZ 1) (gT 3 (gNC (gN 3) (gNC (gN 4) (gNC (gN 5) (gN0))))))
 (U7 (Km 6 (Kb 2 WU (U2 (UZ 0) (U2 (UZ 2) (U1)))))
 (U7 (sIf (ZA oEq 3 (U5 (.str "full")))
 (Km 6 (U6 Kf (Kx (U2 (U6 Zc (U5 (.int 0)) (Kj 6 (Ye (U5 (.int 1))))) (U1))) (UZ 6)))
 (sNx))
 (U7 (sIf (ZA oEq 3 (U5 (.str "lasts")))
 (Zg 6 (ZB (Zb (X7 (UZ 6) (U5 xg) (U5 xg) (Kn (Ye (U5 (.int 1))) λx=>Ko (YG x)))) 1 (gN 12) (U5 xi) (U6 Zc (U5 (.int 0)) (UZ 12))))
 (sNx))
 (U7 (Km 7 (U5 (.int 0)))
 (U7 (sIf (Ke (λd=>!isNon d) (UZ 4))
 (U7 (Zg 8 (ZB (XA (U2 (UZ 4) (U2 (UZ 2) (U1)))) 2 (gT 2 (gNC (gN 12) (gNC (gN 13) (gN0)))) (ZA oEq 12 (UZ 13)) (UZ 13)))
 (Km 7 (Zt Kt (U2 (Ke UM (ZB (Zb (UZ 8)) 1 (gN 12) (Ke (λd=>!isNon d) (UZ 12)) (UZ 12))) (U1)))))
 (sNx))
 (U7 (Zg 9 (Kn (U1) λxs=>if xs.length<=1000000 then U5 xs else λ_=>.bad))
 (U7 (KI (Zb (UZ 5)) (gN 10) Pg)
 (Kh (U6 Kf (U6 Kf (UZ 6) (Kx (U2 (UZ 7) (U1)))) (UZ 9))))))))))
noncomputable def Wa:xk->xn:=Kq N_bv Tk
noncomputable abbrev Sbq:Stmt:=top 61
noncomputable abbrev N_bq:List Str:=["_law_wishes_here", "_law_asker"]
theorem Hbq:NmF Sbq N_bq:=K7 (by decide +kernel)
noncomputable def Tq:SM:=
 Kh (Zt VR (U2 (Zt Sq (U2 (U6 oIx (Kj 0 (U5 (.int 1))) (UZ 1)) (U2 (Kx (U1)) (U1)))) (U1)))
noncomputable def WW:xk->xn:=Kq N_bq Tq
noncomputable abbrev Sbt:Stmt:=top 64
noncomputable abbrev N_bt:List Str:=["_law_wishes_here", "_law_found", "_law_asker", "_law_longer", "_law_dealing", "_law_thing"]
theorem Hbt:NmF Sbt N_bt:=K7 (by decide +kernel)
noncomputable def MS:SM:=
 sIf (mOr (Ke isNon (UZ 5)) (U6 (oIB λi j=>decide (i<j)) (Sy (UZ 4) (U2 (UZ 5) (U1))) (U6 oIx (Kj 0 (U5 (.int 0))) (UZ 5))))
 (ZG 3 (U6 Kf (UZ 4) (Kx (U2 (UZ 5) (U1)))))
 (sNx)
noncomputable def MR:SM:=
 KI (Zb (U6 Kf (Kx (U2 (U5 .none) (U1))) (Kb 2 WW (U2 (UZ 0) (U2 (UZ 2) (U1)))))) (gN 5) MS
noncomputable def MQ:SM:=
 U7 (Zg 3 (Kn (U1) λxs=>if xs.length<=1000000 then U5 xs else λ_=>.bad))
 (U7 (KI (Zb (UZ 1)) (gN 4) MR)
 (Km 1 (UZ 3)))
noncomputable def Tn:SM:=
 U7 (Zg 1 (Kn (U2 (Kx (U1)) (U1)) λxs=>if xs.length<=1000000 then U5 xs else λ_=>.bad))
 (U7 (KI (XT (U2 (Zt Kt (U2 (Kj 0 (U5 (.int 1))) (U1))) (U1))) (gN 2) MQ)
 (Kh (UZ 1)))
noncomputable def WT:xk->xn:=Kq N_bt Tn
noncomputable abbrev Sbr:Stmt:=top 62
noncomputable abbrev N_br:List Str:=["_law_wishes_here", "_law_cell", "_law_salt", "_law_askers", "_law_sizes", "_law_digits", "_law_old", "_law_turns", "_law_digit"]
theorem Hbr:NmF Sbr N_br:=K7 (by decide +kernel)
noncomputable def Pf:SM:=
 Km 8 (U6 YA (U6 Kf (UZ 8) (U5 (.int 1))) (UZ 3))
noncomputable def MP:SM:=
 U7 (Xl (Vu oIn (UZ 8) 7) Pf 1000)
 (ZG 7 (UZ 8))
noncomputable def Tp:SM:=
 U7 (Km 3 (Zt Kt (U2 (Kj 0 (U5 (.int 1))) (U1))))
 (U7 (Km 4 (U6 Kf (Kx (U2 (U5 (.int 3)) (U2 (U5 (.int 2)) (U2 (U6 Kf (UZ 3) (U5 (.int 1))) (U1))))) (U6 KJ (Kx (U2 (U6 Kf (Zt Kt (U2 (Kj 0 (U5 (.int 0))) (U1))) (U5 (.int 1))) (U1))) (UZ 3))))
 (U7 (Km 5 (Kb 3 YM (U2 (UZ 1) (U2 (UZ 2) (U2 (U6 Kf (UZ 4) (U6 KJ (Kx (U2 (UZ 3) (U1))) (UZ 3))) (U1))))))
 (U7 (Km 6 (U5 .none))
 (U7 (sIf (U6 oEq (Kj 5 (U5 (.int 1))) (U5 (.int 1)))
 (Zg 6 (ZB (Zb (Yd (UZ 5) (Kn (U5 (.int 3)) λx=>Ko (YG x)) (Kn (U6 Kf (U5 (.int 3)) (UZ 3)) λx=>Ko (YG x)))) 1 (gN 9) (U5 xi) (U6 oIx (Kx (U2 (U5 .none) (U2 (U6 Zc (UZ 9) (U5 (.int 1))) (U1)))) (Zt Wx (U2 (Ke UN (ZA (oIB λi j=>decide (j<i)) 9 (U5 (.int 0)))) (U1))))))
 (sNx))
 (U7 (Zg 7 (Kn (U1) λxs=>if xs.length<=1000000 then U5 xs else λ_=>.bad))
 (U7 (KI (Zb (Yd (UZ 5) (Kn (U6 Kf (U5 (.int 3)) (UZ 3)) λx=>Ko (YG x)) (Kn (U6 Kf (U6 Kf (U5 (.int 3)) (UZ 3)) (Kj 5 (U5 (.int 2)))) λx=>Ko (YG x)))) (gN 8) MP)
 (Kh (KQ (U2 (U6 oIx (Kx (U2 (U5 (.str "firsts")) (U2 (U5 (.str "full")) (U2 (U5 (.str "lasts")) (U1))))) (Kj 5 (U5 (.int 0)))) (U2 (UZ 6) (U2 (UZ 7) (U1))))))))))))
noncomputable def WV:xk->xn:=Kq N_br Tp
noncomputable abbrev Sbn:Stmt:=top 58
noncomputable abbrev N_bn:List Str:=["_law_script", "_law_at", "_law_most_things", "_law_most_askers", "_law_most_ranks", "_law_sizes", "_law_digits", "_law_copies", "_law_lists", "_law_asker", "_law_cell", "_law_places", "_law_ranks", "_law_rank_here", "_law_row"]
theorem Hbn:NmF Sbn N_bn:=K7 (by decide +kernel)
noncomputable def OB:SM:=
 U7 (Zg 14 (ZB (XT (U2 (Zv 7) (U1))) 1 (gN 15) (U6 oEq (Kj 11 (UZ 15)) (UZ 13)) (UZ 15)))
 (sIf (ZA oNe 14 (Kx (U1)))
 (ZG 12 (U6 oIx (Kx (U2 (UZ 14) (U2 (X7 (UZ 14) (U5 xg) (U5 xg) (Kn (Ye (U5 (.int 1))) λx=>Ko (YG x))) (U1)))) (Kj 11 (Ye (U5 (.int 1))))))
 (sNx))
noncomputable def OA:SM:=
 U7 (Km 10 (Kb 2 Y2 (U2 (UZ 0) (U2 (U6 Kf (U6 Kf (UZ 1) (U5 (.int 1))) (UZ 9)) (U1)))))
 (U7 (Km 11 (Kb 3 YM (U2 (UZ 10) (U2 (U6 Kf (U6 Kf (U6 KJ (U5 (.int 11)) (UZ 1)) (U6 KJ (U5 (.int 3)) (UZ 9))) (U5 (.int 1))) (U2 (U6 Kf (U6 KJ (Kx (U2 (U6 Kf (UZ 4) (U5 (.int 1))) (U1))) (UZ 2)) (Kx (U2 (U5 (.int 2)) (U1)))) (U1))))))
 (U7 (Zg 12 (Kn (U1) λxs=>if xs.length<=1000000 then U5 xs else λ_=>.bad))
 (U7 (KI (RP (U2 (U5 (.int 1)) (U2 (U6 Kf (UZ 4) (U5 (.int 1))) (U1)))) (gN 13) OB)
 (ZG 8 (UZ 12)))))
noncomputable def Tt:SM:=
 U7 (Km 5 (U6 Kf (Kx (U2 (UZ 2) (U2 (UZ 3) (U1)))) (U6 KJ (Kx (U2 (U5 (.int 11)) (U1))) (UZ 2))))
 (U7 (Km 6 (Kb 3 YM (U2 (Kb 2 Y2 (U2 (UZ 0) (U2 (UZ 1) (U1)))) (U2 (UZ 1) (U2 (UZ 5) (U1))))))
 (U7 (Zg 7 (ZB (Zb (Yd (UZ 6) (Kn (U5 (.int 2)) λx=>Ko (YG x)) (Kn (U6 Kf (U5 (.int 3)) (Kj 6 (U5 (.int 0)))) λx=>Ko (YG x)))) 1 (gN 15) (U5 xi) (U6 oIx (Kx (U2 (U5 (.int 1)) (U2 (U5 (.int 1)) (U2 (U5 (.int 2)) (U2 (U5 (.int 0)) (U2 (U5 (.int 3)) (U2 (U5 (.int 7)) (U2 (U5 (.int 1)) (U2 (U5 (.int 4)) (U2 (U5 (.int 5)) (U2 (U5 (.int 6)) (U2 (U5 (.int 1)) (U1))))))))))))) (UZ 15))))
 (U7 (Zg 8 (Kn (U1) λxs=>if xs.length<=1000000 then U5 xs else λ_=>.bad))
 (U7 (KI (XT (U2 (U6 Kf (U5 (.int 1)) (Kj 6 (U5 (.int 1)))) (U1))) (gN 9) OA)
 (Kh (KQ (U2 (UZ 7) (U2 (UZ 8) (U1)))))))))
noncomputable def WX:xk->xn:=Kq N_bn Tt
noncomputable abbrev Sby:Stmt:=top 69
noncomputable abbrev N_by:List Str:=["_law_script", "_law_wishes_here", "_law_aim_here", "_law_some", "_law_keys", "_law_best", "_law_found", "_law_k", "_law_cell", "_law_at", "_law_told"]
theorem Hby:NmF Sby N_by:=K7 (by decide +kernel)
noncomputable def MN:SM:=
 U7 (Km 9 (U6 oIx (Kb 3 YM (U2 (UZ 8) (U2 (U6 Kf (U5 (.int 31)) (UZ 7)) (U2 (Kx (U2 (Zv 3) (U1))) (U1))))) (U5 (.int 0))))
 (U7 (Km 10 (Kb 3 WY (U2 (Kb 1 Wb (U2 (UZ 1) (U1))) (U2 (UZ 2) (U2 (Ke UM (Kn (U2 (Kj 3 (UZ 9)) (U1)) λxs=>Ko (Xh xs))) (U1))))))
 (U7 (sIf (mOr (Zd (Yg (Ke (λd=>.bool (Ze d "tuple")) (UZ 10)))) (U6 oNe (Zv 10) (U5 (.int 2))))
 (Kh (U5 (.bool xj)))
 (sNx))
 (sIf (U6 oNe (Kj 10 (U5 (.int 0))) (U6 oIx (Kx (U2 (U5 (.str "way")) (U2 (U5 (.str "best")) (U1)))) (Zt Wx (U2 (Ke UN (U6 oEq (Kj 4 (UZ 9)) (UZ 5))) (U1)))))
 (Kh (U5 (.bool xj)))
 (sNx))))
noncomputable def Th:SM:=
 U7 (Km 1 (Kb 5 WX (U2 (UZ 0) (U2 (U5 (.int 1)) (U2 (U5 (.int 3)) (U2 (U5 (.int 4)) (U2 (U5 (.int 3)) (U1))))))))
 (U7 (Km 2 (Kb 3 WV (U2 (UZ 1) (U2 (Kb 2 Y2 (U2 (UZ 0) (U2 (U5 (.int 0)) (U1)))) (U2 (U5 (.int 5)) (U1))))))
 (U7 (Km 3 (Kb 1 WT (U2 (UZ 1) (U1))))
 (U7 (Zg 4 (ZB (Zb (UZ 3)) 1 (gN 11) (U5 xi) (Kb 3 Wa (U2 (UZ 1) (U2 (UZ 2) (U2 (UZ 11) (U1)))))))
 (U7 (Km 5 (Zt V0 (U2 (UZ 4) (U1))))
 (U7 (Km 6 (Kb 2 WZ (U2 (Kb 1 Wb (U2 (UZ 1) (U1))) (U2 (UZ 2) (U1)))))
 (U7 (sIf (mOr (Zd (Yg (Ke (λd=>.bool (Ze d "tuple")) (UZ 6)))) (mOr (U6 oNe (Zv 6) (U5 (.int 2))) (U6 Y9 (Kj 6 (U5 (.int 0))) (UZ 3))))
 (Kh (U5 (.bool xj)))
 (sNx))
 (U7 (sIf (U6 oNe (Kj 4 (Pi (UZ 3) (U2 (Kj 6 (U5 (.int 0))) (U1)))) (UZ 5))
 (Kh (U5 (.bool xj)))
 (sNx))
 (U7 (sIf (U6 oNe (Ke UM (ZB (Zb (UZ 3)) 1 (gN 11) (Yg (Kb 3 X9 (U2 (UZ 1) (U2 (UZ 11) (U2 (Kj 6 (U5 (.int 0))) (U1)))))) (UZ 11))) (Kx (U1)))
 (Kh (U5 (.bool xj)))
 (sNx))
 (U7 (KI (YS (U2 (U6 Kf (Kx (U2 (Kb 2 Y2 (U2 (UZ 0) (U2 (U5 (.int 5)) (U1)))) (U1))) (Yd (UZ 0) (Kn (U5 (.int 6)) λx=>Ko (YG x)) (Kn (U5 (.int 17)) λx=>Ko (YG x)))) (U1))) (gT 2 (gNC (gN 7) (gNC (gN 8) (gN0)))) MN)
 (Kh (U5 (.bool xi))))))))))))
noncomputable def WS:xk->xn:=Kq N_by Th
set_option hygiene false in
local macro_rules | `(tactic| walk_at "g")=>`(tactic| first | exact gA nm rfl | exact F6 rfl)
set_option hygiene false in
local macro_rules | `(tactic| walk_at "v")=>`(tactic| first | exact pq nm _ | exact pvb _)
set_option hygiene false in
local macro_rules | `(tactic| walk_at "b")=>`(tactic| first | ((with_reducible show OpB _ (compareOp CmpOp.Eq) _);first | exact B_eq hu) | ((with_reducible show OpB _ (compareOp CmpOp.NotEq) _);first | exact B_ne hu) | ((with_reducible show OpB _ (compareOp CmpOp.Lt) _);first | exact B_lt) | ((with_reducible show OpB _ (compareOp CmpOp.LtE) _);first | exact B_le) | ((with_reducible show OpB _ (compareOp CmpOp.Gt) _);first | exact B_gt) | ((with_reducible show OpB _ (compareOp CmpOp.GtE) _);first | exact B_ge) | ((with_reducible show OpB _ (compareOp CmpOp.In) _);first | exact B_in hu) | ((with_reducible show OpB _ (compareOp CmpOp.NotIn) _);first | exact FM hu))
set_option hygiene false in
local macro_rules | `(tactic| walk_at "m")=>`(tactic| first | exact Of _ | exact rfl)
set_option hygiene false in
local macro_rules | `(tactic| walk_at "k")=>`(tactic| first | exact LA | exact qL | exact qK)
set_option hygiene false in
local macro_rules | `(tactic| walk_at "w")=>`(tactic| first | exact PassesOwn.never)
set_option hygiene false in
local macro_rules | `(tactic| walk_at "x")=>`(tactic| first | assumption | exact wants_cx)
set_option hygiene false in
local macro_rules | `(tactic| walk_at "c")=>`(tactic| first | exact T.c_MOST_ASKERS | exact T.c_MOST_COPIES | exact T.c_MOST_RANKS | exact T.c_MOST_THINGS | exact T.c_ORDERS)
set_option hygiene false in
local macro_rules | `(tactic| walk_at "ck")=>`(tactic| fail)
set_option hygiene false in
local macro_rules | `(tactic| walk_at "e")=>`(tactic| first | ((with_reducible show PE _ (Expr.Name _ _) _);first | exact Ym (pq nm _) | exact Ym (pvb _) | exact FO (by walk_at "g") (by walk_at "c") | exact FL (by walk_at "g") (by walk_at "c")) | ((with_reducible show PE _ (Expr.Constant _ _ _) _);first | exact N3 | exact D0 | exact DC | exact D1) | ((with_reducible show PE _ (Expr.Subscript _ _ _) _);first | refine SI (by walk_at "v") ?_ (fun _ _=>rfl) | refine jd ?_ ?_ ?_ | refine Co ?_ ?_ ?_ ?_ | refine Ec ?_ ?_ (fun _ _=>rfl)) | ((with_reducible show PE _ (Expr.BinOp _ Operator.Add _ _) _);first | refine Vq NW ?_ ?_) | ((with_reducible show PE _ (Expr.BinOp _ Operator.Sub _ _) _);first | refine Vq NJ ?_ ?_) | ((with_reducible show PE _ (Expr.BinOp _ Operator.Mult _ _) _);first | refine Vq NI ?_ ?_) | ((with_reducible show PE _ (Expr.BinOp _ Operator.Mod _ _) _);first | refine Vq GX ?_ ?_) | ((with_reducible show PE _ (Expr.BinOp _ Operator.FloorDiv _ _) _);first | refine Vq GW ?_ ?_) | ((with_reducible show PE _ (Expr.BinOp _ Operator.Pow _ _) _);first | refine Vq GV ?_ ?_) | ((with_reducible show PE _ (Expr.Call (Expr.Name "len" _) _ _ _) _);first | refine LC (by walk_at "g") T.b_len (by walk_at "v") | refine Td NH (by walk_at "g") T.b_len boot_len ?_ | refine jc rfl (by walk_at "g") T.b_len (by walk_at "g") T.b_set ?_) | ((with_reducible show PE _ (Expr.Call (Expr.Name "max" _) _ _ _) _);first | refine Td (Eb rfl) (by walk_at "g") T.b_max boot_max ?_ | refine Td (FX rfl) (by walk_at "g") T.b_max boot_max ?_ | refine Td (CC rfl hu) (by walk_at "g") T.b_max boot_max ?_) | ((with_reducible show PE _ (Expr.Call (Expr.Name "sorted" _) _ _ _) _);first | refine Td Ev (by walk_at "g") T.b_sorted PyProof.Rows.boot_sorted ?_) | ((with_reducible show PE _ (Expr.Call (Expr.Name "sum" _) _ _ _) _);first | refine Td (FW rfl) (by walk_at "g") T.b_sum PyProof.Rows.boot_sum ?_) | ((with_reducible show PE _ (Expr.Call (Expr.Name "all" _) _ _ _) _);first | refine Td (FQ rfl) (by walk_at "g") T.b_all PyProof.Rows.boot_all ?_) | ((with_reducible show PE _ (Expr.Call (Expr.Name "int" _) _ _ _) _);first | refine ji FY (by walk_at "g") T.b_int PyProof.Rows.boot_int ?_) | ((with_reducible show PE _ (Expr.Call (Expr.Name "isinstance" _) [_,Expr.Name "int" _] _ _) _);first | refine RF (c := "int") (by decide) (by walk_at "g") T.b_isinstance (by walk_at "g") T.b_int (by decide +kernel) ?_ (by decide) (by decide)) | ((with_reducible show PE _ (Expr.Call (Expr.Name "isinstance" _) [_,Expr.Name "list" _] _ _) _);first | refine RF (c := "list") (by decide) (by walk_at "g") T.b_isinstance (by walk_at "g") T.b_list (by decide +kernel) ?_ (by decide) (by decide)) | ((with_reducible show PE _ (Expr.Call (Expr.Name "isinstance" _) [_,Expr.Name "tuple" _] _ _) _);first | refine RF (c := "tuple") (by decide) (by walk_at "g") T.b_isinstance (by walk_at "g") T.b_tuple (by decide +kernel) ?_ (by decide) (by decide)) | ((with_reducible show PE _ (Expr.Call (Expr.Name "isinstance" _) [_,Expr.Name "bool" _] _ _) _);first | refine RF (c := "bool") (by decide) (by walk_at "g") T.b_isinstance (by walk_at "g") T.b_bool (by decide +kernel) ?_ (by decide) (by decide)) | ((with_reducible show PE _ (Expr.Call (Expr.Name "isinstance" _) [_,Expr.Name "str" _] _ _) _);first | refine RF (c := "str") (by decide) (by walk_at "g") T.b_isinstance (by walk_at "g") T.b_str (by decide +kernel) ?_ (by decide) (by decide)) | ((with_reducible show PE _ (Expr.Call (Expr.Name _ _) _ _ _) _);first | refine pdf (by assumption) hr (by walk_at "g") ?_) | ((with_reducible show PE _ (Expr.Call _ _ _ _) _);first | refine qW hu ?_ ?_ | refine A6 ?_ ?_ | refine jF hu ?_ ?_) | refine Ot ?_ | refine Pm ?_ | ((with_reducible show PE _ (Expr.Compare _ _ _ _) _);first | refine DJ ?_ | refine Cp (by walk_at "b") (by walk_at "v") ?_ (by walk_at "m") | refine D6 (by walk_at "b") ?_ (by walk_at "v") (by walk_at "m") | refine DU (by walk_at "b") ?_ ?_ (by walk_at "m") | refine ql (by walk_at "b") (by walk_at "b") ?_ ?_ ?_) | refine Cr ?_ | refine Lo ?_ | refine DM ?_ | refine DO ?_ ?_ | refine Ed ?_ ?_ | refine DN ?_ | refine qk ?_ ?_ ?_)
set_option hygiene false in
local macro_rules | `(tactic| walk_at "t")=>`(tactic| first | ((with_reducible show PT _ (Expr.Compare _ _ _ _) _);first | refine DK ?_ | refine LD ?_ | refine Cq (by walk_at "b") (by walk_at "v") ?_ (by walk_at "m") | refine D7 (by walk_at "b") ?_ (by walk_at "v") (by walk_at "m") | refine Ou (by walk_at "b") ?_ ?_ (by walk_at "m") | refine qm (by walk_at "b") (by walk_at "b") ?_ ?_ ?_) | ((with_reducible show PT _ (Expr.BoolOp _ _ _) _);refine PW.pt ?_) | refine DQ ?_ | refine DP ?_ | refine D4 ?_)
set_option hygiene false in
local macro_rules | `(tactic| walk_at "l")=>`(tactic| first | refine Fz nm (by walk_at "k") rfl ?_ ?_ (by decide +kernel) | refine qG (by walk_at "g") T.b_list (by walk_at "v") | refine Bl (by walk_at "g") T.b_list ?_ | refine Lh ?_ | refine MJ ?_ ?_)
set_option hygiene false in
local macro_rules | `(tactic| walk_at "i")=>`(tactic| first | refine qi (by walk_at "g") T.b_range ?_ | refine qh (by walk_at "g") T.b_range ?_ | refine Lg (by walk_at "g") T.b_enumerate ?_ | refine Bh (by walk_at "g") T.b_enumerate ?_ | refine F0 (by walk_at "g") T.b_zip ?_ | refine Og ?_)
set_option hygiene false in
local macro_rules | `(tactic| walk_at "s")=>`(tactic| first | ((with_reducible show PS _ (Stmt.Assign [Expr.Name _ _] _ _) _);first | refine aSet nm ?_ | refine Fy nm (by walk_at "k") rfl ?_ ?_ (by decide +kernel) | refine NP nm ?_) | ((with_reducible show PS _ (Stmt.Assign _ _ _) _);first | refine Ea ?_ ?_ | refine Lm ?_ (by walk_at "v") ?_) | refine P2 ?_ ?_ ?_ | refine Mr ?_ | refine Oh (by walk_at "w") rfl ?_ ?_ ?_ | ((with_reducible show PS _ (Stmt.Expr _ _) _);first | refine Mq (by walk_at "v") ?_ | refine DF ?_) | refine Cb (by walk_at "v") ?_ Cd ?_ | refine aAug nm Cc ?_ | exact Bv | refine BY _ (by walk_at "w") ?_ ?_)
set_option hygiene false in
local macro_rules | `(tactic| walk_at "d")=>`(tactic| (have hu:=hr.units;have hgd:=hr.gd;repeat' (first | ((with_reducible show PSs _ (WC _) _);show PSs _ (_ :: _) _) | ((with_reducible show PSs _ (Stmt.Assign _ _ _ :: _ :: _) _);generalize hS:(_ :: _:List Stmt)=sts;refine BK hS ?_ ?_) | ((with_reducible show PS _ (Stmt.Assign [Expr.Name _ _] (Expr.List _ _) _) (tS _ _ _ _ (Zg _ _)));generalize hS:Stmt.Assign _ _ _=st;refine Es hS nm ?_) | ((with_reducible show PS _ (Stmt.Assign [Expr.Name _ _] (Expr.BinOp _ _ _ _) _) (tS _ _ _ _ (Km _ _)));generalize hS:Stmt.Assign _ _ _=st;refine Fx hS nm ?_) | ((with_reducible show PE _ (Expr.List _ _) _);generalize hS:Expr.List _ _=e;first | refine BJ hS ?_ | refine BI hS ?_) | ((with_reducible show PE _ (Expr.Tuple _ _ _) _);generalize hS:Expr.Tuple _ _ _=e;refine BH hS ?_) | ((with_reducible show PE _ (Expr.BinOp _ Operator.Add _ _) (tD _ _ _ _));generalize hS:Expr.BinOp _ _ _ _=e;refine Mj NW hS ?_ ?_) | ((with_reducible show PE _ (Expr.BinOp _ Operator.Mult _ _) (tD _ _ _ _));generalize hS:Expr.BinOp _ _ _ _=e;refine Mj NI hS ?_ ?_) | ((with_reducible show PA _ (_ :: _) (tDs _ _ _ _));generalize hS:(_ :: _:List Expr)=es;refine AV hS ?_ ?_) | ((with_reducible show PE _ _ (tD _ _ _ _));first | walk_at "e") | ((with_reducible show PA _ _ (tDs _ _ _ _));first | refine Xk ?_ ?_ | exact SJ) | ((with_reducible show PSs _ _ (tS _ _ _ _ _));first | refine SH ?_ ?_ | refine SA ?_ | exact Od | exact sD_nevers) | ((with_reducible show PS _ _ _);walk_at "s") | ((with_reducible show PT _ _ _);walk_at "t") | ((with_reducible show PW _ _ _);first | refine DR ?_ ?_ | refine Ee ?_ ?_ | refine Bz ?_ | refine DS ?_) | ((with_reducible show PE _ _ (tL _ _ _ _));walk_at "l") | ((with_reducible show PI _ _ _ _);walk_at "i") | ((with_reducible show PG _ _ _);first | exact FA nm | exact Et | refine R1 rfl ?_) | ((with_reducible show PGs _ _ _);first | exact R3 | refine WB ?_ ?_) | ((with_reducible show PO _ _ _);first | exact By | refine Bx ?_) | ((with_reducible show YC _ _ _ _ _ _ _ _ _);refine fun cl C s0 H0 ex=>⟨fun B' G'=>?_,fun B' G'=>?_,?_⟩) | ((with_reducible show Xd _ _ _);first | exact Cs | refine Ln ?_) | ((with_reducible show Rh _ _ _ _ _ _);first | refine Hz rfl rfl rfl fun B' G'=>?_ | refine qM rfl rfl rfl rfl (fun _=>rfl) (fun B' G'=>?_) (fun B' G'=>?_) (fun B' G'=>?_) ?_))))
section
variable{P:UC}{w:World}{K:Frag}{mg:Str->xr}{base:Heap}{f:UD}{fd:UE}(T:Txt K mg)
include T
theorem Kbl(F:Fun K "_law_cell_at" "_law_cell_at" Sbl f fd):FnOk P w K mg base CX0 1 f fd ["_law_script", "_law_k"] (spD K 2 Y2):=
 okD (k:=0) (g:=WN) F (fq Hbl 2) xf λcdv A outer s H E B G0 hr=>
 have nm:=Hbl
 by walk_at "d"
theorem Kbu(F:Fun K "_law_copy" "_law_copy" Sbu f fd):FnOk P w K mg base CX0 1 f fd ["_law_wishes_here"] (spD K 1 Wb):=
 okD (k:=0) (g:=Tl) F (fq Hbu 1) xf λcdv A outer s H E B G0 hr=>
 have nm:=Hbu
 by walk_at "d"
theorem Kbh(F:Fun K "asks_beyond" "asks_beyond" Sbh f fd):FnOk P w K mg base CX0 1 f fd ["askers", "worths", "prices"] (spD K 3 W0):=
 okD (k:=0) (g:=Tz) F (fq Hbh 3) xf λcdv A outer s H E B G0 hr=>
 have nm:=Hbh
 by walk_at "d"
theorem Kaw(F:Fun K "place_of" "place_of" Saw f fd):FnOk P w K mg base CX0 1 f fd ["nothing", "got"] (spD K 2 Wd):=
 okD (k:=0) (g:=TQ) F (fq Haw 2) xf λcdv A outer s H E B G0 hr=>
 have nm:=Haw
 by walk_at "d"
theorem Kax(vV:Def P w K mg base "place_of" 1 2 Wd)(F:Fun K "steps_of_askers" "steps_of_askers" Sax f fd):FnOk P w K mg base CX0 2 f fd ["nothing", "worths", "dealing"] (spD K 3 W8):=
 okD (k:=1) (g:=TN) F (fq Hax 3) xf λcdv A outer s H E B G0 hr=>
 have hu:=hr.units;have hgd:=hr.gd
 (SH (Li (i:=3) (nq Hax) xf (lq Hax 3) (MJ (Ot (Xk N3 SJ)) (LC (gq Hax 2) T.b_len (pq Hax 2))))
 (SH (Oh UT xf (Og (Ym (pq Hax 1))) (R1 xf (WB (Wo (Wp (i:=4) (nq Hax) xf (lq Hax 4))) (WB (Wo (Wp (i:=5) (nq Hax) xf (lq Hax 5))) (WB (Wo (Wp (i:=6) (nq Hax) xf (lq Hax 6))) R3))))
 (SA (P2 (Ou (B_eq hu) (SI (pq Hax 2) (Ym (pq Hax 4)) (λ_ _=>rfl)) (Ym (pq Hax 5)) (Of _))
 (SA (Lm (Ym (pq Hax 6)) (pq Hax 3) (Ym (pq Hax 4))))
 Od)))
 (SH (FC (j:=7) (Yk Sax) Sn ["nothing", "worths", "dealing", "had", ".asker", "thing", "worth", "told", "asker", "got"] 2 LA (nq Hax) xf xf xf (λB' G'=>(Lg (gq Hax 1) T.b_enumerate (Xk (Ym (pq Hax 2)) SJ))) (λcl C s0 H0 ex=>⟨λB' G'=>(R1 xf (WB (Wo (Wp (i:=8) (show(["nothing", "worths", "dealing", "had", ".asker", "thing", "worth", "told", "asker", "got"]:List Str).Nodup by decide +kernel) xf (SG xf).1 (SG xf).2)) (WB (Wo (Wp (i:=9) (show(["nothing", "worths", "dealing", "had", ".asker", "thing", "worth", "told", "asker", "got"]:List Str).Nodup by decide +kernel) xf (SG xf).1 (SG xf).2)) R3))),λB' G'=>(Ln (LD (Ym (pvb 9)))),(Hz xf xf xf λB' G'=>(Pm (Xk (Ym (pvb 9)) (Xk (Ym (pvb 0)) (Xk (Lo (SI (pvb 3) (Ym (pvb 8)) (λ_ _=>rfl))) (Xk (Ym (pvb 8)) SJ))))))⟩) xf xf (by decide +kernel))
 (SH (Oh UT xf (Og (Ym (pq Hax 1))) (R1 xf (WB (Wo (Wp (i:=4) (nq Hax) xf (lq Hax 4))) (WB (Wo (Wp (i:=5) (nq Hax) xf (lq Hax 5))) (WB (Wo (Wp (i:=6) (nq Hax) xf (lq Hax 6))) R3))))
 (SA (P2 (Ou (B_ne hu) (SI (pq Hax 2) (Ym (pq Hax 4)) (λ_ _=>rfl)) (Ym (pq Hax 5)) (Of _))
 (SA (Mq (pq Hax 7) (Pm (Xk (pdf vV hr (gq Hax 0) (Xk (Ym (pq Hax 0)) (Xk (SI (pq Hax 2) (Ym (pq Hax 4)) (λ_ _=>rfl)) SJ))) (Xk (Ym (pq Hax 5)) (Xk (Vq NJ (Ym (pq Hax 6)) (SI (pq Hax 3) (Ym (pq Hax 4)) (λ_ _=>rfl))) (Xk (Ym (pq Hax 4)) SJ)))))))
 Od)))
 (SA (Mr (Ym (pq Hax 7))))))))
theorem Kaa(F:Fun K "is_whole" "is_whole" Saa f fd):FnOk P w K mg base CX0 1 f fd ["thing"] (spD K 1 Vo):=
 okD (k:=0) (g:=Sg) F (fq Haa 1) xf λcdv A outer s H E B G0 hr=>
 have nm:=Haa
 by walk_at "d"
theorem Kab(yo:Def P w K mg base "is_whole" 1 1 Vo)(F:Fun K "is_number_below" "is_number_below" Sab f fd):FnOk P w K mg base CX0 2 f fd ["thing", "many"] (spD K 2 ZX):=
 okD (k:=1) (g:=Sf) F (fq Hab 2) xf λcdv A outer s H E B G0 hr=>
 have nm:=Hab
 by walk_at "d"
theorem Kad(xG:Def P w K mg base "is_number_below" 2 2 ZX)(F:Fun K "is_rank" "is_rank" Sad f fd):FnOk P w K mg base CX0 3 f fd ["thing", "things"] (spD K 2 Wf):=
 okD (k:=2) (g:=Sd) F (fq Had 2) xf λcdv A outer s H E B G0 hr=>
 have nm:=Had
 by walk_at "d"
theorem Kae(ym:Def P w K mg base "is_rank" 3 2 Wf)(F:Fun K "is_asker_list" "is_asker_list" Sae f fd):FnOk P w K mg base CX0 4 f fd ["thing", "things"] (spD K 2 Vm):=
 okD (k:=3) (g:=Sc) F (fq Hae 2) xf λcdv A outer s H E B G0 hr=>
 have nm:=Hae
 by walk_at "d"
theorem Kaf(yl:Def P w K mg base "is_asker_list" 4 2 Vm)(F:Fun K "look_at_lists" "look_at_lists" Saf f fd):FnOk P w K mg base CX0 5 f fd ["lists", "things"] (spD K 2 Vl):=
 okD (k:=4) (g:=Sb) F (fq Haf 2) xf λcdv A outer s H E B G0 hr=>
 have nm:=Haf
 by walk_at "d"
theorem Kac(xG:Def P w K mg base "is_number_below" 2 2 ZX)(F:Fun K "look_at_copies" "look_at_copies" Sac f fd):FnOk P w K mg base CX0 3 f fd ["copies"] (spD K 1 Vn):=
 okD (k:=2) (g:=Se) F (fq Hac 1) xf λcdv A outer s H E B G0 hr=>
 have nm:=Hac
 by walk_at "d"
theorem Kag(yk:Def P w K mg base "look_at_lists" 5 2 Vl)(yn:Def P w K mg base "look_at_copies" 3 1 Vn)(F:Fun K "look_at_wishes" "look_at_wishes" Sag f fd):FnOk P w K mg base CX0 6 f fd ["thing"] (spD K 1 YD):=
 okD (k:=5) (g:=Sa) F (fq Hag 1) xf λcdv A outer s H E B G0 hr=>
 have nm:=Hag
 by walk_at "d"
theorem Kak(xF:Def P w K mg base "look_at_wishes" 6 1 YD)(F:Fun K "copies_left" "copies_left" Sak f fd):FnOk P w K mg base CX0 7 f fd ["wishes", "dealing"] (spD K 2 Vh):=
 okD (k:=6) (g:=T6) F (fq Hak 2) xf λcdv A outer s H E B G0 hr=>
 have nm:=Hak
 by walk_at "d"
theorem Kay(yg:Def P w K mg base "copies_left" 7 2 Vh)(F:Fun K "steps_of_copies" "steps_of_copies" Say f fd):FnOk P w K mg base CX0 8 f fd ["wishes", "dealing"] (spD K 2 W7):=
 okD (k:=7) (g:=TM) F (fq Hay 2) xf λcdv A outer s H E B G0 hr=>
 have nm:=Hay
 by walk_at "d"
theorem Kaz(w4:Def P w K mg base "steps_of_askers" 2 3 W8)(wZ:Def P w K mg base "steps_of_copies" 8 2 W7)(F:Fun K "all_steps" "all_steps" Saz f fd):FnOk P w K mg base CX0 9 f fd ["wishes", "worths", "dealing"] (spD K 3 Xf):=
 okD (k:=8) (g:=TL) F (fq Haz 3) xf λcdv A outer s H E B G0 hr=>
 have nm:=Haz
 by walk_at "d"
theorem Kba(F:Fun K "longer_walks" "longer_walks" Sba f fd):FnOk P w K mg base CX0 1 f fd ["walks", "steps"] (spD K 2 W6):=
 okD (k:=0) (g:=TK) F (fq Hba 2) xf λcdv A outer s H E B G0 hr=>
 have nm:=Hba
 by walk_at "d"
theorem Kbb(wY:Def P w K mg base "longer_walks" 1 2 W6)(F:Fun K "widest_walks" "widest_walks" Sbb f fd):FnOk P w K mg base CX0 2 f fd ["places", "steps"] (spD K 2 XH):=
 okD (k:=1) (g:=TJ) F (fq Hbb 2) xf λcdv A outer s H E B G0 hr=>
 have nm:=Hbb
 by walk_at "d"
theorem Kbg(vA:Def P w K mg base "all_steps" 9 3 Xf)(vz:Def P w K mg base "widest_walks" 2 2 XH)(F:Fun K "prices_for" "prices_for" Sbg f fd):FnOk P w K mg base CX0 10 f fd ["wishes", "worths", "dealing"] (spD K 3 W3):=
 okD (k:=9) (g:=TB) F (fq Hbg 3) xf λcdv A outer s H E B G0 hr=>
 have nm:=Hbg
 by walk_at "d"
theorem Kbi(wT:Def P w K mg base "asks_beyond" 1 3 W0)(wU:Def P w K mg base "prices_for" 10 3 W3)(F:Fun K "paper_for" "paper_for" Sbi f fd):FnOk P w K mg base CX0 11 f fd ["wishes", "worths", "dealing"] (spD K 3 XG):=
 okD (k:=10) (g:=Tx) F (fq Hbi 3) xf λcdv A outer s H E B G0 hr=>
 have nm:=Hbi
 by walk_at "d"
theorem Kbc(F:Fun K "round_within" "round_within" Sbc f fd):FnOk P w K mg base CX0 1 f fd ["walk"] (spD K 1 W5):=
 okD (k:=0) (g:=TH) F (fq Hbc 1) xf λcdv A outer s H E B G0 hr=>
 have nm:=Hbc
 by walk_at "d"
theorem Kbd(F:Fun K "way_round" "way_round" Sbd f fd):FnOk P w K mg base CX0 1 f fd ["nothing", "steps"] (spD K 2 Wc):=
 okD (k:=0) (g:=TF) F (fq Hbd 2) xf λcdv A outer s H E B G0 hr=>
 have nm:=Hbd
 by walk_at "d"
theorem Kbe(vA:Def P w K mg base "all_steps" 9 3 Xf)(vz:Def P w K mg base "widest_walks" 2 2 XH)(wX:Def P w K mg base "round_within" 1 1 W5)(wW:Def P w K mg base "way_round" 1 2 Wc)(F:Fun K "gaining_way" "gaining_way" Sbe f fd):FnOk P w K mg base CX0 10 f fd ["wishes", "worths", "dealing"] (spD K 3 Xe):=
 okD (k:=9) (g:=TD) F (fq Hbe 3) xf λcdv A outer s H E B G0 hr=>
 have nm:=Hbe
 by walk_at "d"
theorem Kaj(xF:Def P w K mg base "look_at_wishes" 6 1 YD)(F:Fun K "all_wishes" "all_wishes" Saj f fd):FnOk P w K mg base CX0 7 f fd ["wishes"] (spD K 1 Vi):=
 okD (k:=6) (g:=T7) F (fq Haj 1) xf λcdv A outer s H E B G0 hr=>
 have nm:=Haj
 by walk_at "d"
theorem Kaq(F:Fun K "power" "power" Saq f fd):FnOk P w K mg base CX0 1 f fd ["base", "times"] (spD K 2 ZI):=
 okD (k:=0) (g:=TY) F (fq Haq 2) xf λcdv A outer s H E B G0 hr=>
 have nm:=Haq
 by walk_at "d"
theorem Kas(xS:Def P w K mg base "power" 1 2 ZI)(F:Fun K "worth_by_turns" "worth_by_turns" Sas f fd):FnOk P w K mg base CX0 2 f fd ["turns", "base", "asker", "rank"] (spD K 4 Va):=
 okD (k:=1) (g:=TW) F (fq Has 4) xf λcdv A outer s H E B G0 hr=>
 have nm:=Has
 by walk_at "d"
theorem Kar(xS:Def P w K mg base "power" 1 2 ZI)(F:Fun K "worth_by_order" "worth_by_order" Sar f fd):FnOk P w K mg base CX0 2 f fd ["order", "base", "most", "rank"] (spD K 4 Vb):=
 okD (k:=1) (g:=TX) F (fq Har 4) xf λcdv A outer s H E B G0 hr=>
 have nm:=Har
 by walk_at "d"
theorem Kah(F:Fun K "rank_in" "rank_in" Sah f fd):FnOk P w K mg base CX0 1 f fd ["ranks", "thing"] (spD K 2 Vk):=
 okD (k:=0) (g:=T9) F (fq Hah 2) xf λcdv A outer s H E B G0 hr=>
 have nm:=Hah
 by walk_at "d"
theorem Kat(xS:Def P w K mg base "power" 1 2 ZI)(w8:Def P w K mg base "worth_by_turns" 2 4 Va)(w9:Def P w K mg base "worth_by_order" 2 4 Vb)(yj:Def P w K mg base "rank_in" 1 2 Vk)(F:Fun K "worth_by_aim" "worth_by_aim" Sat f fd):FnOk P w K mg base CX0 3 f fd ["wishes", "aim", "most", "asker", "thing"] (spD K 5 We):=
 okD (k:=2) (g:=TV) F (fq Hat 5) xf λcdv A outer s H E B G0 hr=>
 have nm:=Hat
 by walk_at "d"
theorem Kai(xF:Def P w K mg base "look_at_wishes" 6 1 YD)(F:Fun K "longest" "longest" Sai f fd):FnOk P w K mg base CX0 7 f fd ["wishes"] (spD K 1 Vj):=
 okD (k:=6) (g:=T8) F (fq Hai 1) xf λcdv A outer s H E B G0 hr=>
 have nm:=Hai
 by walk_at "d"
theorem Kao(xG:Def P w K mg base "is_number_below" 2 2 ZX)(F:Fun K "is_turns" "is_turns" Sao f fd):FnOk P w K mg base CX0 3 f fd ["thing", "askers"] (spD K 2 Vd):=
 okD (k:=2) (g:=T2) F (fq Hao 2) xf λcdv A outer s H E B G0 hr=>
 have nm:=Hao
 by walk_at "d"
theorem Kan(xG:Def P w K mg base "is_number_below" 2 2 ZX)(F:Fun K "is_old" "is_old" San f fd):FnOk P w K mg base CX0 3 f fd ["thing", "askers", "things"] (spD K 3 Ve):=
 okD (k:=2) (g:=T3) F (fq Han 3) xf λcdv A outer s H E B G0 hr=>
 have nm:=Han
 by walk_at "d"
theorem Kal(F:Fun K "is_order" "is_order" Sal f fd):FnOk P w K mg base CX0 1 f fd ["thing"] (spD K 1 Vg):=
 okD (k:=0) (g:=T5) F (fq Hal 1) xf λcdv A outer s H E B G0 hr=>
 have nm:=Hal
 by walk_at "d"
theorem Kam(yf:Def P w K mg base "is_order" 1 1 Vg)(F:Fun K "look_at_order" "look_at_order" Sam f fd):FnOk P w K mg base CX0 2 f fd ["thing"] (spD K 1 Vf):=
 okD (k:=1) (g:=T4) F (fq Ham 1) xf λcdv A outer s H E B G0 hr=>
 have nm:=Ham
 by walk_at "d"
theorem Kap(yb:Def P w K mg base "is_turns" 3 2 Vd)(yd:Def P w K mg base "is_old" 3 3 Ve)(ye:Def P w K mg base "look_at_order" 2 1 Vf)(xF:Def P w K mg base "look_at_wishes" 6 1 YD)(F:Fun K "look_at_aim" "look_at_aim" Sap f fd):FnOk P w K mg base CX0 7 f fd ["wishes", "thing"] (spD K 2 Vc):=
 okD (k:=6) (g:=TZ) F (fq Hap 2) xf λcdv A outer s H E B G0 hr=>
 have nm:=Hap
 by walk_at "d"
theorem Kau(yh:Def P w K mg base "all_wishes" 7 1 Vi)(w6:Def P w K mg base "worth_by_aim" 3 5 We)(yi:Def P w K mg base "longest" 7 1 Vj)(ya:Def P w K mg base "look_at_aim" 7 2 Vc)(F:Fun K "all_worths" "all_worths" Sau f fd):FnOk P w K mg base CX0 8 f fd ["wishes", "aim"] (spD K 2 XI):=
 okD (k:=7) (g:=TU) F (fq Hau 2) xf λcdv A outer s H E B G0 hr=>
 have nm:=Hau
 by walk_at "d"
theorem Kbk(vx:Def P w K mg base "paper_for" 11 3 XG)(vy:Def P w K mg base "gaining_way" 10 3 Xe)(vB:Def P w K mg base "all_worths" 8 2 XI)(F:Fun K "bettered" "bettered" Sbk f fd):FnOk P w K mg base CX0 12 f fd ["wishes", "aim", "dealing"] (spD K 3 WY):=
 okD (k:=11) (g:=Tv) F (fq Hbk 3) xf λcdv A outer s H E B G0 hr=>
 have nm:=Hbk
 by walk_at "d"
theorem Kbm(F:Fun K "_law_numbers" "_law_numbers" Sbm f fd):FnOk P w K mg base CX0 1 f fd ["_law_cell", "_law_salt", "_law_sizes"] (spD K 3 YM):=
 okD (k:=0) (g:=Tu) F (fq Hbm 3) xf λcdv A outer s H E B G0 hr=>
 have nm:=Hbm
 by walk_at "d"
theorem Kbo(F:Fun K "_law_rank" "_law_rank" Sbo f fd):FnOk P w K mg base CX0 1 f fd ["_law_wishes_here", "_law_asker", "_law_thing"] (spD K 3 Y1):=
 okD (k:=0) (g:=Ts) F (fq Hbo 3) xf λcdv A outer s H E B G0 hr=>
 have nm:=Hbo
 by walk_at "d"
theorem Kbp(F:Fun K "_law_longest" "_law_longest" Sbp f fd):FnOk P w K mg base CX0 1 f fd ["_law_wishes_here"] (spD K 1 Y0):=
 okD (k:=0) (g:=Tr) F (fq Hbp 1) xf λcdv A outer s H E B G0 hr=>
 have nm:=Hbp
 by walk_at "d"
theorem Kbw(xQ:Def P w K mg base "_law_rank" 1 3 Y1)(xP:Def P w K mg base "_law_longest" 1 1 Y0)(F:Fun K "_law_place" "_law_place" Sbw f fd):FnOk P w K mg base CX0 2 f fd ["_law_wishes_here", "_law_asker", "_law_thing"] (spD K 3 XF):=
 okD (k:=1) (g:=Tj) F (fq Hbw 3) xf λcdv A outer s H E B G0 hr=>
 have nm:=Hbw
 by walk_at "d"
theorem Kbx(wJ:Def P w K mg base "_law_place" 2 3 XF)(F:Fun K "_law_above" "_law_above" Sbx f fd):FnOk P w K mg base CX0 3 f fd ["_law_wishes_here", "_law_one", "_law_other"] (spD K 3 X9):=
 okD (k:=2) (g:=Ti) F (fq Hbx 3) xf λcdv A outer s H E B G0 hr=>
 have nm:=Hbx
 by walk_at "d"
theorem Kav(F:Fun K "behind_way" "behind_way" Sav f fd):FnOk P w K mg base CX0 1 f fd ["dealing", "way"] (spD K 2 W9):=
 okD (k:=0) (g:=TR) F (fq Hav 2) xf λcdv A outer s H E B G0 hr=>
 have nm:=Hav
 by walk_at "d"
theorem Kbf(vy:Def P w K mg base "gaining_way" 10 3 Xe)(w5:Def P w K mg base "behind_way" 1 2 W9)(F:Fun K "best_by" "best_by" Sbf f fd):FnOk P w K mg base CX0 11 f fd ["wishes", "worths"] (spD K 2 W4):=
 okD (k:=10) (g:=TC) F (fq Hbf 2) xf λcdv A outer s H E B G0 hr=>
 have nm:=Hbf
 by walk_at "d"
theorem Kbj(vx:Def P w K mg base "paper_for" 11 3 XG)(wV:Def P w K mg base "best_by" 11 2 W4)(vB:Def P w K mg base "all_worths" 8 2 XI)(F:Fun K "best_dealing" "best_dealing" Sbj f fd):FnOk P w K mg base CX0 12 f fd ["wishes", "aim"] (spD K 2 WZ):=
 okD (k:=11) (g:=Tw) F (fq Hbj 2) xf λcdv A outer s H E B G0 hr=>
 have nm:=Hbj
 by walk_at "d"
theorem Kbs(xQ:Def P w K mg base "_law_rank" 1 3 Y1)(xP:Def P w K mg base "_law_longest" 1 1 Y0)(F:Fun K "_law_counts" "_law_counts" Sbs f fd):FnOk P w K mg base CX0 2 f fd ["_law_wishes_here", "_law_dealing"] (spD K 2 WU):=
 okD (k:=1) (g:=To) F (fq Hbs 2) xf λcdv A outer s H E B G0 hr=>
 have nm:=Hbs
 by walk_at "d"
theorem Kbv(xP:Def P w K mg base "_law_longest" 1 1 Y0)(xQ:Def P w K mg base "_law_rank" 1 3 Y1)(wN:Def P w K mg base "_law_counts" 2 2 WU)(F:Fun K "_law_key" "_law_key" Sbv f fd):FnOk P w K mg base CX0 3 f fd ["_law_wishes_here", "_law_aim_here", "_law_dealing"] (spD K 3 Wa):=
 okD (k:=2) (g:=Tk) F (fq Hbv 3) xf λcdv A outer s H E B G0 hr=>
 have nm:=Hbv
 by walk_at "d"
theorem Kbq(F:Fun K "_law_wished" "_law_wished" Sbq f fd):FnOk P w K mg base CX0 1 f fd ["_law_wishes_here", "_law_asker"] (spD K 2 WW):=
 okD (k:=0) (g:=Tq) F (fq Hbq 2) xf λcdv A outer s H E B G0 hr=>
 have nm:=Hbq
 by walk_at "d"
theorem Kbt(wP:Def P w K mg base "_law_wished" 1 2 WW)(F:Fun K "_law_all" "_law_all" Sbt f fd):FnOk P w K mg base CX0 2 f fd ["_law_wishes_here"] (spD K 1 WT):=
 okD (k:=1) (g:=Tn) F (fq Hbt 1) xf λcdv A outer s H E B G0 hr=>
 have nm:=Hbt
 by walk_at "d"
theorem Kbr(xR:Def P w K mg base "_law_numbers" 1 3 YM)(F:Fun K "_law_aim" "_law_aim" Sbr f fd):FnOk P w K mg base CX0 2 f fd ["_law_wishes_here", "_law_cell", "_law_salt"] (spD K 3 WV):=
 okD (k:=1) (g:=Tp) F (fq Hbr 3) xf λcdv A outer s H E B G0 hr=>
 have nm:=Hbr
 by walk_at "d"
theorem Kbn(xR:Def P w K mg base "_law_numbers" 1 3 YM)(vw:Def P w K mg base "_law_cell_at" 1 2 Y2)(F:Fun K "_law_wishes" "_law_wishes" Sbn f fd):FnOk P w K mg base CX0 2 f fd ["_law_script", "_law_at", "_law_most_things", "_law_most_askers", "_law_most_ranks"] (spD K 5 WX):=
 okD (k:=1) (g:=Tt) F (fq Hbn 5) xf λcdv A outer s H E B G0 hr=>
 have nm:=Hbn
 by walk_at "d"
theorem Kby(vw:Def P w K mg base "_law_cell_at" 1 2 Y2)(wL:Def P w K mg base "_law_copy" 1 1 Wb)(wR:Def P w K mg base "bettered" 12 3 WY)(xR:Def P w K mg base "_law_numbers" 1 3 YM)(wI:Def P w K mg base "_law_above" 3 3 X9)(wS:Def P w K mg base "best_dealing" 12 2 WZ)(wK:Def P w K mg base "_law_key" 3 3 Wa)(wM:Def P w K mg base "_law_all" 2 1 WT)(wO:Def P w K mg base "_law_aim" 2 3 WV)(wQ:Def P w K mg base "_law_wishes" 2 5 WX)(F:Fun K "law" "law" Sby f fd):FnOk P w K mg base CX0 13 f fd ["_law_script"] (spD K 1 WS):=
 okD (k:=12) (g:=Th) F (fq Hby 1) xf λcdv A outer s H E B G0 hr=>
 have nm:=Hby
 by walk_at "d"
end
theorem K5:recsOf q0=Ro p0 ixL:=by show recsOf (PySem.W.view PySem.Challenge.pw_wishdeal_k42_best_of_all_small XQ)=Ro PySem.Challenge.pw_wishdeal_k42_best_of_all_small ixL;rw[PySem.W.Fast.te3399658132070893891,PySem.W.Fast.te12102805156412171023];kernel_rfl
theorem Y5:(["all", "bool", "enumerate", "int", "isinstance", "len", "list", "max", "range", "set", "sorted", "str", "sum", "tuple", "zip"]:List Str).all (RU q0 (PySem.W.looseW q0 []))=xi:=by show List.all _ (RU (PySem.W.view PySem.Challenge.pw_wishdeal_k42_best_of_all_small XQ) (PySem.W.looseW (PySem.W.view PySem.Challenge.pw_wishdeal_k42_best_of_all_small XQ) []))=xi;k_qdec
theorem kZ:valOf q0 "MOST_ASKERS" = O (.int 7):=by show valOf (PySem.W.view PySem.Challenge.pw_wishdeal_k42_best_of_all_small XQ) _=_;rw[JD,PySem.W.Fast.te12102805156412171023];kernel_rfl
theorem kY:valOf q0 "MOST_COPIES" = O (.int 7):=by show valOf (PySem.W.view PySem.Challenge.pw_wishdeal_k42_best_of_all_small XQ) _=_;rw[JD,PySem.W.Fast.te12102805156412171023];kernel_rfl
theorem kM:valOf q0 "MOST_RANKS" = O (.int 5):=by show valOf (PySem.W.view PySem.Challenge.pw_wishdeal_k42_best_of_all_small XQ) _=_;rw[JD,PySem.W.Fast.te12102805156412171023];kernel_rfl
theorem kX:valOf q0 "MOST_THINGS" = O (.int 6):=by show valOf (PySem.W.view PySem.Challenge.pw_wishdeal_k42_best_of_all_small XQ) _=_;rw[JD,PySem.W.Fast.te12102805156412171023];kernel_rfl
theorem qa:tupStrsOf q0 "ORDERS" = O (["firsts", "full", "lasts"]:List Str):=by show tupStrsOf (PySem.W.view PySem.Challenge.pw_wishdeal_k42_best_of_all_small XQ) _=_;rw[PySem.W.Fast.te14491516231548247274,PySem.W.Fast.te12102805156412171023];kernel_rfl
theorem Er{l:PySem.W.OpenLaw}{w:World}{s0:UB}{mg mb:Str->xr}{fa:UD}{h:Heap}{XP:(Str->xr)->Heap->Prop}(G:PySem.W.Ground q0 [] [] XP w s0 mg mb h)(hfa:mg "law" = O (.ref fa)) :
  ∃fd:UE,(∀(s:UB)(v:UA),BindsTo s fd ⟨[v],[]⟩ [("_law_script", v)])/\∀base:Heap,FnOk l.prog w (whole h) mg base CX0 13 fa fd ["_law_script"] (spD (whole h) 1 WS):=by
 have T:Txt (whole h) mg:=⟨Y7 G.T Y5 (mq 0 xf),Y7 G.T Y5 (mq 1 xf),Y7 G.T Y5 (mq 2 xf),Y7 G.T Y5 (mq 3 xf),Y7 G.T Y5 (mq 4 xf),Y7 G.T Y5 (mq 5 xf),Y7 G.T Y5 (mq 6 xf),Y7 G.T Y5 (mq 7 xf),Y7 G.T Y5 (mq 8 xf),Y7 G.T Y5 (mq 9 xf),Y7 G.T Y5 (mq 10 xf),Y7 G.T Y5 (mq 11 xf),Y7 G.T Y5 (mq 12 xf),Y7 G.T Y5 (mq 13 xf),Y7 G.T Y5 (mq 14 xf),PJ G.T kZ,PJ G.T kY,PJ G.T kM,PJ G.T kX,AY G.B qa (by decide)⟩
 refine FE G.T K5 69 "law" rfl xf hfa (λ_ _ _ _ _ _ _=>rfl) λbase=>?_
 have vw:=Za l.prog w base G.T K5 56 "_law_cell_at" rfl xf (λF=>Kbl T  F) λ_ _ _ _ _ _ us hl=>bz2 (us:=us) hl λ_ _=>rfl
 have wL:=Za l.prog w base G.T K5 65 "_law_copy" rfl xf (λF=>Kbu T  F) λ_ _ _ _ _ _ us hl=>bz1 (us:=us) hl λ_=>rfl
 have wT:=Za l.prog w base G.T K5 50 "asks_beyond" rfl xf (λF=>Kbh T  F) λ_ _ _ _ _ _ us hl=>bz3 (us:=us) hl λ_ _ _=>rfl
 have vV:=Za l.prog w base G.T K5 39 "place_of" rfl xf (λF=>Kaw T  F) λ_ _ _ _ _ _ us hl=>bz2 (us:=us) hl λ_ _=>rfl
 have w4:=Za l.prog w base G.T K5 40 "steps_of_askers" rfl xf (λF=>Kax T vV F) λ_ _ _ _ _ _ us hl=>bz3 (us:=us) hl λ_ _ _=>rfl
 have yo:=Za l.prog w base G.T K5 1 "is_whole" rfl xf (λF=>Kaa T  F) λ_ _ _ _ _ _ us hl=>bz1 (us:=us) hl λ_=>rfl
 have xG:=Za l.prog w base G.T K5 2 "is_number_below" rfl xf (λF=>Kab T yo F) λ_ _ _ _ _ _ us hl=>bz2 (us:=us) hl λ_ _=>rfl
 have ym:=Za l.prog w base G.T K5 13 "is_rank" rfl xf (λF=>Kad T xG F) λ_ _ _ _ _ _ us hl=>bz2 (us:=us) hl λ_ _=>rfl
 have yl:=Za l.prog w base G.T K5 14 "is_asker_list" rfl xf (λF=>Kae T ym F) λ_ _ _ _ _ _ us hl=>bz2 (us:=us) hl λ_ _=>rfl
 have yk:=Za l.prog w base G.T K5 15 "look_at_lists" rfl xf (λF=>Kaf T yl F) λ_ _ _ _ _ _ us hl=>bz2 (us:=us) hl λ_ _=>rfl
 have yn:=Za l.prog w base G.T K5 12 "look_at_copies" rfl xf (λF=>Kac T xG F) λ_ _ _ _ _ _ us hl=>bz1 (us:=us) hl λ_=>rfl
 have xF:=Za l.prog w base G.T K5 16 "look_at_wishes" rfl xf (λF=>Kag T yk yn F) λ_ _ _ _ _ _ us hl=>bz1 (us:=us) hl λ_=>rfl
 have yg:=Za l.prog w base G.T K5 21 "copies_left" rfl xf (λF=>Kak T xF F) λ_ _ _ _ _ _ us hl=>bz2 (us:=us) hl λ_ _=>rfl
 have wZ:=Za l.prog w base G.T K5 41 "steps_of_copies" rfl xf (λF=>Kay T yg F) λ_ _ _ _ _ _ us hl=>bz2 (us:=us) hl λ_ _=>rfl
 have vA:=Za l.prog w base G.T K5 42 "all_steps" rfl xf (λF=>Kaz T w4 wZ F) λ_ _ _ _ _ _ us hl=>bz3 (us:=us) hl λ_ _ _=>rfl
 have wY:=Za l.prog w base G.T K5 43 "longer_walks" rfl xf (λF=>Kba T  F) λ_ _ _ _ _ _ us hl=>bz2 (us:=us) hl λ_ _=>rfl
 have vz:=Za l.prog w base G.T K5 44 "widest_walks" rfl xf (λF=>Kbb T wY F) λ_ _ _ _ _ _ us hl=>bz2 (us:=us) hl λ_ _=>rfl
 have wU:=Za l.prog w base G.T K5 49 "prices_for" rfl xf (λF=>Kbg T vA vz F) λ_ _ _ _ _ _ us hl=>bz3 (us:=us) hl λ_ _ _=>rfl
 have vx:=Za l.prog w base G.T K5 51 "paper_for" rfl xf (λF=>Kbi T wT wU F) λ_ _ _ _ _ _ us hl=>bz3 (us:=us) hl λ_ _ _=>rfl
 have wX:=Za l.prog w base G.T K5 45 "round_within" rfl xf (λF=>Kbc T  F) λ_ _ _ _ _ _ us hl=>bz1 (us:=us) hl λ_=>rfl
 have wW:=Za l.prog w base G.T K5 46 "way_round" rfl xf (λF=>Kbd T  F) λ_ _ _ _ _ _ us hl=>bz2 (us:=us) hl λ_ _=>rfl
 have vy:=Za l.prog w base G.T K5 47 "gaining_way" rfl xf (λF=>Kbe T vA vz wX wW F) λ_ _ _ _ _ _ us hl=>bz3 (us:=us) hl λ_ _ _=>rfl
 have yh:=Za l.prog w base G.T K5 19 "all_wishes" rfl xf (λF=>Kaj T xF F) λ_ _ _ _ _ _ us hl=>bz1 (us:=us) hl λ_=>rfl
 have xS:=Za l.prog w base G.T K5 31 "power" rfl xf (λF=>Kaq T  F) λ_ _ _ _ _ _ us hl=>bz2 (us:=us) hl λ_ _=>rfl
 have w8:=Za l.prog w base G.T K5 33 "worth_by_turns" rfl xf (λF=>Kas T xS F) λ_ _ _ _ _ _ us hl=>bz4 (us:=us) hl λ_ _ _ _=>rfl
 have w9:=Za l.prog w base G.T K5 32 "worth_by_order" rfl xf (λF=>Kar T xS F) λ_ _ _ _ _ _ us hl=>bz4 (us:=us) hl λ_ _ _ _=>rfl
 have yj:=Za l.prog w base G.T K5 17 "rank_in" rfl xf (λF=>Kah T  F) λ_ _ _ _ _ _ us hl=>bz2 (us:=us) hl λ_ _=>rfl
 have w6:=Za l.prog w base G.T K5 34 "worth_by_aim" rfl xf (λF=>Kat T xS w8 w9 yj F) λ_ _ _ _ _ _ us hl=>bz5 (us:=us) hl λ_ _ _ _ _=>rfl
 have yi:=Za l.prog w base G.T K5 18 "longest" rfl xf (λF=>Kai T xF F) λ_ _ _ _ _ _ us hl=>bz1 (us:=us) hl λ_=>rfl
 have yb:=Za l.prog w base G.T K5 28 "is_turns" rfl xf (λF=>Kao T xG F) λ_ _ _ _ _ _ us hl=>bz2 (us:=us) hl λ_ _=>rfl
 have yd:=Za l.prog w base G.T K5 27 "is_old" rfl xf (λF=>Kan T xG F) λ_ _ _ _ _ _ us hl=>bz3 (us:=us) hl λ_ _ _=>rfl
 have yf:=Za l.prog w base G.T K5 24 "is_order" rfl xf (λF=>Kal T  F) λ_ _ _ _ _ _ us hl=>bz1 (us:=us) hl λ_=>rfl
 have ye:=Za l.prog w base G.T K5 25 "look_at_order" rfl xf (λF=>Kam T yf F) λ_ _ _ _ _ _ us hl=>bz1 (us:=us) hl λ_=>rfl
 have ya:=Za l.prog w base G.T K5 29 "look_at_aim" rfl xf (λF=>Kap T yb yd ye xF F) λ_ _ _ _ _ _ us hl=>bz2 (us:=us) hl λ_ _=>rfl
 have vB:=Za l.prog w base G.T K5 35 "all_worths" rfl xf (λF=>Kau T yh w6 yi ya F) λ_ _ _ _ _ _ us hl=>bz2 (us:=us) hl λ_ _=>rfl
 have wR:=Za l.prog w base G.T K5 54 "bettered" rfl xf (λF=>Kbk T vx vy vB F) λ_ _ _ _ _ _ us hl=>bz3 (us:=us) hl λ_ _ _=>rfl
 have xR:=Za l.prog w base G.T K5 57 "_law_numbers" rfl xf (λF=>Kbm T  F) λ_ _ _ _ _ _ us hl=>bz3 (us:=us) hl λ_ _ _=>rfl
 have xQ:=Za l.prog w base G.T K5 59 "_law_rank" rfl xf (λF=>Kbo T  F) λ_ _ _ _ _ _ us hl=>bz3 (us:=us) hl λ_ _ _=>rfl
 have xP:=Za l.prog w base G.T K5 60 "_law_longest" rfl xf (λF=>Kbp T  F) λ_ _ _ _ _ _ us hl=>bz1 (us:=us) hl λ_=>rfl
 have wJ:=Za l.prog w base G.T K5 67 "_law_place" rfl xf (λF=>Kbw T xQ xP F) λ_ _ _ _ _ _ us hl=>bz3 (us:=us) hl λ_ _ _=>rfl
 have wI:=Za l.prog w base G.T K5 68 "_law_above" rfl xf (λF=>Kbx T wJ F) λ_ _ _ _ _ _ us hl=>bz3 (us:=us) hl λ_ _ _=>rfl
 have w5:=Za l.prog w base G.T K5 37 "behind_way" rfl xf (λF=>Kav T  F) λ_ _ _ _ _ _ us hl=>bz2 (us:=us) hl λ_ _=>rfl
 have wV:=Za l.prog w base G.T K5 48 "best_by" rfl xf (λF=>Kbf T vy w5 F) λ_ _ _ _ _ _ us hl=>bz2 (us:=us) hl λ_ _=>rfl
 have wS:=Za l.prog w base G.T K5 53 "best_dealing" rfl xf (λF=>Kbj T vx wV vB F) λ_ _ _ _ _ _ us hl=>bz2 (us:=us) hl λ_ _=>rfl
 have wN:=Za l.prog w base G.T K5 63 "_law_counts" rfl xf (λF=>Kbs T xQ xP F) λ_ _ _ _ _ _ us hl=>bz2 (us:=us) hl λ_ _=>rfl
 have wK:=Za l.prog w base G.T K5 66 "_law_key" rfl xf (λF=>Kbv T xP xQ wN F) λ_ _ _ _ _ _ us hl=>bz3 (us:=us) hl λ_ _ _=>rfl
 have wP:=Za l.prog w base G.T K5 61 "_law_wished" rfl xf (λF=>Kbq T  F) λ_ _ _ _ _ _ us hl=>bz2 (us:=us) hl λ_ _=>rfl
 have wM:=Za l.prog w base G.T K5 64 "_law_all" rfl xf (λF=>Kbt T wP F) λ_ _ _ _ _ _ us hl=>bz1 (us:=us) hl λ_=>rfl
 have wO:=Za l.prog w base G.T K5 62 "_law_aim" rfl xf (λF=>Kbr T xR F) λ_ _ _ _ _ _ us hl=>bz3 (us:=us) hl λ_ _ _=>rfl
 have wQ:=Za l.prog w base G.T K5 58 "_law_wishes" rfl xf (λF=>Kbn T xR vw F) λ_ _ _ _ _ _ us hl=>bz5 (us:=us) hl λ_ _ _ _ _=>rfl
 exact λ{_ _} F=>Kby T vw wL wR xR wI wS wK wM wO wQ F
noncomputable abbrev d_by:DefRec:=⟨"law", SK Sby,WC Sby,Yk Sby,FF Sby⟩
theorem walk{YP:World->Heap->Prop}{XP:(Str->xr)->Heap->Prop}(hlaw:∀ns:xm,ns.length<=63->WS [.list (ns.map int)]=O (.bool xi)):PySem.W.WalkO q0 [] XP YP (PySem.Challenge.rw_wishdeal_k42_best_of_all_small).row.toRowW d_by [] (λf vs=>PySem.call f vs):=
 BM (n:=63) (k:=13) (x:= "_law_script") xf (by decide) xf ⟨rfl,by decide,by decide,rfl⟩ (λ_ _ _ _ _ _ G hm=>Er G hm) hlaw
theorem Gp{sizes found:xm}{z d:Int}(h:∀(j:Nat) d z,found[j]?=O d->sizes[j]?=O z->0<=d/\d<z)(hz:sizes[found.length]?=O z)(h0:0<=d/\d<z) :
  ∀(j:Nat) d' z',(found++[d])[j]?=O d'->sizes[j]?=O z'->0<=d'/\d'<z':=by
 intro j d' z' e1 e2;by_cases hj:j<found.length
 .rw[Qw hj]at e1
  exact h j d' z' e1 e2
 .by_cases vQ:j=found.length
  .subst vQ
   rw[hz]at e2;cases e2;rw[Qt (Qs _),Nat.sub_self,List.getElem?_cons_zero]at e1;cases e1;exact h0
  .rw[QE (by rw[Qm,Jb];lia)]at e1
   cases e1
noncomputable abbrev pb(d:D):Option Sl:=O (.pub d)
def inv(c s:Int)(sizes:xm)(n:Int)(i:Nat)(Z:U0):Prop:=∃left found x6 x7,Z=[O (Sl.pub (.int c)),pb (.int s),pb (.list (sizes.map .int)),pb (.int n),pb (.int left),O (.own ((found:xm).map .int)),x6,x7] /\
 found.length=i/\∀(j:Nat) d z,found[j]?=O d->sizes[j]?=O z->0<=d/\d<z
theorem A9{c s n:Int}{sizes:xm}(hs:∀x∈sizes,0<x/\x<18446744073709551616)(hl:sizes.length<=1000){i:Nat}{d:D}{Z:U0}{Q:Out->Prop}(hi:(Yx 0 sizes.length)[i]?=O d)(h:inv c s sizes n i Z) :
  ∃Z2,gN 6 d Z=O Z2/\Ho OC Z2 (Vw (inv c s sizes n (i+1)) Q):=by
 obtain⟨left,found,x6,x7,rfl,hf,hfd⟩:=h;obtain⟨rfl,hlt⟩:=Te hi;obtain⟨z,hz⟩:∃z,sizes[i]?=O z:=⟨sizes[i]'(by lia),Qf _⟩
 obtain⟨z1,z2⟩:=hs z (Qr hz);have hix:oIx (.list (sizes.map int)) (.int (0+(i:Int)))=O (.int z):=by rw[Uq];exact ZC (by rw[Qd,hz];rfl)
 generalize hk:(0:Int)+(i:Int)=k at hix⊢;have hk1:k<18446744073709551616:=by lia
 have hk2 : -18446744073709551616<k:=by lia
 have hlen:(found.map int).length<1000000:=by rw[Qb];lia
 have pw:X4 (.int 10) (.int 18)=O (.int 1000000000000000000):=by rw[Cg (by decide)];rfl
 refine⟨_,U8 (Qa xf) xf,?_⟩;unfold OC;apply KS
 case h1=>exact Ey (Yu xf (Kl Ka Ka pw) xf) λ_=>Yu xf Ka xf
 case h2=>intro _;refine Kw (XY xf (Kl (U3 xf) (K2 xf (U3 xf) hix) (V6 (by lia))) xf hlen xf) ?_;refine ZP (K1 (Kl (U3 xf) (K2 xf (U3 xf) hix) (Lp (by lia) (by lia))) (Qa xf) xf) (Zp ?_);exact⟨_,found++[left % z],_,_,by rw[Qy];rfl,by rw[Qm,hf];rfl,Gp hfd (by rw[hf];exact hz) ⟨Int.emod_nonneg _ (by lia),Int.emod_lt_of_pos _ z1⟩⟩
 case h3=>intro _;refine Kw (K1 (Kl (Kl (Kl (Kl (U3 xf) (Kl Ka (U3 xf) (RD (by decide) (by decide))) Zu) (Kl (Kl Ka (U3 xf) (RD (by decide) (by decide))) (U3 xf) (SU hk2 hk1)) Zu) (U3 xf) Zu) Ka (V6 (by decide))) (Qa xf) xf) ?_;refine Kw (K1 (Kl (Kl (U3 xf) Ka (SU (by decide) (by decide))) Ka (V6 (by decide))) (Qa xf) xf) ?_;refine Kw (K1 (Kl (Kl (Kl (Kl (U3 xf) (U3 xf) (SU (by lia) (by lia))) Ka (V6 (by decide))) Ka (SU (by decide) (by decide))) Ka (V6 (by decide))) (Qa xf) xf) ?_;refine ZP (XY xf (Kl (Kl (U3 xf) Ka (Lp (by decide) (by decide))) (K2 xf (U3 xf) hix) (V6 (by lia))) xf hlen xf) (Zp ?_);exact⟨_,found++[_ % z],_,_,by rw[Qy];rfl,by rw[Qm,hf];rfl,Gp hfd (by rw[hf];exact hz) ⟨Int.emod_nonneg _ (by lia),Int.emod_lt_of_pos _ z1⟩⟩
theorem PZ(c s:Int){sizes:xm}(hs:∀x∈sizes,0<x/\x<18446744073709551616)(hl:sizes.length<=1000) :
  ∃r,YM [.int c,.int s,.list (sizes.map int)]=O r/\∃ds:xm,r=.list (ds.map .int)/\ds.length=sizes.length/\∀(j:Nat) d z,ds[j]?=O d->sizes[j]?=O z->0<=d/\d<z:=by
 refine Wt (Z:=[pb (.int c),pb (.int s),pb (.list (sizes.map int)),xg,xg,xg,xg,xg]) xf ?_;unfold Tu;refine Kw (K1 (ZQ (U4 (U3 xf) (U4 (Kl (V2 Ka) (U3 xf) Y4) U9)) ML) (Qa xf) xf) ?_;refine Kw (K1 (U3 xf) (Qa xf) xf) ?_;refine Kw (ZY (Wn U9 (Qa xf)) (Qa xf) xf) ?_;apply K0;apply ZV (ds:=Yx 0 sizes.length) (inv c s sizes (if -1-c > c then -1-c else c))
 case h1=>exact VG (U4 (ZZ xf (by rw[ZJ,Qb])) U9) (VP (by lia) (by lia))
 case h0=>exact⟨_,[],xg,xg,rfl,rfl,λj d z e=>by cases e⟩
 case hst=>exact λi d Z e h=>A9 hs hl e h
 case hend=>rintro Z ⟨left,found,x6,x7,rfl,hf,hfd⟩;rw[X0]at hf;exact KW (KN (ZR rfl rfl) ⟨_,rfl,found,rfl,by lia,hfd⟩)
theorem VJ:∀{xs:xk},(∀x∈xs,PyData.canLay0 x=xi)->UQ xs=xi
 |[],_=>rfl
 |x::r,h=>by
  show(PyData.canLay0 x&&UQ r)=xi
  rw[h x Qk,VJ λy hy=>h y (Qi _ hy)];rfl
theorem SN{n:Nat}:∀{xs:xk},(∀x∈xs,UR x<=n)->PyData.depthAll xs<=n
 |[],_=>by simp[PyData.depthAll]
 |x::r,h=>by
  have h1:=h x Qk;have h2:=SN (n:=n) λy hy=>h y (Qi _ hy);simp only[PyData.depthAll]
  lia
noncomputable def Zq(r:xm):D:=.list (r.map int)
noncomputable def K3(rs:List xm):D:=.list (rs.map Zq)
noncomputable def Kr(cs:xm)(ls:L3):D:=.tuple [.list (cs.map int),.list (ls.map K3)]
structure Tc(n:Nat)(rs:List xm):Prop where
 few:rs.length<=5
 some:∀r∈rs,r≠[]
 there:∀r∈rs,∀t∈r,0<=t/\t<n
 once:rs.flatten.Nodup
structure Good(cs:xm)(ls:L3):Prop where
 c1:1<=cs.length
 c6:cs.length<=6
 c7:∀c∈cs,0<=c/\c<8
 l1:1<=ls.length
 l7:ls.length<=7
 rk:∀rs∈ls,Tc cs.length rs
theorem BG(r:xm):(Zq r).canLay0=xi:=VJ λx hx=>by obtain⟨y,_,rfl⟩:=Qp.mp hx;rfl
theorem MM(i:Int):(int i).depth<=1:=by simp[UR]
theorem Rv{n:Nat}{xs:xk}(h:PyData.depthAll xs<=n):(UM xs).depth<=n+1:=by simp only[UR];lia
theorem BF(r:xm):(Zq r).depth<=2:=Rv (SN λx hx=>by obtain⟨y,_,rfl⟩:=Qp.mp hx;exact MM y)
theorem qg(i:Int):Vo [.int i]=O (.bool xi):=by refine Zo (Z:=[pb (.int i)]) xf ?_;unfold Sg;exact KN (OF (KT (U3 xf)) (λ_=>Ch (KT (U3 xf)))) xf
theorem PF{i m:Int}(h0:0<=i)(h1:i<m):ZX [.int i,.int m]=O (.bool xi):=by
 refine Zo (Z:=[pb (.int i),pb (.int m)]) xf ?_;unfold Sf;have hb:(decide (0<=i)&&decide (i<m))=xi:=by simp[h0,h1]
 refine KN (OF (t:=xi) (u:=xi) (KD (U4 (U3 xf) U9) xf (qg i)) (λ_=>?_)) xf;rw[←hb];exact KT (OZ Ka (U3 xf) xf (λ_=>U3 xf) (λ_=>rfl))
theorem PD{α:Type}(l:List α):Yq [.list (l.map λ_=>.bool xi)]=O (.bool xi):=by
 have:(l.map λ_=>UN xi)=(l.map λ_=>xi).map UN:=by rw[QW];rfl
 rw[this,MK]
 congr 2
 rw[List.all_map];induction l with
 |nil=>rfl
 |cons x r ih=>simpa using ih
theorem jE{r:xm}{n:Int}(hne:r≠[])(hl:r.length<=1000)(h:∀t∈r,0<=t/\t<n):Wf [Zq r,.int n]=O (.bool xi):=by
 refine Zo (Z:=[pb (Zq r),pb (.int n)]) xf ?_;unfold Sd;apply K0;have hlen:Kt [Zq r]=O (.int r.length):=by unfold Zq;rw[ZJ,Qb]
 have hp:0<r.length:=J7.mpr hne;apply KS
 case h1=>exact XR (Z1:=[pb (Zq r),pb (.int n)]) (Wu (U3 xf) xf) (Kl (ZZ xf hlen) Ka Wm)
 case h2=>
       intro hh;have:(r.length:Int)=0:=by simpa using hh
       lia
 case h3=>
  intro _;refine Zj (KW ?_)
  have hc:Zk (gN 2) (U5 xi) (Kb 2 ZX (U2 (UZ 2) (U2 (UZ 1) (U1)))) (r.map int) (Kz [pb (Zq r),pb (.int n)]++UL 1 xg) []=O (r.map λ_=>.bool xi):=by
   rw[RL (λ_=>xi) (λ_=>.bool xi) (λZ=>∃x,Z=[pb (Zq r),pb (.int n),x])]
   .rw[J8.mpr (λ_ _=>rfl),Jn,QW];rfl
   .rintro d hm Z ⟨x,rfl⟩
    obtain⟨t,ht,rfl⟩:=Qp.mp hm;exact⟨_,U8 (Qa xf) xf,rfl,λ_=>KD (U4 (U3 xf) (U4 (U3 xf) U9)) xf (PF (h t ht).1 (h t ht).2),_,rfl⟩
   .exact⟨xg,rfl⟩
   .rw[Qb,QG];lia
  exact KN (ZQ (U4 (KT (Yj (ZD (U3 xf) xf) hc)) U9) (PD r)) xf
theorem HK{a b c x3:Option Sl}(ha:XS a=a)(hb:XS b=b)(hc:XS c=c)(hx:XS x3=x3):∀(ds es:xk)(x4:Option Sl),es.length+ds.length<=1000000 ->
  ∃y,YV (gN 4) (U5 xi) (UZ 4) ds [a,b,c,x3,x4] es=O (es++ds,[a,b,c,x3,y])
 |[],es,x4,_=>⟨x4,by rw[YV,Je]⟩
 |d::r,es,x4,h=>by
  rw[QC]at h;obtain⟨y,e⟩:=HK ha hb hc hx r (es++[d]) (O (.pub d)) (by rw[Qm,Jb];lia);refine⟨y,?_⟩;rw[YV];have h1:gN 4 d [a,b,c,x3,x4]=O [a,b,c,x3,pb d]:=U8 (Qa xf) xf;rw[h1];dsimp only[U5];rw[Qo xf];have h2:UZ 4 [a,b,c,x3,pb d]=.ok d [a,b,c,x3,pb d]:=U3 xf;rw[h2];dsimp only;rw[Qo (by lia)];have h3:Kz [a,b,c,x3,pb d]=[a,b,c,x3,pb d]:=by unfold Kz;simp only[Qu,Uo,ha,hb,hc,hx];rfl
  rw[h3,e,Ja];rfl
theorem GE{a b:D}:∀(rs:List xm)(es:xk)(x3 x4:Option Sl),es.length+rs.flatten.length<=1000000 ->
  XZ (gN 3) (U5 xi) (Zb (UZ 3)) (gN 4) (U5 xi) (UZ 4) (rs.map Zq) [pb a,pb b,xg,x3,x4] es=O (es++rs.flatten.map int)
 |[],es,_,_,_=>by rw[List.map_nil,XZ];simp
 |r::rs,es,x3,x4,h=>by rw[QP,Qm]at h;rw[Qu,XZ];have h1:gN 3 (Zq r) [pb a,pb b,xg,x3,x4]=O [pb a,pb b,xg,pb (Zq r),x4]:=U8 (Qa xf) xf;rw[h1];dsimp only[U5];rw[Qo xf];have h2:Zb (UZ 3) [pb a,pb b,xg,pb (Zq r),x4]=.ok (r.map int) [pb a,pb b,xg,pb (Zq r),x4]:=ZD (U3 xf) xf;rw[h2];dsimp only;have h3:Kz [pb a,pb b,xg,pb (Zq r),x4]=[pb a,pb b,xg,pb (Zq r),XS x4]:=rfl;rw[h3];obtain⟨y,e⟩:=HK (a:=O (.pub a)) (b:=O (.pub b)) (c:=xg) (x3:=O (.pub (Zq r))) xf xf xf xf (r.map int) es (XS x4) (by rw[Qb];lia);rw[e];dsimp only;have ih:=GE (a:=a) (b:=b) rs (es++r.map int) (O (.pub (Zq r))) y (by rw[Qm,Qb];lia);refine Eq.trans ih ?_;rw[QP,Qy,Ja]
theorem Go{ns:xm}(h:ns.Nodup):VU ns=ns.length:=by
 unfold VU
 have:∀i,i<=ns.length->(PyProof.Rows.firstMet (λi=>ns.getD i 0) i).length=i:=by
  intro i;induction i with
  |zero=>intro _;rfl
  |succ i ih=>
   intro hi;rw[PyProof.Rows.firstMet_succ]
   have hany:(PyProof.Rows.firstMet (λi=>ns.getD i 0) i).any (· == ns.getD i 0)=xj:=by
    rw[PyProof.Rows.firstMet_any,List.any_eq_false];intro x hx;obtain⟨j,hj,rfl⟩:=Qp.mp hx;have hj:=Q7.mp hj;intro e;have e:ns.getD j 0=ns.getD i 0:=by simpa using e
    have l1:j<ns.length:=by lia
    have l2:i<ns.length:=by lia
    simp only[List.getD,Qf l1,Qf l2,Ub]at e;exact absurd ((List.getElem_inj h).mp e) (by lia)
   unfold PyProof.Rows.step_dedup;rw[hany];rw[Qv (by decide),Qm,ih (by lia)];rfl
 exact this ns.length (Qs _)
theorem kB{rs:List xm}{n:Nat}(g:Tc n rs)(hn:n<=6)(hf:rs.flatten.length<=1000):Vm [K3 rs,.int n]=O (.bool xi):=by
 refine Zo (Z:=[pb (K3 rs),pb (.int n),xg]) xf ?_;unfold Sc;have hlen:Kt [K3 rs]=O (.int rs.length):=by unfold K3;rw[ZJ,Qb]
 have h5:=g.few;have vD:∀r∈rs,r.length<=1000:=λr hr=>QR (List.Sublist.length_le (List.sublist_flatten_of_mem hr)) hf;apply K0;apply KS
 case h1=>exact XR (Z1:=[pb (K3 rs),pb (.int n),xg]) (Wu (U3 xf) xf) (Kl (ZZ xf hlen) Ka xf)
 case h2=>
       intro hh;have:(5:Int)<(rs.length:Int):=by simpa using hh
       lia
 case h3=>
  intro _;refine Zj (KW ?_)
  have hc:Zk (gN 3) (U5 xi) (Kb 2 Wf (U2 (UZ 3) (U2 (UZ 1) (U1)))) (rs.map Zq) (Kz [pb (K3 rs),pb (.int n),xg]++UL 1 xg) []=O (rs.map λ_=>.bool xi):=by
   rw[RL (λ_=>xi) (λ_=>.bool xi) (λZ=>∃x,Z=[pb (K3 rs),pb (.int n),xg,x])]
   .rw[J8.mpr (λ_ _=>rfl),Jn,QW];rfl
   .rintro d hm Z ⟨x,rfl⟩
    obtain⟨r,hr,rfl⟩:=Qp.mp hm;exact⟨_,U8 (Qa xf) xf,rfl,λ_=>KD (U4 (U3 xf) (U4 (U3 xf) U9)) xf (jE (g.some r hr) (vD r hr) (g.there r hr)),_,rfl⟩
   .exact⟨xg,rfl⟩
   .rw[Qb,QG];lia
  apply K0;apply KS
  case h1=>exact Wq (WJ (ZQ (U4 (KT (Yj (ZD (U3 xf) xf) hc)) U9) (PD rs)))
  case h2=>intro hh;cases hh
  case h3=>
   intro _;refine Zj (KW ?_);have h2:Rm (Zb (UZ 0)) 2 (gN 3) (U5 xi) (Zb (UZ 3)) (gN 4) (U5 xi) (UZ 4) [pb (K3 rs),pb (.int n),xg]=.ok (rs.flatten.map int) [pb (K3 rs),pb (.int n),xg]:=by unfold Rm;have e1:Zb (UZ 0) [pb (K3 rs),pb (.int n),xg]=.ok (rs.map Zq) [pb (K3 rs),pb (.int n),xg]:=ZD (U3 xf) xf;rw[e1];dsimp only;have e2:=GE (a:=K3 rs) (b:=.int n) rs [] xg xg (by rw[QG];lia);have e3:XZ (gN 3) (U5 xi) (Zb (UZ 3)) (gN 4) (U5 xi) (UZ 4) (rs.map Zq) (Kz [pb (K3 rs),pb (.int n),xg]++UL 2 xg) []=O ([]++rs.flatten.map int):=e2;rw[e3];rfl
   refine Kw (ZY h2 (Qa xf) xf) ?_;have hls:WA [.list (rs.flatten.map int)]=O (.int rs.flatten.length):=by unfold WA;dsimp only;rw[SX];dsimp only;rw[Qo (by lia),Go g.once]
   refine KN (KT (Kl (ZQ (U4 (ZR xf xf) U9) hls) (ZZ xf ZJ) Wm)) ?_;rw[Qb];simp
theorem Xi{d:D}:∀{xs:xk}{k i:Nat},(Yv k xs)[i]?=O d->∃x,xs[i]?=O x/\d=.tuple [.int ((k+i:Nat):Int),x]
 |[],k,i,h=>by cases h
 |x::r,k,0,h=>by cases h;exact⟨x,rfl,rfl⟩
 |x::r,k,i+1,h=>by obtain⟨y,e,q⟩:=Xi (xs:=r) (k:=k+1) (i:=i) h;exact⟨y,e,by rw[q];congr 4;lia⟩
theorem RB:∀(n:Nat)(l:xm),l.Nodup->(∀x∈l,0<=x/\x<n)->l.length<=n
 |0,[],_,_=>Qs _
 |0,x::r,_,h=>by have:=h x Qk;lia
 |n+1,l,hn,h=>by
  by_cases hm:(n:Int)∈l
  .have:=RB n (l.erase (n:Int)) (hn.erase _) λx hx=>by
    have h1:=(List.Nodup.mem_erase_iff hn).mp hx;have h2:=h x h1.2;have h3:=h1.1
    lia
   rw[List.length_erase_of_mem hm]at this
   lia
  .have:=RB n l hn λx hx=>by
    have h2:=h x hx;have h3:x≠(n:Int):=λe=>hm (e ▸ hx)
    lia
   lia
theorem OS{n:Nat}{rs:List xm}(g:Tc n rs):rs.flatten.length<=n:=RB n _ g.once λx hx=>by obtain⟨r,hr,hxr⟩:=Uv.mp hx;exact g.there r hr x hxr
theorem qf{cs:xm}(h1:1<=cs.length)(h6:cs.length<=6)(h:∀c∈cs,0<=c/\c<8):Vn [.list (cs.map int)]=O .none:=by
 refine Rs (Z:=[pb (.list (cs.map int)),xg,xg]) xf ?_;unfold Se;have hlen:Kt [.list (cs.map int)]=O (.int cs.length):=by rw[ZJ,Qb]
 apply K0;apply KS
 case h1=>exact XR (Z1:=[pb (.list (cs.map int)),xg,xg]) (Wu (U3 xf) xf) (Wq (OZ Ka (ZZ xf hlen) xf (λ_=>Ka) (λ_=>rfl)))
 case h2=>
  intro hh;have a1:(1:Int)<=(cs.length:Int):=by lia
  have a2:(cs.length:Int)<=6:=by lia
  simp[a1,a2]at hh
 case h3=>
  intro _;refine Zj (KW ?_);apply ZV (λ_ Z=>∃x1 x2,Z=[pb (.list (cs.map int)),x1,x2])
  case h1=>exact Xu (U4 (U3 xf) U9) Xs
  case h0=>exact⟨_,_,rfl⟩
  case hst=>
   rintro i d Z hi ⟨x1,x2,rfl⟩;obtain⟨x,hx,rfl⟩:=Xi hi;obtain⟨c,hc,rfl⟩:=Qp.mp (Qr hx);refine⟨_,KO xf (Ki (U8 (Qa xf) xf) (Ki (U8 (Qa xf) xf) KP)),?_⟩;unfold M8;apply KS
   case h1=>exact Wq (WJ (KD (U4 (U3 xf) (U4 (Kl Ka Ka Zu) U9)) xf (PF (h c hc).1 (by have:=(h c hc).2;lia))))
   case h2=>intro hh;cases hh
   case h3=>exact λ_=>Zj (Zp ⟨_,_,rfl⟩)
  case hend=>exact λZ ⟨x1,x2,e⟩=>⟨_,rfl⟩
theorem BE{ls:L3}{n:Nat}(hn:n<=6)(h1:1<=ls.length)(h7:ls.length<=7)(h:∀rs∈ls,Tc n rs):Vl [.list (ls.map K3),.int n]=O .none:=by
 refine Rs (Z:=[pb (.list (ls.map K3)),pb (.int n),xg,xg]) xf ?_;unfold Sb;have hlen:Kt [.list (ls.map K3)]=O (.int ls.length):=by rw[ZJ,Qb]
 apply K0;apply KS
 case h1=>exact XR (Z1:=[pb (.list (ls.map K3)),pb (.int n),xg,xg]) (Wu (U3 xf) xf) (Wq (OZ Ka (ZZ xf hlen) xf (λ_=>Ka) (λ_=>rfl)))
 case h2=>
  intro hh;have a1:(1:Int)<=(ls.length:Int):=by lia
  have a2:(ls.length:Int)<=7:=by lia
  simp[a1,a2]at hh
 case h3=>
  intro _;refine Zj (KW ?_);apply ZV (λ_ Z=>∃x2 x3,Z=[pb (.list (ls.map K3)),pb (.int n),x2,x3])
  case h1=>exact Xu (U4 (U3 xf) U9) Xs
  case h0=>exact⟨_,_,rfl⟩
  case hst=>
   rintro i d Z hi ⟨x1,x2,rfl⟩;obtain⟨x,hx,rfl⟩:=Xi hi;obtain⟨rs,hrs,rfl⟩:=Qp.mp (Qr hx);refine⟨_,KO xf (Ki (U8 (Qa xf) xf) (Ki (U8 (Qa xf) xf) KP)),?_⟩;unfold M9;have hfl:=OS (h rs hrs);apply KS
   case h1=>exact Wq (WJ (KD (U4 (U3 xf) (U4 (U3 xf) U9)) xf (kB (h rs hrs) hn (by lia))))
   case h2=>intro hh;cases hh
   case h3=>exact λ_=>Zj (Zp ⟨_,_,rfl⟩)
  case hend=>exact λZ ⟨x1,x2,e⟩=>⟨_,rfl⟩
theorem PB{cs:xm}{ls:L3}(g:Good cs ls):YD [Kr cs ls]=O .none:=by
 refine Rs (Z:=[pb (Kr cs ls),xg,xg]) xf ?_;unfold Sa;apply K0;apply KS
 case h1=>exact XR (Z1:=[pb (Kr cs ls),xg,xg]) (Wu (U3 xf) xf) (Kl (ZZ xf xf) Ka Rw)
 case h2=>intro hh;cases hh
 case h3=>
  intro _;refine Zj (KW ?_);have hlen:Kt [.list (cs.map int)]=O (.int (cs.length:Nat)):=by rw[ZJ,Qb]
  refine Kw (V1 (U3 xf) (KO xf (Ki (U8 (Qa xf) xf) (Ki (U8 (Qa xf) xf) KP)))) ?_;refine Kw (VF (KD (U4 (U3 xf) U9) xf (qf g.c1 g.c6 g.c7))) ?_;exact ZP (VF (KD (U4 (U3 xf) (U4 (ZZ xf hlen) U9)) xf (BE g.c6 g.l1 g.l7 g.rk))) ⟨_,rfl⟩
theorem Pu:∀(xs ys:xm),PyData.eqvAll (xs.map int) (ys.map int)=decide (xs=ys)
 |[],[]=>rfl
 |[],y::ys=>by simp[PyData.eqvAll]
 |x::xs,[]=>by simp[PyData.eqvAll]
 |x::xs,y::ys=>by
  have ih:=Pu xs ys
  show(US (.int x) (.int y)&&PyData.eqvAll (xs.map int) (ys.map int))=_
  rw[ih];have:US (.int x) (.int y)=decide (x=y):=rfl;rw[this,JN];simp
theorem qe{xs:xm}:oNe (.list (xs.map int)) (.list [])=O (!decide (xs=[])):=by
 unfold oNe;have h1:(UM (xs.map int)).canLay0=xi:=BG xs;have h3:(UM (xs.map int)).depth<=60:=by have:=BF xs;unfold Zq at this;lia
 rw[Qo ⟨h1,rfl,h3⟩]
 congr 2
 exact Pu xs []
theorem CB{xs:xk}{x:D}(h:xs.getLast?=O x):oIx (.list xs) (.int (-1))=O x:=by
 unfold oIx atI;have hl:xs≠[]:=by rintro rfl;cases h
 have hp:0<xs.length:=J7.mpr hl;rw[List.getLast?_eq_getElem?]at h
 show(ixN xs.length (-1)).bind _=_
 unfold ixN;rw[Qv (by decide),Qo (by lia)];have e2:(-1+(xs.length:Int)).toNat=xs.length-1:=by lia
 simp only[Option.bind_some];rw[e2];exact h
theorem ON{xs:xm}{k:Nat}(h:k<xs.length):oIx (.list (xs.map int)) (.int k)=O (.int (xs.getD k 0)):=by refine ZC ?_;rw[Qd,Qf h];simp[List.getD,List.getElem?_eq_getElem h]
theorem PY(ns:xm)(k:Nat)(hl:ns.length<=1000):∃v,Y2 [.list (ns.map int),.int k]=O (.int v):=by
 have hlen:Kt [.list (ns.map int)]=O (.int ns.length):=by rw[ZJ,Qb]
 by_cases h:k<ns.length
 .refine⟨ns.getD k 0,Zo (Z:=[pb (.list (ns.map int)),pb (.int k)]) xf ?_⟩
  unfold WN;apply K0;apply KS
  case h1=>exact Yu xf (ZZ xf hlen) xf
  case h2=>exact λ_=>KN (K2 xf (U3 xf) (ON h)) (WI xf)
  case h3=>
        intro hh;have:¬(k:Int)<(ns.length:Int):=by simpa using hh
        lia
 .refine⟨0,Zo (Z:=[pb (.list (ns.map int)),pb (.int k)]) xf ?_⟩
  unfold WN;apply K0;apply KS
  case h1=>exact Yu xf (ZZ xf hlen) xf
  case h2=>
        intro hh;have:(k:Int)<(ns.length:Int):=by simpa using hh
        lia
  case h3=>exact λ_=>Zj (KW (KN Ka xf))
noncomputable def tab:xm:=[1,1,2,0,3,7,1,4,5,6,1]
theorem Mi{z:Int}(h0:0<=z)(h1:z<11):oIx (.list (tab.map int)) (.int z)=O (.int (tab.getD z.toNat 0))/\0<=tab.getD z.toNat 0/\tab.getD z.toNat 0<8:=by
 have e:z=0∨z=1∨z=2∨z=3∨z=4∨z=5∨z=6∨z=7∨z=8∨z=9∨z=10:=by lia
 rcases e with rfl|rfl|rfl|rfl|rfl|rfl|rfl|rfl|rfl|rfl|rfl<;>exact⟨rfl,by decide,by decide⟩
structure VZ(n:Nat)(pl:xm)(j:Nat)(rs:List xm):Prop where
 few:rs.length<=j
 some:∀r∈rs,r≠[]
 there:∀r∈rs,∀t∈r,(0<=t/\t<n)/\pl.getD t.toNat 0<1+(j:Int)
 once:rs.flatten.Nodup
noncomputable def Vt(n:Nat)(pl:xm)(r:Int):xm:=((UK n).filter λk=>decide (pl.getD k 0=r)).map λk:Nat=>(k:Int)
theorem kA(n:Nat)(pl:xm)(r:Int):(Vt n pl r).Nodup:=by unfold Vt;refine List.Pairwise.map _ (λa b h e=>h (by lia)) ((List.nodup_range).filter _)
theorem HJ{n:Nat}{pl:xm}{r t:Int}(h:t∈Vt n pl r):(0<=t/\t<n)/\pl.getD t.toNat 0=r:=by
 unfold Vt at h;obtain⟨k,hk,rfl⟩:=Qp.mp h;have hk:=Uw.mp hk;have h1:=Q7.mp hk.1;have h2:pl.getD k 0=r:=by simpa using hk.2
 exact⟨⟨by lia,by lia⟩,by rw[QD];exact h2⟩
theorem VZ.add{n:Nat}{pl:xm}{j:Nat}{rs:List xm}{row:xm}(g:VZ n pl j rs)(hne:row≠[])(hm:∀t∈row,t∈Vt n pl (1+(j:Int)))(hn:row.Nodup):VZ n pl (j+1) (rs++[row]) where
 few:=by rw[Qm,Jb];have:=g.few;lia
 some:=λr hr=>by
  rcases QU.mp hr with z|z
  .exact g.some r z
  .rw[QZ.mp z];exact hne
 there:=λr hr t ht=>by
  rcases QU.mp hr with z|z
  .have:=g.there r z t ht;exact⟨this.1,by lia⟩
  .rw[QZ.mp z]at ht
   have:=HJ (hm t ht);exact⟨this.1,by lia⟩
 once:=by
  rw[List.flatten_append,List.flatten_singleton];refine List.nodup_append.mpr ⟨g.once,hn,λa ha b hb e=>?_⟩;subst e;obtain⟨r,hr,har⟩:=Uv.mp ha;have h1:=(g.there r hr a har).2;have h2:=(HJ (hm a hb)).2
  lia
theorem VZ.next{n:Nat}{pl:xm}{j:Nat}{rs:List xm}(g:VZ n pl j rs):VZ n pl (j+1) rs:=
 ⟨by have:=g.few;lia,g.some,λr hr t ht=>⟨(g.there r hr t ht).1,by have:=(g.there r hr t ht).2;lia⟩,g.once⟩
theorem Pe{x:D}{m:Nat}(h:m<=1000):KJ (.list [x]) (.int m)=O (.list (UL m x)):=by
 rw[Gv ⟨by lia,by lia,by rw[QD];show 1*m<=_;lia⟩,QD]
 congr 2
 induction m with
 |zero=>rfl
 |succ m ih=>rw[Q0,QP,ih (by lia)];rfl
noncomputable def szG(T A:Nat):xm:=(T:Int)::(A:Int)::UL T 11
noncomputable def YJ(T R:Nat):xm:=UL T ((R:Int)+1)++[2]
theorem Lf{T A:Nat}:(szG T A).length=T+2:=by unfold szG;simp
theorem L5{T R:Nat}:(YJ T R).length=T+1:=by unfold YJ;simp
theorem Ep{T A:Nat}(h1:1<=T)(h2:T<=6)(h3:1<=A)(h4:A<=7):∀x∈szG T A,0<x/\x<18446744073709551616:=λx hx=>by unfold szG at hx;simp only[List.mem_cons,Uf]at hx;rcases hx with rfl|rfl|⟨_,rfl⟩<;>lia
theorem CA{T R:Nat}(h:R<=5):∀x∈YJ T R,0<x/\x<18446744073709551616:=λx hx=>by unfold YJ at hx;simp only[List.mem_append,List.mem_singleton,Uf]at hx;rcases hx with ⟨_,rfl⟩|rfl<;>lia
theorem qd{T R:Nat}:(YJ T R)[T]?=O 2:=by unfold YJ;simp
theorem Eo{T A k:Nat}(h:k<T):(szG T A)[2+k]?=O 11:=by unfold szG;rw[show 2+k=k+1+1 by lia,Ua,Ua,QA,Qo h]
def P5(T A R:Nat)(S dz sz:D)(at_ n:Nat)(cs pl:xm)(ls:L3)(x9 xT:Option Sl)(j:Nat)(Z:U0):Prop:=∃(rs:List xm)(vW vi:Option Sl),
 Z=[pb S,pb (.int at_),pb (.int (T:Nat)),pb (.int (A:Nat)),pb (.int (R:Nat)),pb sz,pb dz,O (.own (cs.map int)),O (.own (ls.map K3)),x9,xT,pb (.list (pl.map int)),O (.own (rs.map Zq)),vW,vi]/\VZ n pl j rs
theorem jD{T A R:Nat}{S dz sz:D}{at_ n:Nat}{cs pl:xm}{ls:L3}{v9 v10:D}{j:Nat}{d:D}{Z:U0}{Q:Out->Prop}(hcs:cs.length=n)(hT:T<=6)(hR:R<=5)(hn:n<=T)(hpl:pl.length=T+1)(vd:pl.getD T 0=0∨pl.getD T 0=1)
  (hj:(Yx 1 ((R:Int)+1))[j]?=O d) (h:P5 T A R S dz sz at_ n cs pl ls (O (.pub v9)) (O (.pub v10)) j Z) :
  ∃Z2,gN 13 d Z=O Z2/\Ho OB Z2 (Vw (P5 T A R S dz sz at_ n cs pl ls (O (.pub v9)) (O (.pub v10)) (j+1)) Q):=by
 obtain⟨rs,vW,vi,rfl,g⟩:=h;obtain⟨rfl,hlt⟩:=Te hj;have hj5:j<R:=by lia
 refine⟨_,U8 (Qa xf) xf,?_⟩;unfold OB
 have hrd:Yx 0 ((n:Nat):Int)=(UK n).map λk=>.int (k:Int):=by
  unfold Yx;have:((n:Int)-0).toNat=n:=by lia
  rw[this];apply JL;intro k _;rw[Uq]
 have hc:Zk (gN 15) (U6 oEq (Kj 11 (UZ 15)) (UZ 13)) (UZ 15) (Yx 0 ((n:Nat):Int)) (Kz [pb S,pb (.int at_),pb (.int (T:Nat)),pb (.int (A:Nat)),pb (.int (R:Nat)),pb sz,pb dz,O (.own (cs.map int)),O (.own (ls.map K3)),pb v9,pb v10,pb (.list (pl.map int)),O (.own (rs.map Zq)),pb (.int (1+(j:Int))),vi]++UL 1 xg) []=O ((Vt n pl (1+(j:Int))).map int):=by
  rw[hrd,RL (λd=>match d with | .int k=>decide (pl.getD k.toNat 0=1+(j:Int))|_=>xj) (λd=>d) (λZ=>∃x,Z=[pb S,pb (.int at_),pb (.int (T:Nat)),pb (.int (A:Nat)),pb (.int (R:Nat)),pb sz,pb dz,xg,xg,pb v9,pb v10,pb (.list (pl.map int)),xg,pb (.int (1+(j:Int))),XS vi,x])]
  .rw[Jn,List.map_id',List.filter_map]
   unfold Vt;rw[QW];rfl
  .rintro d hm Z ⟨x,rfl⟩
   obtain⟨k,hk,rfl⟩:=Qp.mp hm;have hk:=Q7.mp hk;refine⟨_,U8 (Qa xf) xf,Kl (K2 xf (U3 xf) (ON (by lia))) (U3 xf) Wm,λ_=>U3 xf,pb (.int k),?_⟩;unfold Kz;cases vi with
   |none=>rfl
   |some sl=>cases sl<;>rfl
  .exact⟨xg,rfl⟩
  .rw[Qb,Qq,QG];lia
 have hlen:(cs.map int).length=n:=by rw[Qb,hcs]
 refine Kw (ZY (Yj (VG (U4 (Cj xf) U9) (by rw[hlen];exact VP (by lia) (by lia))) hc) (Qa xf) xf) ?_;generalize wk:Vt n pl (1+(j:Int))=row;apply KS
 case h1=>exact B0 xf (Zw U9 (by decide)) xf qe
 case h2=>
  intro hh;have hne:row≠[]:=by simpa using hh
  have hlx:oIx (.list (pl.map int)) (.int (-1))=O (.int (pl.getD T 0)):=CB (by rw[List.getLast?_eq_getElem?,Qb,hpl,Qd,JY,Qf (show T<pl.length by lia)];simp[List.getD,List.getElem?_eq_getElem (show T<pl.length by lia)])
  obtain⟨va,hix,vb⟩:∃va:xm,oIx (.list [.list (row.map int),.list (row.map int).reverse]) (.int (pl.getD T 0))=O (Zq va)/\(va=row∨va=row.reverse):=by
   rcases vd with e|e
   .rw[e];exact⟨row,rfl,.inl xf⟩
   .rw[e];exact⟨row.reverse,by show O (UM (row.map int).reverse)=_;unfold Zq;rw[List.map_reverse],.inr xf⟩
  have vD:(rs.map Zq).length<1000000:=by rw[Qb];have:=g.few;lia
  refine ZP (XY xf (Kl (Zw (U4 (ZR xf xf) (U4 (Ml (U3 xf) Ka Ka (Y8 (V2 Ka))) U9)) (Qa xf)) (K2 xf (V2 Ka) hlx) hix) xf vD xf) ?_;refine Zp ⟨rs++[va],pb (.int (1+(j:Int))),pb (.list (row.map int)),by rw[Qy];rfl,g.add ?_ ?_ ?_⟩
  .rcases vb with e|e<;>rw[e]
   .exact hne
   .exact λz=>hne (List.reverse_eq_nil_iff.mp z)
  .intro t ht
   rw[wk];rcases vb with e|e<;>rw[e]at ht
   .exact ht
   .exact List.mem_reverse.mp ht
  .have hnd:=kA n pl (1+(j:Int))
   rw[wk]at hnd;rcases vb with e|e<;>rw[e]
   .exact hnd
   .exact(List.reverse_perm row).nodup_iff.mpr hnd
 case h3=>exact λ_=>Zj (Zp ⟨rs,_,_,rfl,g.next⟩)
def P4(T A R:Nat)(S dz sz:D)(at_ n:Nat)(cs:xm)(i:Nat)(Z:U0):Prop:=∃(ls:L3)(x9 xT vg x12 vW vi:Option Sl),
 Z=[pb S,pb (.int at_),pb (.int (T:Nat)),pb (.int (A:Nat)),pb (.int (R:Nat)),pb sz,pb dz,O (.own (cs.map int)),O (.own (ls.map K3)),x9,xT,vg,x12,vW,vi]/\ls.length=i/\∀rs∈ls,Tc n rs/\rs.length<=R
theorem kz{T A R:Nat}{ns:xm}{dz sz:D}{at_ n:Nat}{cs:xm}{i:Nat}{m:Int}{d:D}{Z:U0}{Q:Out->Prop}(hns:ns.length<=1000)(hT:T<=6)(hR:R<=5)(hcs:cs.length=n)(hn:n<=T)(hm:m<=100)
  (hi:(Yx 0 m)[i]?=O d) (h:P4 T A R (.list (ns.map int)) dz sz at_ n cs i Z) :
  ∃Z2,gN 9 d Z=O Z2/\Ho OA Z2 (Vw (P4 T A R (.list (ns.map int)) dz sz at_ n cs (i+1)) Q):=by
 obtain⟨ls,x9,xT,vg,x12,vW,vi,rfl,hl,hg⟩:=h;obtain⟨rfl,hlt⟩:=Te hi;refine⟨_,U8 (Qa xf) xf,?_⟩;unfold OA;obtain⟨v,hv⟩:=PY ns (at_+1+i) hns;have ev:((at_:Int)+1+(0+(i:Int)))=((at_+1+i:Nat):Int):=by lia
 rw[←ev]at hv;refine Kw (K1 (KD (U4 (U3 xf) (U4 (Kl (Kl (U3 xf) Ka Zu) (U3 xf) Zu) U9)) xf hv) (Qa xf) xf) ?_;obtain⟨r,hF,pl,rfl,hpl,hpb⟩:=PZ v (11*(at_:Int)+3*(0+(i:Int))+1) (sizes:=YJ T R) (CA hR) (by rw[L5];lia);have hpl7:pl.length=T+1:=by rw[hpl,L5]
 have hmul:KJ (.list [.int ((R:Int)+1)]) (.int (T:Nat))=O (.list (UL T (.int ((R:Int)+1)))):=Pe (by lia);have hadd:Kf (.list (UL T (.int ((R:Int)+1)))) (.list [.int 2])=O (.list ((YJ T R).map int)):=by rw[Xj (by rw[QF];show T+1<=_;lia)];unfold YJ;rw[Qy,JR];rfl
 refine Kw (K1 (KD (U4 (U3 xf) (U4 (Kl (Kl (Kl Ka (U3 xf) (RD (by decide) (by decide))) (Kl Ka (U3 xf) (RD (by decide) (by decide))) Zu) Ka Zu) (U4 (Kl (Kl (Zw (U4 (Kl (U3 xf) Ka Zu) U9) (Qa xf)) (U3 xf) hmul) (Zw (U4 Ka U9) (Qa xf)) hadd) U9))) xf hF) (Qa xf) xf) ?_;refine Kw (ZY (Wn U9 (Qa xf)) (Qa xf) xf) ?_
 have vd:pl.getD T 0=0∨pl.getD T 0=1:=by
  have e:pl[T]?=O pl[T]:=Qf (by lia);have:=hpb T pl[T] 2 e qd;have e2:pl.getD T 0=pl[T]:=by simp[List.getD,e]
  rw[e2];lia
 apply K0;apply ZV (P5 T A R (.list (ns.map int)) dz sz at_ n cs pl ls (O (.pub (.int (0+(i:Int))))) (O (.pub (.int v))))
 case h1=>exact Ci (U4 Ka (U4 (Kl (U3 xf) Ka Zu) U9)) (Bf (by lia) (by lia) (by decide) (by decide))
 case h0=>exact⟨[],vW,vi,rfl,⟨Qs _,λ_ h=>(by cases h),λ_ h=>(by cases h),List.nodup_nil⟩⟩
 case hst=>exact λj d Z e h=>jD hcs hT hR hn hpl7 vd e h
 case hend=>
  rintro Z ⟨rs,y13,y14,rfl,g⟩;refine KW ?_;have hl5:(Yx 1 ((R:Int)+1)).length=R:=by rw[X0];lia
  rw[hl5]at g;have xC:(ls.map K3).length<1000000:=by rw[Qb];lia
  refine ZP (XY xf (ZR xf xf) xf xC xf) ?_;refine Zp ⟨ls++[rs],pb (.int (0+(i:Int))),pb (.int v),pb (.list (pl.map int)),pb (.list (rs.map Zq)),y13,y14,by rw[Qy];rfl,by rw[Qm,hl];rfl,λx hx=>?_⟩;rcases QU.mp hx with z|z
  .exact hg x z
  .rw[QZ.mp z];exact⟨⟨by have:=g.few;lia,g.some,λr hr t ht=>(g.there r hr t ht).1,g.once⟩,g.few⟩
theorem kI(T A R:Nat){ns:xm}(hns:ns.length<=1000)(at_:Nat)(hT1:1<=T:=by decide)(hT:T<=6:=by decide)(hA1:1<=A:=by decide)(hA:A<=7:=by decide)(hR:R<=5:=by decide):∃r,WX [.list (ns.map int),.int at_,.int (T:Nat),.int (A:Nat),.int (R:Nat)]=O r/\∃cs ls,r=Kr cs ls/\Good cs ls/\cs.length<=T/\ls.length<=A/\∀rs∈ls,rs.length<=R:=by
 obtain⟨v,hv⟩:=PY ns at_ hns;obtain⟨r,hF,ds,rfl,hl,hd⟩:=PZ v at_ (sizes:=szG T A) (Ep hT1 hT hA1 hA) (by rw[Lf];lia);have hl8:ds.length=T+2:=by rw[hl,Lf]
 have at':∀(j:Nat)(k z:Int),k=j->(szG T A)[j]?=O z->∃d,oIx (.list (ds.map int)) (.int k)=O (.int d)/\ds[j]?=O d/\0<=d/\d<z:=λj k z hk hz=>by
  subst hk;have hj:j<ds.length:=by rw[hl];exact(Qg.mp hz).1
  have e:ds[j]?=O ds[j]:=Qf hj;obtain⟨p0,p1⟩:=hd j ds[j] z e hz;exact⟨ds[j],ZC (by rw[Qd,e];rfl),e,p0,p1⟩
 obtain⟨d0,x0,e0,p0,q0⟩:=at' 0 0 T xf xf;obtain⟨d1,x1,e1,p1,q1⟩:=at' 1 1 A xf xf;have hmul:KJ (.list [.int 11]) (.int (T:Nat))=O (.list (UL T (.int 11))):=Pe (by lia);have hadd:Kf (.list [.int (T:Nat),.int (A:Nat)]) (.list (UL T (.int 11)))=O (.list ((szG T A).map int)):=by rw[Xj (by rw[QF];show 2+T<=_;lia)];unfold szG;rw[Qu,Qu,JR];rfl
 obtain⟨n,hn⟩:∃n:Nat,1+d0=n:=⟨(1+d0).toNat,by lia⟩
 refine Wt (Z:=[pb (.list (ns.map int)),pb (.int at_),pb (.int (T:Nat)),pb (.int (A:Nat)),pb (.int (R:Nat)),xg,xg,xg,xg,xg,xg,xg,xg,xg,xg]) xf ?_;unfold Tt;refine Kw (K1 (Kl (Zw (U4 (U3 xf) (U4 (U3 xf) U9)) (Qa xf)) (Kl (Zw (U4 Ka U9) (Qa xf)) (U3 xf) hmul) hadd) (Qa xf) xf) ?_;refine Kw (K1 (KD (U4 (KD (U4 (U3 xf) (U4 (U3 xf) U9)) xf hv) (U4 (U3 xf) (U4 (U3 xf) U9))) xf hF) (Qa xf) xf) ?_
 have xK:DL.cutD (ds.map int) (O 2) (O (3+d0))=((ds.drop 2).take n).map int:=by
  rw[OX (by decide) (by lia) (by lia)];have:(3+d0).toNat-(2:Int).toNat=n:=by lia
  rw[this];rfl
 have vC:((ds.drop 2).take n).length=n:=by rw[QS,Jo,hl8];lia
 have each:∀z∈(ds.drop 2).take n,0<=z/\z<11:=λz hz=>by
  have hz:=List.mem_of_mem_take hz;obtain⟨k,hk,e⟩:=List.getElem_of_mem hz;rw[Jo,hl8]at hk;rw[List.getElem_drop]at e;have e2:ds[2+k]?=O z:=by rw[←e];exact Qf _
  refine hd (2+k) z 11 e2 (Eo ?_)
  lia
 let cs:xm:=((ds.drop 2).take n).map λz=>tab.getD z.toNat 0
 have hcl:cs.length=n:=by show(List.map _ _).length=n;rw[Qb,vC]
 have hc:∀xs:List (Option Sl),Kz xs=xs->xs.length=15->Zk (gN 15) (U5 xi) (U6 oIx (Kx (U2 (U5 (.int 1)) (U2 (U5 (.int 1)) (U2 (U5 (.int 2)) (U2 (U5 (.int 0)) (U2 (U5 (.int 3)) (U2 (U5 (.int 7)) (U2 (U5 (.int 1)) (U2 (U5 (.int 4)) (U2 (U5 (.int 5)) (U2 (U5 (.int 6)) (U2 (U5 (.int 1)) (U1))))))))))))) (UZ 15)) (((ds.drop 2).take n).map int) (Kz xs++UL 1 xg) []=O (cs.map int):=by
  intro xs hx hxl;rw[hx,RL (λ_=>xi) (λd=>match d with | .int z=>.int (tab.getD z.toNat 0)|_=>.none) (λZ=>∃x,Z=xs++[x])]
  .rw[J8.mpr (λ_ _=>rfl),Jn,QW]
   show _=O ((((ds.drop 2).take n).map λz=>tab.getD z.toNat 0).map int);rw[QW];rfl
  .rintro d hm Z ⟨x,rfl⟩
   obtain⟨z,hz,rfl⟩:=Qp.mp hm;have ht:=Mi (each z hz).1 (each z hz).2;have hset:(xs++[x]).set 15 (O (Sl.pub (.int z)))=xs++[pb (.int z)]:=by rw[List.set_append_right _ _ (by lia),hxl];rfl
   have hget:(xs++[O (Sl.pub (.int z))])[15]?=O (O (Sl.pub (.int z))):=by rw[Qt (by lia),hxl];rfl
   refine⟨_,U8 (by rw[Qm,hxl];exact Qa xf) hset,rfl,λ_=>?_,pb (.int z),?_⟩
   .exact Kl (Zw (U4 Ka (U4 Ka (U4 Ka (U4 Ka (U4 Ka (U4 Ka (U4 Ka (U4 Ka (U4 Ka (U4 Ka (U4 Ka U9))))))))))) (Qa xf)) (U3 hget) ht.1
   .unfold Kz at hx⊢
    rw[Qy,hx];rfl
  .exact⟨xg,rfl⟩
  .rw[Qb,vC,QG];lia
 refine Kw (ZY (Yj (ZD (VA (U3 xf) (Y8 Ka) (Y8 (Kl Ka (K2 xf Ka x0) Zu)) (by rw[VO,xK])) Yi) (hc _ xf xf)) (Qa xf) xf) ?_;refine Kw (ZY (Wn U9 (Qa xf)) (Qa xf) xf) ?_;apply K0;apply ZV (P4 T A R (.list (ns.map int)) (.list (ds.map int)) (.list ((szG T A).map int)) at_ n cs)
 case h1=>exact VG (U4 (Kl Ka (K2 xf Ka x1) Zu) U9) (VP (by lia) (by lia))
 case h0=>exact⟨[],_,_,_,_,_,_,rfl,rfl,λ_ h=>by cases h⟩
 case hst=>exact λi d Z e h=>kz hns hT hR hcl (by lia) (by lia) e h
 case hend=>rintro Z ⟨ls,y9,y10,y11,y12,y13,y14,rfl,xC,hg⟩;rw[X0]at xC;refine KW (KN (YU (U4 (ZR rfl rfl) (U4 (ZR rfl rfl) U9)) (Qa rfl)) ⟨_,rfl,cs,ls,rfl,⟨?_,by lia,by lia,λrs hrs=>(hg rs hrs).2⟩⟩);exact⟨by lia,by lia,λc hc=>by obtain⟨z,hz,rfl⟩:=Qp.mp hc;exact(Mi (each z hz).1 (each z hz).2).2,by lia,by lia,λrs hrs=>by rw[hcl];exact(hg rs hrs).1⟩
noncomputable def KZ(t:Int)(rs:List xm):Nat:=if rs.findIdx (λr=>r.contains t)<rs.length then rs.findIdx (λr=>r.contains t)+1 else 0
theorem Cz(a b:Int):US (.int a) (.int b)=(a==b):=by simp[US]
theorem OM(t:Int)(r:xm):oIn (.int t) (Zq r)=O (r.contains t):=by
 have h1:UQ (r.map int)=xi:=by
  induction r with
  |nil=>rfl
  |cons x r ih=>rw[Qu];unfold UQ;rw[ih];rfl
 unfold oIn Zq;dsimp only;rw[Qo ⟨rfl,h1,Uc _⟩]
 congr 1
 rw[List.any_map];clear h1;induction r with
 |nil=>rfl
 |cons x r ih=>
  rw[List.any_cons,ih,List.contains_cons]
  congr 1
  show US (.int x) (.int t)=(t==x);rw[Cz];exact JN.2 ⟨λh=>beq_iff_eq.2 (beq_iff_eq.1 h).symm,λh=>beq_iff_eq.2 (beq_iff_eq.1 h).symm⟩
theorem HI{t:Int}{rs:List xm}{i:Nat}{r:xm}(hr:rs[i]?=O r)(h:r.contains t=xi)(hb:∀j r,j<i->rs[j]?=O r->r.contains t=xj):KZ t rs=1+i:=by obtain⟨hi,e⟩:=List.getElem?_eq_some_iff.1 hr;have hf:rs.findIdx (λr=>r.contains t)=i:=(List.findIdx_eq hi).2 ⟨by rw[e];exact h,λj hj=>hb j _ hj (Qf (Nat.lt_trans hj hi))⟩;unfold KZ;rw[hf,Qo hi,Nat.add_comm]
theorem HH{t:Int}{rs:List xm}(hb:∀j r,j<rs.length->rs[j]?=O r->r.contains t=xj):KZ t rs=0:=by
 have hf:rs.findIdx (λr=>r.contains t)=rs.length:=List.findIdx_eq_length.2 λr hr=>by obtain⟨j,hj,e⟩:=List.mem_iff_getElem.1 hr;exact hb j r hj (by rw[Qf hj,e])
 unfold KZ;rw[hf,Qv (JA _)]
theorem jC(t:Int)(rs:List xm):Vk [K3 rs,.int t]=O (.int (KZ t rs:Nat)):=by
 refine Zo (Z:=[pb (K3 rs),pb (.int t),xg,xg]) xf ?_;unfold T9;apply K0;apply ZV (λi Z=>(∃x2 x3,Z=[pb (K3 rs),pb (.int t),x2,x3])/\∀j r,j<i->rs[j]?=O r->r.contains t=xj)
 case h1=>exact BZ (U4 (U3 xf) U9) A8
 case h0=>exact⟨⟨_,_,rfl⟩,λj r h=>absurd h (JU _)⟩
 case hst=>
  rintro i d Z hi ⟨⟨x2,x3,rfl⟩,hb⟩;obtain⟨x,hx,rfl⟩:=Xi hi;rw[Qd]at hx;cases hr:rs[i]? with
  |none=>rw[hr]at hx;cases hx
  |some r=>
   rw[hr]at hx;cases hx;refine⟨_,KO xf (Ki (U8 (Qa xf) xf) (Ki (U8 (Qa xf) xf) KP)),?_⟩;unfold MW;apply KS
   case h1=>exact Yu xf (U3 xf) (OM t r)
   case h2=>intro hh;refine KN (U3 xf) (RC ?_);rw[HI hr hh hb];exact⟨rfl⟩
   case h3=>
    intro hh;refine Zj (Zp ⟨⟨_,_,rfl⟩,λj r' hj hr'=>?_⟩);rcases Nat.lt_succ_iff_lt_or_eq.1 hj with h|rfl
    .exact hb j r' h hr'
    .rw[hr]at hr';cases hr';exact hh
 case hend=>rintro Z ⟨⟨x2,x3,rfl⟩,hb⟩;rw[YH,Qb]at hb;refine KW ?_;rw[HH hb];exact KN Ka rfl
noncomputable def Kc:xq->D
 |none=>.none
 |some t=>.int t
noncomputable def Kk(ws:LO):D:=.list (ws.map Kc)
structure Deal(cs:xm)(ls:L3)(ws:LO):Prop where
 len:ws.length=ls.length
 wish:∀(i:Nat) t rs,ws[i]?=O (O t)->ls[i]?=O rs->t∈rs.flatten
 cop:∀(k:Nat) c,cs[k]?=O c->((ws.count (O (k:Int)):Nat):Int)<=c
theorem RE{t:Int}{rs:List xm}(h:t∈rs.flatten):KZ t rs≠0:=by
 obtain⟨r,hr,ht⟩:=Uv.mp h;have:rs.findIdx (λr=>r.contains t)<rs.length:=List.findIdx_lt_length_of_exists ⟨r,hr,by simpa using ht⟩;unfold KZ;rw[Qo this]
 lia
theorem RA(ws:LO):UQ (ws.map Kc)=xi:=VJ λx hx=>by obtain⟨y,_,rfl⟩:=Qp.mp hx;cases y<;>rfl
theorem OL(a b:xq):US (Kc a) (Kc b)=decide (a=b):=by rw[JN];cases a<;>cases b<;>simp[Kc,US]
theorem Gn{ws:LO}{k:Int}:VH (Kk ws) (.int k)=O (.int (ws.count (O k):Nat)):=by
 unfold Kk VH;dsimp only;rw[if_pos ⟨rfl,RA ws,by simp[UR]⟩]
 congr 3
 induction ws with
 |nil=>rfl
 |cons w r ih=>
  rw[Qu,List.countP_cons,JB,ih]
  congr 1
  have:=OL w (O k);have e:Kc (O k)=.int k:=rfl;rw[e]at this;rw[this];cases w with
  |none=>simp
  |some z=>simp
theorem qc{cs:xm}{ls:L3}{rs:List xm}{i:Nat}(hi:ls[i]?=O rs)(hl:rs.flatten.length<64):WW [Kr cs ls,.int i]=O (.list ((YR rs.flatten).map int)):=by
 refine Zo (Z:=[pb (Kr cs ls),pb (.int i)]) xf ?_;unfold Tq;have i1:oIx (Kr cs ls) (.int 1)=O (.list (ls.map K3)):=ZC (j:=1) xf;have i2:oIx (.list (ls.map K3)) (.int i)=O (K3 rs):=ZC (by rw[Qd,hi];rfl)
 have hs:Sq [K3 rs,.list []]=O (.list (rs.flatten.map int)):=by
  have e:K3 rs=.list ((rs.map λr=>r.map int).map UM):=by unfold K3;rw[QW];rfl
  have e2:(rs.map λr=>r.map int).flatten=rs.flatten.map int:=by rw[List.map_flatten]
  rw[e];unfold Sq;dsimp only;rw[qX];dsimp only;rw[e2,Qo (by rw[Qb];lia)]
 exact KN (ZQ (U4 (ZQ (U4 (Kl (K2 xf Ka i1) (U3 xf) i2) (U4 (Zw U9 (Qa xf)) U9)) hs) U9) (Gq hl)) xf
theorem qb{ls:L3}{ws:LO}{o:xq}{rs:List xm}(h:∀(i:Nat) t rs,ws[i]?=O (O t)->ls[i]?=O rs->t∈rs.flatten)(hi:ls[ws.length]?=O rs)(ho:∀t,o=O t->t∈rs.flatten) :
  ∀(i:Nat) t rs,(ws++[o])[i]?=O (O t)->ls[i]?=O rs->t∈rs.flatten:=by
 intro j t rs' e1 e2;by_cases hj:j<ws.length
 .rw[Qw hj]at e1;exact h j t rs' e1 e2
 .by_cases vQ:j=ws.length
  .subst vQ
   rw[hi]at e2;cases e2;rw[Qt (Qs _),Nat.sub_self,List.getElem?_cons_zero]at e1;cases e1;exact ho t xf
  .rw[QE (by rw[Qm,Jb];lia)]at e1
   cases e1
theorem Mh{os:LO}{k:Nat}(h:k<os.length):oIx (.list (os.map Kc)) (.int k)=O (Kc os[k]):=ZC (by rw[Qd,Qf h];rfl)
theorem L4(ws:LO):(Kk ws).depth<=2:=Rv (SN λx hx=>by obtain⟨y,_,rfl⟩:=Qp.mp hx;cases y<;>simp[Kc,UR])
theorem Xo{s:D->U0->xu}{t:M Bool}{g:M D}(I:U0->Prop):∀(ds qs:xk)(Z:U0)(es:xk),qs.length=ds.length ->
  (∀(i:Nat) d e,ds[i]?=O d->qs[i]?=O e->∀Z,I Z->∃Z1,s d Z=O Z1/\t Z1=.ok xi Z1/\g Z1=.ok e Z1/\I (Kz Z1))->I Z->es.length+ds.length<=1000000->Zk s t g ds Z es=O (es++qs)
 |[],[],Z,es,_,_,_,_=>by rw[Zk,Je]
 |d::r,e::q,Z,es,hl,st,h0,hz=>by obtain⟨Z1,e1,e2,e3,h1⟩:=st 0 d e xf xf Z h0;rw[QC]at hz;rw[Zk,e1];dsimp only;rw[e2];dsimp only;rw[Qo xf,e3];dsimp only;rw[if_pos (by lia),Xo I r q (Kz Z1) (es++[e]) (by simpa using hl) (λi d' e' x y=>st (i+1) d' e' (by simpa using x) (by simpa using y)) h1 (by rw[List.length_append,List.length_singleton];lia),List.append_assoc];rfl
noncomputable def rg(rs:List xm):xq->Int
 |none=>0
 |some t=>(KZ t rs:Nat)
noncomputable def Kg(ls:L3)(ws:LO):xm:=List.zipWith rg ls ws
noncomputable def lng(ls:L3):Nat:=(most (ls.map λrs=>(rs.length:Int))).toNat
noncomputable def KF(L:Nat)(got:xm):xm:=(UK L).map (λr:Nat=>((got.count (1+(r:Int)):Nat):Int))++[((got.count 0:Nat):Int)]
noncomputable def Xg(cs:xm)(ws:LO):xm:=(UK cs.length).map λk:Nat=>cs.getD k 0-((ws.count (O (k:Int)):Nat):Int)
theorem OK{ls:L3}(h:1<=ls.length):most (ls.map λrs=>(rs.length:Int))=(lng ls:Nat):=by
 have hm:most (ls.map λrs=>(rs.length:Int))∈ls.map λrs=>(rs.length:Int):=Pw (by rw[Qb];lia)
 obtain⟨rs,_,e⟩:=Qp.mp hm;unfold lng
 lia
theorem Oc{ls:L3}{rs:List xm}(h:rs∈ls):rs.length<=lng ls:=by
 have h1:((rs.length:Nat):Int)<=most (ls.map λrs=>(rs.length:Int)):=OG (Qp.mpr ⟨rs,h,rfl⟩);have h2:=OK (ls:=ls) (List.length_pos_of_mem h)
 lia
theorem R7{ls:L3}{n:Nat}(h1:1<=ls.length)(h:∀rs∈ls,rs.length<=n):lng ls<=n:=by
 have hm:most (ls.map λrs=>(rs.length:Int))∈ls.map λrs=>(rs.length:Int):=Pw (by rw[Qb];lia)
 obtain⟨rs,hr,e⟩:=Qp.mp hm;have:=h rs hr;unfold lng
 lia
theorem Pz(t:Int)(rs:List xm):KZ t rs<=rs.length:=by
 unfold KZ
 split<;>lia
section
variable{cs:xm}{ls:L3}{ws:LO}
theorem Vs:oIx (Kr cs ls) (.int 0)=O (.list (cs.map int)):=ZC (j:=0) xf
theorem Wj:oIx (Kr cs ls) (.int 1)=O (.list (ls.map K3)):=ZC (j:=1) xf
theorem NO{i:Nat}{rs:List xm}(h:ls[i]?=O rs):oIx (.list (ls.map K3)) (.int i)=O (K3 rs):=ZC (by rw[Qd,h];rfl)
theorem Gd(rs:List xm):Kt [K3 rs]=O (.int rs.length):=by unfold K3;rw[ZJ,Qb]
theorem jB(g:Good cs ls):Vj [Kr cs ls]=O (.int (lng ls:Nat)):=by
 refine Zo (Z:=[pb (Kr cs ls)]) xf ?_;unfold T8;have hw:=PB g
 have hc:Zk (gN 1) (U5 xi) (Zv 1) (ls.map K3) (Kz [pb (Kr cs ls)]++UL 1 xg) []=O ((ls.map λrs=>(rs.length:Int)).map int):=by
  refine Xo (λZ=>∃x,Z=[pb (Kr cs ls),x]) _ _ _ _ (by rw[Qb,Qb,Qb]) ?_ ⟨xg,rfl⟩ (by rw[Qb,QG];have:=g.l7;lia);rintro i d e hd he Z ⟨x,rfl⟩;rw[Qd]at hd;rw[Qd,Qd]at he;cases hl:ls[i]? with
  |none=>rw[hl]at hd;cases hd
  |some rs=>
  rw[hl]at hd he;cases hd;cases he;exact⟨_,U8 (Qa xf) xf,rfl,ZZ xf (Gd rs),_,rfl⟩
 refine Kw (VF (KD (U4 (U3 xf) U9) xf hw)) ?_;refine KN (ZQ (U4 (KT (Yj (ZD (K2 xf Ka Wj) Yi) hc)) U9) (Lz (by rw[Qb];have:=g.l1;lia))) ?_;rw[OK g.l1]
theorem L1{i:Nat}{rs:List xm}{o:xq}(h1:ls[i]?=O rs)(h2:ws[i]?=O o):(Kg ls ws)[i]?=O (rg rs o):=by unfold Kg;rw[Ui,h1,h2]
theorem kW(g:Good cs ls):Vh [Kr cs ls,Kk ws]=O (.list ((Xg cs ws).map int)):=by
 refine Zo (Z:=[pb (Kr cs ls),pb (Kk ws)]) xf ?_;unfold T6;have hw:=PB g
 have hc:Zk (gT 2 (gNC (gN 2) (gNC (gN 3) (gN0)))) (U5 xi) (U6 Zc (UZ 3) (Sy (UZ 1) (U2 (UZ 2) (U1)))) (Yv 0 (cs.map int)) (Kz [pb (Kr cs ls),pb (Kk ws)]++UL 2 xg) []=O ((Xg cs ws).map int):=by
  refine Xo (λZ=>∃x y,Z=[pb (Kr cs ls),pb (Kk ws),x,y]) _ _ _ _ (by unfold Xg;rw[Qb,Qb,Qq,YH,Qb]) ?_ ⟨xg,xg,rfl⟩ (by rw[YH,Qb,QG];have:=g.c6;lia);rintro i d e hd he Z ⟨x,y,rfl⟩;obtain⟨z,hz,rfl⟩:=Xi hd;rw[Qd]at hz;cases hci:cs[i]? with
  |none=>rw[hci]at hz;cases hz
  |some c=>
  rw[hci]at hz;cases hz;have xD:i<cs.length:=(Qg.mp hci).1;unfold Xg at he;rw[Qd,Qd,Qf (by rw[Qq];exact xD),Ud]at he;cases he;rw[Q6];have e:cs.getD i 0=c:=by simp[List.getD,hci]
  dsimp only;rw[e];exact⟨_,KO xf (Ki (U8 (Qa xf) xf) (Ki (U8 (Qa xf) xf) KP)),rfl,Kl (U3 xf) (Ly (U3 xf) (U4 (U3 xf) U9) Gn) Y4,_,_,rfl⟩
 refine Kw (VF (KD (U4 (U3 xf) U9) xf hw)) ?_;exact KN (KT (Yj (Xu (U4 (K2 xf Ka Vs) U9) Xs) hc)) xf
end
noncomputable def plc(L:Nat)(r:Int):Nat:=if r=0 then L else(r-1).toNat
def okR(L:Nat)(got:xm):Prop:=∀r∈got,0<=r/\r<=L
theorem BD{L:Nat}{got:xm}(h:okR L got){p:Nat}(hp:p<L+1):(KF L got)[p]?=O (((got.map (plc L)).count p:Nat):Int):=by
 unfold KF
 have key:∀r∈got,(plc L r=p ↔ r=if p=L then 0 else 1+(p:Int)):=λr hr=>by
  have:=h r hr;unfold plc
  split<;>split<;>omega
 have cnt:(got.map (plc L)).count p=got.count (if p=L then 0 else 1+(p:Int)):=by rw[List.count,List.countP_map,List.count];apply List.countP_congr;intro r hr;have:=key r hr;simp only[Function.comp,beq_iff_eq];exact this
 by_cases hpl:p=L
 .subst hpl
  rw[Qt (by rw[Qb,Qq];exact Qs _),Qb,Qq,Nat.sub_self,cnt,Qo xf];rfl
 .rw[Qw (by rw[Qb,Qq];omega),Qd,Qf (by rw[Qq];omega),Ud,cnt,Qv hpl]
  rfl
theorem WG(L:Nat)(got:xm):(KF L got).length=L+1:=by unfold KF;rw[Qm,Qb,Qq];rfl
noncomputable def XM(xs:xm)(p:Nat)(d:Int):xm:=xs.set p (xs.getD p 0+d)
theorem Nm{xs:xm}{p:Nat}{d:Int}:(XM xs p d).length=xs.length:=by unfold XM;rw[Jf]
theorem Gc{xs:xm}{p q:Nat}{d v:Int}(h:xs[q]?=O v):(XM xs p d)[q]?=O (if q=p then v+d else v):=by
 unfold XM;have hq:q<xs.length:=(Qg.mp h).1;by_cases e:q=p
 .subst e
  rw[QK hq,Qo xf];simp[List.getD,h]
 .rw[Qx (λz=>e z.symm),Qv e,h]
theorem Gm:∀(qs:xx)(n:Nat),(∀q∈qs,q<n)->((UK n).map λp=>((qs.count p:Nat):Int)).sum=qs.length
 |[],n,_=>by
  have:((UK n).map λp=>((([]:xx).count p:Nat):Int))=(UK n).map λ_=>(0:Int):=by apply List.map_congr_left;intro p _;simp
  rw[this];clear this;induction n with
  |zero=>rfl
  |succ n ih=>rw[J4,Qy,JV,ih (λq hq=>by cases hq)];rfl
 |q::r,n,h=>by
  have ih:=Gm r n λx hx=>h x (Qi _ hx);have hq:=h q Qk
  have e:((UK n).map λp=>(((q::r).count p:Nat):Int)).sum=((UK n).map λp=>((r.count p:Nat):Int)).sum+((UK n).map λp=>if q=p then(1:Int)else 0).sum:=by
   clear ih hq h;induction n with
   |zero=>rfl
   |succ n ih=>
    rw[J4,Qy,Qy,Qy,JV,JV,JV,ih];simp only[Qu,Uo,Jd,List.sum_nil,JB,beq_iff_eq]
    split<;>omega
  rw[e,ih]
  have one:∀m:Nat,((UK m).map λp=>if q=p then(1:Int)else 0).sum=if q<m then 1 else 0:=by
   intro m;induction m with
   |zero=>simp
   |succ m ih=>
    rw[J4,Qy,JV,ih];simp only[Qu,Uo,Jd,List.sum_nil]
    split<;>split<;>split<;>omega
  rw[one n,Qo hq,QC];omega
theorem VD{ls:L3}{ws:LO}:okR (lng ls) (Kg ls ws):=λr hr=>by
 unfold Kg at hr;obtain⟨i,hi,e⟩:=Um.mp hr;rw[List.getElem_zipWith]at e;rw[Us]at hi;have hm:ls[i]'(by omega)∈ls:=JP _;have h1:=Oc hm;rw[←e];cases ws[i]'(by omega)with
 |none=>exact⟨QY _,by show(0:Int)<=_;omega⟩
 |some t=>have h2:=Pz t (ls[i]'(by omega));exact⟨by show(0:Int)<=((KZ t _:Nat):Int);omega,by show((KZ t _:Nat):Int)<=_;omega⟩
theorem Le{op:Int->Int->xn}{j:Nat}{f g:M D}{Z Z1 Z2 Z':U0}{vf ds es:xk}{a b k:Int}{d:D}{n:Nat}(h0:Z[j]?=O (O (.own vf)))(h1:g Z=.ok (.int k) Z1)(h2:Z1[j]?=O (O (.own ds)))(h3:atI ds k=O (.int a))(h4:f Z1=.ok (.int b) Z2)(h5:op a b=O d)
  (h6:Z2[j]?=O (O (.own es))) (h7:ixN es.length k=O n) (h8:Z2.set j (O (.own (es.set n d)))=Z'):Vv op j g f Z=.nx Z':=by
 unfold Vv;rw[OW h0];dsimp only;unfold sB;rw[h1];dsimp only;rw[OW h2];dsimp only[Option.bind_some];rw[h3];dsimp only;rw[h4];dsimp only;rw[h5,OW h6];dsimp only;rw[h7];dsimp only;rw[h8]
theorem Cy{n p:Nat}(h:p<n):ixN n (p:Int)=O p:=by unfold ixN;rw[Qo (by omega),Qo (by omega),QD]
theorem Cw{op:Int->Int->xn}{j:Nat}{f g:M D}{Z Z':U0}{xs:xm}{p:Nat}{d b:Int}(h0:Z[j]?=O (O (.own (xs.map int))))(h1:g Z=.ok (.int p) Z)(hp:p<xs.length)(h4:f Z=.ok (.int b) Z)(h5:∀a,op a b=O (.int (a+d)))
  (h8:Z.set j (O (.own ((XM xs p d).map int)))=Z'):Vv op j g f Z=.nx Z':=by
 refine Le (n:=p) h0 h1 h0 (a:=xs.getD p 0) (ZC ?_) h4 (h5 _) h0 (by rw[Qb];exact Cy hp) ?_
 .rw[List.getElem?_map,List.getElem?_eq_getElem hp];simp[List.getD,List.getElem?_eq_getElem hp]
 .rw[←h8,Lx];rfl
theorem Ob{a b:xq}:oEq (Kc a) (Kc b)=O (decide (a=b)):=by unfold oEq;rw[if_pos ⟨by cases a<;>rfl,by cases b<;>rfl,by cases a<;>simp[Kc,UR]⟩,OL]
theorem En{a b:xq}:oNe (Kc a) (Kc b)=O (!decide (a=b)):=by unfold oNe;rw[if_pos ⟨by cases a<;>rfl,by cases b<;>rfl,by cases a<;>simp[Kc,UR]⟩,OL]
theorem Em{xs:xk}{a:Nat}(h:a<=xs.length):DL.cutD xs xg (O (a:Int))=xs.take a:=by
 unfold DL.cutD HT.sIx;dsimp only;rw[Qv (by lia),QD];have:min a xs.length=a:=by lia
 rw[this];simp
theorem BC{xs:xk}{a:Nat}(h:a<=xs.length):DL.cutD xs (O (a:Int)) xg=xs.drop a:=by
 unfold DL.cutD HT.sIx;dsimp only;rw[Qv (by lia),QD];have:min a xs.length=a:=by lia
 rw[this,List.take_of_length_le (by rw[Jo];lia)]
theorem Gk{s:D->U0->xu}{t:M Bool}{g:M D}(I:U0->Prop):∀(ds qs:xk)(Z:U0)(es:xk),qs.length=ds.length ->
  (∀(i:Nat) d e,ds[i]?=O d->qs[i]?=O e->∀Z,I Z->∃Z1,s d Z=O Z1/\t Z1=.ok xi Z1/\g Z1=.ok e Z1/\I (Kz Z1))->I Z->es.length+ds.length<=1000000->∃Z',YV s t g ds Z es=O (es++qs,Z')/\I Z'
 |[],[],Z,es,_,_,h0,_=>⟨Z,by rw[YV,Je],h0⟩
 |d::r,e::q,Z,es,hl,st,h0,hz=>by obtain⟨Z1,e1,e2,e3,h1⟩:=st 0 d e xf xf Z h0;rw[QC]at hz;obtain⟨Z',e',h'⟩:=Gk I r q (Kz Z1) (es++[e]) (by simpa using hl) (λi d' e' x y=>st (i+1) d' e' (by simpa using x) (by simpa using y)) h1 (by rw[List.length_append,List.length_singleton];lia);refine⟨Z',?_,h'⟩;rw[YV,e1];dsimp only;rw[e2];dsimp only;rw[Qo xf,e3];dsimp only;rw[Qo (by lia),e',Ja];rfl
theorem Nu{s:D->U0->xu}{t:M Bool}{f:M xk}{Rd:xk->U0->xk->Option (xk×U0)}(I:U0->Prop):∀(ds:xk)(qs:List xk)(Z:U0)(es:xk),qs.length=ds.length ->
  (∀(i:Nat) d q,ds[i]?=O d->qs[i]?=O q->∀Z es,I Z->es.length+q.length<=1000000->∃Z1 xs Z2 Z3,s d Z=O Z1/\t Z1=.ok xi Z1/\f Z1=.ok xs Z2/\Rd xs (Kz Z2) es=O (es++q,Z3)/\I Z3)->I Z->es.length+qs.flatten.length<=1000000->∃Z',Xm s t f Rd ds Z es=O (es++qs.flatten,Z')/\I Z'
 |[],[],Z,es,_,_,h0,_=>⟨Z,by rw[Xm,List.flatten_nil,Je],h0⟩
 |d::r,q::qr,Z,es,hl,st,h0,hz=>by rw[QP,Qm]at hz;obtain⟨Z1,xs,Z2,Z3,e1,e2,e3,e4,h1⟩:=st 0 d q xf xf Z es h0 (by lia);obtain⟨Z',e',h'⟩:=Nu I r qr Z3 (es++q) (by simpa using hl) (λi d' e' x y=>st (i+1) d' e' (by simpa using x) (by simpa using y)) h1 (by rw[List.length_append];lia);refine⟨Z',?_,h'⟩;rw[Xm,e1];dsimp only;rw[e2];dsimp only;rw[Qo xf,e3];dsimp only;rw[e4];dsimp only;rw[e',QP,Ja]
noncomputable def Wi(i:Nat)(rs:List xm):LP:=rs.flatten.map λt=>((i:Int),t)
noncomputable def Z9(k:Nat):L3->LP
 |[]=>[]
 |rs::ls=>Wi k rs++Z9 (k+1) ls
noncomputable def KH(k:Nat):L3->LP
 |[]=>[]
 |rs::ls=>(YR rs.flatten).map (λt=>((k:Int),t))++KH (k+1) ls
theorem RJ:∀(ls:L3)(k:Nat),(KH k ls).Perm (Z9 k ls)
 |[],_=>.nil
 |rs::ls,k=>((X1 rs.flatten).map _).append (RJ ls (k+1))
theorem O7:∀(ls:L3)(k:Nat),∀q∈KH k ls,(k:Int)<=q.1
 |[],_,q,h=>by cases h
 |rs::ls,k,q,h=>by
  rcases QU.mp h with h|h
  .obtain⟨t,_,rfl⟩:=Qp.mp h;exact QY _
  .have:=O7 ls (k+1) q h;lia
theorem VM:∀{ls:L3}{k:Nat}{q:Int×Int},q∈KH k ls->∃i rs,ls[i]?=O rs/\q.1=((k+i:Nat):Int)/\q.2∈rs.flatten
 |[],_,q,h=>by cases h
 |rs::ls,k,q,h=>by
  rcases QU.mp h with h|h
  .obtain⟨t,ht,rfl⟩:=Qp.mp h
   exact⟨0,rs,rfl,rfl,(X1 _).mem_iff.mp ht⟩
  .obtain⟨i,rs',h1,h2,h3⟩:=VM h
   exact⟨i+1,rs',by simpa using h1,by rw[h2];congr 1;lia,h3⟩
theorem LZ:∀{ls:L3}{k i:Nat}{rs:List xm}{t:Int},ls[i]?=O rs->t∈rs.flatten->(((k+i:Nat):Int),t)∈KH k ls
 |rs::ls,k,0,rs',t,h,ht=>by cases h;exact Q9 _ (Qp.mpr ⟨t,(X1 _).mem_iff.mpr ht,rfl⟩)
 |rs::ls,k,i+1,rs',t,h,ht=>by have:=LZ (ls:=ls) (k:=k+1) (i:=i) (by simpa using h) ht;rw[show k+1+i=k+(i+1)by lia]at this;exact QH _ this
theorem LY{n:Nat}(hn:n<=6):∀(ls:L3)(k:Nat),(∀rs∈ls,∀t∈rs.flatten,0<=t/\t<n)->(KH k ls).Pairwise λx y=>KL x<=KL y
 |[],_,_=>.nil
 |rs::ls,k,h=>by
  refine List.pairwise_append.mpr ⟨?_,LY hn ls (k+1) λrs' hr=>h rs' (Qi _ hr),λx hx y hy=>?_⟩
  .rw[List.pairwise_map]
   refine(Hx rs.flatten).imp λ{a b} hab=>?_
   unfold KL;dsimp only
   lia
  .obtain⟨t,ht,rfl⟩:=Qp.mp hx
   have h1:=O7 ls (k+1) y hy;have h2:=h rs Qk t ((X1 _).mem_iff.mp ht);obtain⟨i,rs',g1,g2,g3⟩:=VM hy;have h3:=h rs' (Qi _ (Qr g1)) y.2 g3;unfold KL;dsimp only
   lia
theorem Tc.flat{n:Nat}{rs:List xm}(g:Tc n rs):∀t∈rs.flatten,0<=t/\t<n:=λt ht=>by obtain⟨r,h1,h2⟩:=Uv.mp ht;exact g.there r h1 t h2
section
variable{cs:xm}{ls:L3}
theorem LX(n:Nat):∀(ls:L3)(k:Nat),(∀rs∈ls,rs.flatten.length<=n)->(Z9 k ls).length<=ls.length*n
 |[],_,_=>by simp[Z9]
 |rs::ls,k,h=>by
  have h1:=LX n ls (k+1) λr hr=>h r (Qi _ hr);have h2:=h rs Qk
  show(Wi k rs++Z9 (k+1) ls).length<=_
  rw[Qm,QC,Nat.succ_mul];unfold Wi;rw[Qb]
  lia
theorem jA(g:Good cs ls):Ww (Z9 0 ls)=KH 0 ls:=by
 have hf:∀rs∈ls,∀t∈rs.flatten,0<=t/\t<cs.length:=λrs hr=>(g.rk rs hr).flat
 have ok:∀q∈KH 0 ls,okP q:=λq hq=>by obtain⟨i,rs,h1,h2,h3⟩:=VM hq;have:=hf rs (Qr h1) q.2 h3;have:=g.c6;exact⟨by lia,by lia⟩
 exact(OT ok ((RJ ls 0).trans (Gr _).symm) (LY g.c6 ls 0 hf) (HQ _)).symm
theorem El(g:Good cs ls):∀q∈Z9 0 ls,okP q:=λq hq=>by obtain⟨i,rs,h1,h2,h3⟩:=VM ((RJ ls 0).mem_iff.mpr hq);have:=(g.rk rs (Qr h1)).flat q.2 h3;have:=g.c6;exact⟨by lia,by lia⟩
theorem Po(g:Good cs ls):(Z9 0 ls).length<=42:=by
 have h:=LX 6 ls 0 λrs hr=>QR (OS (g.rk rs hr)) g.c6
 have:=g.l7
 lia
theorem OJ:∀(ls:L3)(k:Nat),((ls.zipIdx k).map λp=>(Wi p.2 p.1).map K9).flatten=(Z9 k ls).map K9
 |[],_=>rfl
 |rs::ls,k=>by rw[List.zipIdx_cons,Qu,QP,OJ ls (k+1)];show _=(Wi k rs++Z9 (k+1) ls).map K9;rw[Qy]
theorem kR(g:Good cs ls):Vi [Kr cs ls]=O (.list ((KH 0 ls).map K9)):=by
 refine Zo (Z:=[pb (Kr cs ls)]) xf ?_;unfold T7;refine Kw (VF (KD (U4 (U3 xf) U9) xf (PB g))) ?_
 have hc:∃Z',Xm (gT 2 (gNC (gN 1) (gNC (gN 2) (gN0)))) (U5 xi) (Zb (UZ 2)) (Xm (gN 3) (U5 xi) (Zb (UZ 3)) (YV (gN 4) (U5 xi) (KQ (U2 (UZ 1) (U2 (UZ 4) (U1)))))) (Yv 0 (ls.map K3)) (Kz [pb (Kr cs ls)]++UL 4 xg) []=O ((Z9 0 ls).map K9,Z'):=by
  have key:=Nu (s:=gT 2 (gNC (gN 1) (gNC (gN 2) (gN0)))) (t:=U5 xi) (f:=Zb (UZ 2)) (Rd:=Xm (gN 3) (U5 xi) (Zb (UZ 3)) (YV (gN 4) (U5 xi) (KQ (U2 (UZ 1) (U2 (UZ 4) (U1))))))
   (λZ=>∃x1 x2 x3 x4,Z=[pb (Kr cs ls),x1,x2,x3,x4]) (Yv 0 (ls.map K3)) ((ls.zipIdx 0).map λp=>(Wi p.2 p.1).map K9) (Kz [pb (Kr cs ls)]++UL 4 xg) [] (by rw[Qb,List.length_zipIdx,YH,Qb]) ?_ ⟨xg,xg,xg,xg,rfl⟩ (by rw[OJ,Qb,QG];have:=Po g;lia)
  .obtain⟨Z',e,_⟩:=key
   rw[OJ,Jn]at e;exact⟨Z',e⟩
  rintro i d q hd hq Z es ⟨x1,x2,x3,x4,rfl⟩ hlen;obtain⟨z,hz,rfl⟩:=Xi hd;rw[Qd]at hz;rw[Qd,List.getElem?_zipIdx]at hq;cases hls:ls[i]? with
  |none=>rw[hls]at hz;cases hz
  |some rs=>
  rw[hls]at hz hq;cases hz;cases hq;rw[Q6]at *;dsimp only at hlen⊢
  have inner:=Nu (s:=gN 3) (t:=U5 xi) (f:=Zb (UZ 3)) (Rd:=YV (gN 4) (U5 xi) (KQ (U2 (UZ 1) (U2 (UZ 4) (U1)))))
   (λZ=>∃x3 x4,Z=[pb (Kr cs ls),pb (.int i),pb (K3 rs),x3,x4]) (rs.map Zq) (rs.map λr=>r.map λt=>K9 ((i:Int),t)) (Kz [pb (Kr cs ls),pb (.int i),pb (K3 rs),x3,x4]) es (by rw[Qb,Qb]) ?_ ⟨XS x3,XS x4,rfl⟩ ?_
  .obtain⟨Z3,e3,y3,y4,h3⟩:=inner
   have ef:(rs.map λr=>r.map λt=>K9 ((i:Int),t)).flatten=(Wi i rs).map K9:=by unfold Wi;rw[QW,List.map_flatten];rfl
   rw[ef]at e3;exact⟨_,_,_,Z3,KO xf (Ki (U8 (Qa xf) xf) (Ki (U8 (Qa xf) xf) KP)),rfl,ZD (U3 xf) xf,e3,_,_,_,_,h3⟩
  .rintro j d q hd hq Z es' ⟨y3,y4,rfl⟩ vF
   rw[Qd]at hd hq;cases hr:rs[j]? with
   |none=>rw[hr]at hd;cases hd
   |some r=>
   rw[hr]at hd hq;cases hd;cases hq
   obtain⟨Z3,e3,z4,h3⟩:=Gk (s:=gN 4) (t:=U5 xi) (g:=KQ (U2 (UZ 1) (U2 (UZ 4) (U1)))) (λZ=>∃x4,Z=[pb (Kr cs ls),pb (.int i),pb (K3 rs),pb (Zq r),x4]) (r.map int) (r.map λt=>K9 ((i:Int),t)) (Kz [pb (Kr cs ls),pb (.int i),pb (K3 rs),pb (Zq r),y4]) es' (by rw[Qb,Qb]) (by
    rintro m d e hd he Z ⟨x4,rfl⟩;rw[Qd]at hd he;cases hm:r[m]? with
    |none=>rw[hm]at hd;cases hd
    |some t=>
    rw[hm]at hd he;cases hd;cases he;exact⟨_,U8 (Qa xf) xf,rfl,YU (U4 (U3 xf) (U4 (U3 xf) U9)) (Qa xf),_,rfl⟩) ⟨XS y4,rfl⟩ (by rw[Qb]at vF⊢;exact vF)
   exact⟨_,_,_,Z3,U8 (Qa xf) xf,rfl,ZD (U3 xf) xf,e3,_,_,h3⟩
  .have ef:(rs.map λr=>r.map λt=>K9 ((i:Int),t)).flatten=(Wi i rs).map K9:=by
    unfold Wi;rw[QW,List.map_flatten];rfl
   rw[ef];exact hlen
 obtain⟨Z',hc⟩:=hc;have hs:=A2 (qs:=Z9 0 ls) (by have:=Po g;lia) (El g);rw[jA g]at hs;exact KN (ZQ (U4 (KT (Bs (Xu (U4 (K2 xf Ka Wj) U9) Xs) hc)) U9) hs) xf
end
noncomputable def fnz:xm->Int
 |[]=>0
 |x::r=>if x=0 then fnz r else x
inductive Ord where|firsts|full|lasts
noncomputable def Ord.tx:Ord->Str
 |.firsts=> "firsts" | .full=> "full" | .lasts=> "lasts"
noncomputable def Ord.isF:Ord->Bool
 |.firsts=>xi|_=>xj
noncomputable def Ord.isU:Ord->Bool
 |.full=>xi|_=>xj
theorem Ek(o:Ord):oEq (.str o.tx) (.str "firsts")=O o.isF:=by cases o<;>decide +kernel
theorem R6(o:Ord):oEq (.str o.tx) (.str "full")=O o.isU:=by cases o<;>decide +kernel
noncomputable def KB(xs ys:xm):xm:=(xs.zip ys).map λp=>p.1-p.2
noncomputable def Wh(o:Ord)(xs ys:xm):xm:=match o with
 |.firsts=>KB xs ys
 |.full=>((KB xs ys).map λx=>-x).drop ((KB xs ys).length-1)++KB xs ys
 |.lasts=>((KB xs ys).map λx=>-x).reverse
theorem kQ(o:Ord):Vg [.str o.tx]=O (.bool xi):=by
 refine Zo (Z:=[pb (.str o.tx)]) xf ?_;unfold T5;have h:oIn (.str o.tx) (.tuple ((["firsts", "full", "lasts"]:List Str).map UO))=O xi:=by cases o<;>decide +kernel
 exact KN (OF (KT (k:=λd=>UN (Ze d "str")) (U3 xf)) (λ_=>KT (Yu xf Ka h))) xf
theorem Ar(o:Ord):Vf [.str o.tx]=O .none:=by
 refine Rs (Z:=[pb (.str o.tx)]) xf ?_;unfold T4;apply KS
 case h1=>exact Wq (WJ (KD (U4 (U3 xf) U9) xf (kQ o)))
 case h2=>intro h;cases h
 case h3=>exact λ_=>Zj ⟨_,rfl⟩
noncomputable def Yb:xA->D
 |none=>.none
 |some ws=>Kk ws
noncomputable def KR(o:Ord)(old:xA)(ts:xm):D:=.tuple [.str o.tx,Yb old,.list (ts.map int)]
structure Yz(n m:Nat)(old:xA)(ts:xm):Prop where
 len:∀ws,old=O ws->ws.length=m
 old:∀ws t,old=O ws->O t∈ws->0<=t/\t<n
 once:ts.Nodup
 there:∀a∈ts,0<=a/\a<m
theorem Yz.few{n m:Nat}{old:xA}{ts:xm}(g:Yz n m old ts):ts.length<=m:=RB m ts g.once g.there
theorem Aq{n m:Nat}{old:xA}(h1:∀ws,old=O ws->ws.length=m)(h2:∀ws t,old=O ws->O t∈ws->0<=t/\t<n)(hm:m<=1000):Ve [Yb old,.int m,.int n]=O (.bool xi):=by
 refine Zo (Z:=[pb (Yb old),pb (.int m),pb (.int n)]) xf ?_;unfold T3;apply K0;cases old with
 |none=>
  apply KS
  case h1=>exact KT (U3 xf)
  case h2=>exact λ_=>KN Ka (WI xf)
  case h3=>intro hh;cases hh
 |some ws=>
  have hl:=h1 ws xf;have hlen:Kt [Kk ws]=O (.int m):=by unfold Kk;rw[ZJ,Qb,hl]
  apply KS
  case h1=>exact KT (U3 xf)
  case h2=>intro hh;cases hh
  case h3=>
   intro _;refine Zj (KW ?_);apply K0;apply KS
   case h1=>exact XR (Z1:=[pb (Kk ws),pb (.int m),pb (.int n)]) (Wu (U3 xf) xf) (Kl (ZZ xf hlen) (U3 xf) Rw)
   case h2=>intro hh;simp at hh
   case h3=>
    intro _;refine Zj (KW ?_)
    have hc:Zk (gN 3) (U5 xi) (X6 (Ke (λd=>.bool (isNon d)) (UZ 3)) (Kb 2 ZX (U2 (UZ 3) (U2 (UZ 2) (U1))))) (ws.map Kc) (Kz [pb (Kk ws),pb (.int m),pb (.int n)]++UL 1 xg) []=O (ws.map λ_=>.bool xi):=by
     refine Xo (λZ=>∃x,Z=[pb (Kk ws),pb (.int m),pb (.int n),x]) _ _ _ _ (by simp only[Qb]) ?_ ⟨xg,rfl⟩ (by rw[Qb,QG];lia);rintro i d e hd he Z ⟨x,rfl⟩;rw[Qd]at hd he;cases hw:ws[i]? with
     |none=>rw[hw]at hd;cases hd
     |some o=>
     rw[hw]at hd he;cases hd;cases he;refine⟨_,U8 (Qa xf) xf,rfl,?_,_,rfl⟩;cases o with
     |none=>exact Mo (t:=xi) (u:=xi) (KT (k:=λd=>UN (isNon d)) (x:=.none) (U3 xf)) (λh=>nomatch h)
     |some t=>have hb:=h2 ws t xf (Qr hw);exact Mo (t:=xj) (u:=xi) (KT (k:=λd=>UN (isNon d)) (x:=.int t) (U3 xf)) (λ_=>KD (U4 (U3 xf) (U4 (U3 xf) U9)) xf (PF hb.1 hb.2))
    exact KN (ZQ (U4 (KT (Yj (ZD (U3 xf) xf) hc)) U9) (PD ws)) xf
theorem ky{m:Nat}{ts:xm}(h1:ts.Nodup)(h2:∀a∈ts,0<=a/\a<m)(hm:m<=1000):Vd [.list (ts.map int),.int m]=O (.bool xi):=by
 refine Zo (Z:=[pb (.list (ts.map int)),pb (.int m)]) xf ?_;unfold T2;have hl:=RB m ts h1 h2;apply K0
 have hc:Zk (gN 2) (U5 xi) (Kb 2 ZX (U2 (UZ 2) (U2 (UZ 1) (U1)))) (ts.map int) (Kz [pb (.list (ts.map int)),pb (.int m)]++UL 1 xg) []=O (ts.map λ_=>.bool xi):=by
  refine Xo (λZ=>∃x,Z=[pb (.list (ts.map int)),pb (.int m),x]) _ _ _ _ (by simp only[Qb]) ?_ ⟨xg,rfl⟩ (by rw[Qb,QG];lia);rintro i d e hd he Z ⟨x,rfl⟩;rw[Qd]at hd he;cases hw:ts[i]? with
  |none=>rw[hw]at hd;cases hd
  |some t=>
  rw[hw]at hd he;cases hd;cases he;have hb:=h2 t (Qr hw);exact⟨_,U8 (Qa xf) xf,rfl,KD (U4 (U3 xf) (U4 (U3 xf) U9)) xf (PF hb.1 hb.2),_,rfl⟩
 apply KS
 case h1=>exact XR (Z1:=[pb (.list (ts.map int)),pb (.int m)]) (Wu (U3 xf) xf) (Wq (WJ (ZQ (U4 (KT (Yj (ZD (U3 xf) Yi) hc)) U9) (PD ts))))
 case h2=>intro hh;cases hh
 case h3=>
  intro _;refine Zj (KW ?_);have hs:WA [.list (ts.map int)]=O (.int ts.length):=by unfold WA;dsimp only;rw[SX];dsimp only;rw[Qo (by lia),Go h1]
  have hlen:Kt [.list (ts.map int)]=O (.int ts.length):=by rw[ZJ,Qb]
  refine KN (KT (Kl (ZQ (U4 (U3 xf) U9) hs) (ZZ xf hlen) Wm)) ?_;simp
section
variable{cs:xm}{ls:L3}{o:Ord}{old:xA}{ts:xm}
theorem Ej(g:Good cs ls)(ga:Yz cs.length ls.length old ts):Vc [Kr cs ls,KR o old ts]=O .none:=by
 refine Rs (Z:=[pb (Kr cs ls),pb (KR o old ts),xg,xg,xg,xg,xg]) xf ?_;unfold TZ;have l7:=g.l7;have c6:=g.c6;have xC:Kt [.list (ls.map K3)]=O (.int ls.length):=by rw[ZJ,Qb]
 have vc:Kt [.list (cs.map int)]=O (.int cs.length):=by rw[ZJ,Qb]
 refine Kw (VF (KD (U4 (U3 xf) U9) xf (PB g))) ?_;apply K0;apply KS
 case h1=>exact XR (Z1:=[pb (Kr cs ls),pb (KR o old ts),xg,xg,xg,xg,xg]) (Wu (U3 xf) xf) (Kl (ZZ xf (show Kt [KR o old ts]=O (.int 3)from rfl)) Ka Rw)
 case h2=>intro hh;simp at hh
 case h3=>
  intro _;refine Zj (KW ?_);refine Kw (V1 (U3 xf) (KO xf (Ki (U8 (Qa xf) xf) (Ki (U8 (Qa xf) xf) KP)))) ?_;refine Kw (V1 (U3 xf) (KO xf (Ki (U8 (Qa xf) xf) (Ki (U8 (Qa xf) xf) (Ki (U8 (Qa xf) xf) KP))))) ?_;refine Kw (VF (KD (U4 (U3 xf) U9) xf (Ar o))) ?_;apply K0;apply KS
  case h1=>exact Wq (WJ (KD (U4 (U3 xf) (U4 (ZZ xf xC) (U4 (ZZ xf vc) U9))) xf (Aq ga.len ga.old (by lia))))
  case h2=>intro hh;cases hh
  case h3=>
   intro _;refine Zj (KW ?_);apply KS
   case h1=>exact Wq (WJ (KD (U4 (U3 xf) (U4 (ZZ xf xC) U9)) xf (ky ga.once ga.there (by lia))))
   case h2=>intro hh;cases hh
   case h3=>exact λ_=>Zj ⟨_,rfl⟩
end
theorem OI{t:Int}{r:xm}:oIn (.int t) (.list (r.map int))=O (r.contains t):=OM t r
theorem Gj{c s w sz dg x6:Option Sl}{m:Nat}{T:xm}(hm:0<m):∀(k fuel d:Nat),(∀j,j<k->(((d+j) % m:Nat):Int)∈T)->(((d+k) % m:Nat):Int)∉T->d<m->k<fuel ->
  Xl (Vu oIn (UZ 8) 7) Pf fuel [w,c,s,pb (.int m),sz,dg,x6,O (.own (T.map int)),pb (.int d)]=.nx [w,c,s,pb (.int m),sz,dg,x6,O (.own (T.map int)),pb (.int (((d+k) % m:Nat):Int))]
 |0,fuel+1,d,_,hn,hd,_=>by
  have e0:(d+0) % m=d:=by rw[Ur];exact Nat.mod_eq_of_lt hd
  rw[e0]at hn⊢;have e:(T.contains (d:Int))=xj:=by simpa using hn
  rw[Xl,Pv (r:=xj) (U3 xf) xf (by rw[OI,e])];rfl
 |k+1,fuel+1,d,hj,hn,hd,hf=>by
  have h0:=hj 0 (by lia);rw[Ur,Nat.mod_eq_of_lt hd]at h0;have e:(T.contains (d:Int))=xi:=by simpa using h0
  rw[Xl,Pv (r:=xi) (U3 xf) xf (by rw[OI,e])];dsimp only;rw[Qo xf]
  have hst:Pf [w,c,s,pb (.int m),sz,dg,x6,O (.own (T.map int)),pb (.int d)]=.nx [w,c,s,pb (.int m),sz,dg,x6,O (.own (T.map int)),pb (.int (((d+1) % m:Nat):Int))]:=by
   unfold Pf;refine K1 (Kl (Kl (U3 xf) Ka Zu) (U3 xf) (V6 (by lia))) (Qa xf) ?_;have e1:((d+1:Nat):Int)=(d:Int)+1:=by lia
   have:((d:Int)+1) % (m:Int)=(((d+1) % m:Nat):Int):=by rw[Int.natCast_emod,e1]
   rw[this];rfl
  rw[hst];dsimp only;have e2:∀j,((d+1) % m+j) % m=(d+(j+1)) % m:=λj=>by rw[Nat.mod_add_mod];congr 1;lia
  have:=Gj (c:=c) (s:=s) (w:=w) (sz:=sz) (dg:=dg) (x6:=x6) (T:=T) hm k fuel ((d+1) % m) (λj hjk=>by rw[e2];exact hj (j+1) (by lia)) (by rw[e2];exact hn) (Nat.mod_lt _ hm) (by lia);rw[e2]at this;exact this
theorem Ga:∀(a b:xm),a.Nodup->(∀x∈a,x∈b)->a.length<=b.length
 |[],_,_,_=>Uc _
 |x::a,b,hn,h=>by
  have hx:=h x Qk;have hn':=Ux.mp hn
  have:=Ga a (b.erase x) hn'.2 λy hy=>by
   have hne:y≠x:=λe=>hn'.1 (e ▸ hy)
   exact(List.mem_erase_of_ne hne).mpr (h y (Qi _ hy))
  rw[List.length_erase_of_mem hx]at this;have hp:=List.length_pos_of_mem hx;rw[QC]
  lia
theorem jz{m:Nat}{T:xm}(d:Nat)(hl:T.length<m)(hn:T.Nodup):∃k,k<m/\(∀j,j<k->(((d+j) % m:Nat):Int)∈T)/\(((d+k) % m:Nat):Int)∉T:=by
 have ex:∃k,k<m/\(((d+k) % m:Nat):Int)∉T:=by
  refine Classical.byContradiction λhno=>?_;have all:∀k,k<m->(((d+k) % m:Nat):Int)∈T:=λk hk=>Classical.byContradiction λz=>hno ⟨k,hk,z⟩
  have hsub:∀x:Nat,x<m->((x:Nat):Int)∈T:=λx hx=>by
   have h1:=all ((x+m-d % m) % m) (Nat.mod_lt _ (by lia));have e:(d+(x+m-d % m) % m) % m=x:=by have hdm:d % m<m:=Nat.mod_lt _ (by lia);rw[Nat.add_mod_mod,←Nat.mod_add_mod];rw[show d % m+(x+m-d % m)=x+m by lia,Nat.add_mod_right,Nat.mod_eq_of_lt hx]
   rw[e]at h1;exact h1
  have:=Ga ((UK m).map λx:Nat=>(x:Int)) T (List.Pairwise.map _ (λa b h e=>h (by lia)) List.nodup_range) (λt ht=>by obtain⟨x,hx,rfl⟩:=Qp.mp ht;exact hsub x (Q7.mp hx));rw[Qb,Qq]at this
  lia
 obtain⟨k,hk,hkn⟩:=ex;induction k using Nat.strongRecOn with
 |_ k ih=>
  by_cases h:∀j,j<k->(((d+j) % m:Nat):Int)∈T
  .exact⟨k,hk,h,hkn⟩
  .obtain⟨j,hj⟩:=Classical.not_forall.mp h
   obtain⟨hj1,vQ⟩:=Classical.not_imp.mp hj;exact ih j hj1 (by lia) vQ
theorem Mg{x:D}{m:Nat}(h:m<=1000):KJ (.list [x]) (.int m)=O (.list (UL m x)):=by
 rw[Gv ⟨by lia,by lia,by show 1*_<=_;lia⟩]
 congr 2
 rw[QD];clear h;induction m with
 |zero=>rfl
 |succ n ih=>rw[Q0,QP,ih,Q0];rfl
noncomputable def szA(n m:Nat):xm:=[3,2,(m:Int)+1]++UL m ((n:Int)+1)++UL m (m:Int)
theorem Mz(n m:Nat):(szA n m).length=3+m+m:=by unfold szA;rw[Qm,Qm,QF,QF];rfl
theorem Cv{n m j:Nat}(h:j<m):(szA n m)[3+j]?=O ((n:Int)+1):=by
 unfold szA;rw[Qw (by rw[Qm,QF];show 3+j<3+m;lia),Qt (by show 3<=3+j;lia)]
 show(UL m ((n:Int)+1))[3+j-3]?=_
 rw[Nat.add_sub_cancel_left,QA,Qo h]
theorem Ab{n m j:Nat}(h:j<m):(szA n m)[3+m+j]?=O (m:Int):=by
 unfold szA;have e:([3,2,(m:Int)+1]++UL m ((n:Int)+1)).length=3+m:=by rw[Qm,QF];rfl
 rw[Qt (by rw[e];lia),e,Nat.add_sub_cancel_left,QA,Qo h]
section
variable{cs:xm}{ls:L3}
noncomputable def SZ(d:Int):xq:=if 0<d then O (d-1)else xg
theorem Aa(d:Int):oIx (.list [.none,.int (d-1)]) (.int (if decide (0<d)=xi then 1 else 0))=O (Kc (SZ d)):=by
 unfold SZ;by_cases h:0<d
 .rw[QT h,Qo xf,Qo h];exact ZC (j:=1) xf
 .rw[QI h,Qv (by decide),Qv h];exact ZC (j:=0) xf
theorem B9(g:Good cs ls)(c s:Int):∃r,WV [Kr cs ls,.int c,.int s]=O r/\∃o old ts,r=KR o old ts/\Yz cs.length ls.length old ts:=by
 refine Wt (Z:=[pb (Kr cs ls),pb (.int c),pb (.int s),xg,xg,xg,xg,xg,xg]) xf ?_;unfold Tp;have l7:=g.l7;have l1:=g.l1;have c6:=g.c6;have c1:=g.c1;have xC:Kt [.list (ls.map K3)]=O (.int ls.length):=by rw[ZJ,Qb]
 have vc:Kt [.list (cs.map int)]=O (.int cs.length):=by rw[ZJ,Qb]
 generalize hm:ls.length=m at *;generalize hn:cs.length=n at *;refine Kw (K1 (ZQ (U4 (K2 xf Ka Wj) U9) xC) (Qa xf) xf) ?_;have s1:Kf (.list [.int 3,.int 2,.int ((m:Int)+1)]) (.list (UL m (.int ((n:Int)+1))))=O (.list (([3,2,(m:Int)+1]++UL m ((n:Int)+1)).map int)):=by rw[Xj (by rw[QF];show 3+m<=_;lia),Qy,JR];rfl
 refine Kw (K1 (Kl (Zw (U4 Ka (U4 Ka (U4 (Kl (U3 xf) Ka Zu) U9))) (Qa xf)) (Kl (Zw (U4 (Kl (ZQ (U4 (K2 xf Ka Vs) U9) vc) Ka Zu) U9) (Qa xf)) (U3 xf) (Mg (by lia))) s1) (Qa xf) xf) ?_;have s2:Kf (.list (([3,2,(m:Int)+1]++UL m ((n:Int)+1)).map int)) (.list (UL m (.int (m:Int))))=O (.list ((szA n m).map int)):=by rw[Xj (by rw[Qb,Qm,QF,QF];show 3+m+m<=_;lia)];unfold szA;rw[Qy (l₂:=UL m (m:Int)),JR (n:=m) (a:=(m:Int))]
 obtain⟨r,hF,dg,rfl,hdl,hdb⟩:=PZ c s (sizes:=szA n m) (λx hx=>by
  unfold szA at hx;rcases QU.mp hx with hx|hx
  .rcases QU.mp hx with hx|hx
   .have hx:x=3∨x=2∨x=(m:Int)+1:=by simpa using hx
    lia
   .rw[(Uf.mp hx).2];lia
  .rw[(Uf.mp hx).2];lia) (by rw[Mz];lia)
 rw[Mz]at hdl;refine Kw (K1 (KD (U4 (U3 xf) (U4 (U3 xf) (U4 (Kl (U3 xf) (Kl (Zw (U4 (U3 xf) U9) (Qa xf)) (U3 xf) (Mg (by lia))) s2) U9))) xf hF) (Qa xf) xf) ?_;have get:∀j,j<3+m+m->∃d,dg[j]?=O d:=λj hj=>⟨dg[j]'(by lia),Qf _⟩
 obtain⟨d0,e0⟩:=get 0 (by lia);obtain⟨d1,e1⟩:=get 1 (by lia);obtain⟨d2,e2⟩:=get 2 (by lia);have b0:=hdb 0 d0 3 e0 xf;have b1:=hdb 1 d1 2 e1 xf;have b2:=hdb 2 d2 ((m:Int)+1) e2 xf;have i0:oIx (.list (dg.map int)) (.int 0)=O (.int d0):=ZC (j:=0) (by rw[Qd,e0];rfl);have i1:oIx (.list (dg.map int)) (.int 1)=O (.int d1):=ZC (j:=1) (by rw[Qd,e1];rfl);have i2:oIx (.list (dg.map int)) (.int 2)=O (.int d2):=ZC (j:=2) (by rw[Qd,e2];rfl);refine Kw (K1 Ka (Qa xf) xf) ?_
 let ol:xm:=(dg.drop 3).take m
 have oll:ol.length=m:=by show((dg.drop 3).take m).length=m;rw[QS,Jo];lia
 have olb:∀d∈ol,0<=d/\d<(n:Int)+1:=λd hd=>by
  obtain⟨j,hj,e⟩:=Um.mp hd;have wo:j<m:=by lia
  refine hdb (3+j) d _ ?_ (Cv wo);have:ol[j]?=O d:=by rw[Qf hj,e]
  show dg[3+j]?=_;rw[←this];show _=((dg.drop 3).take m)[j]?;rw[List.getElem?_take,Qo wo,List.getElem?_drop]
 have xK:DL.cutD (dg.map int) (O 3) (O (3+(m:Int)))=ol.map int:=by
  rw[OX (by decide) (by lia) (by lia)];have t1:(3:Int).toNat=3:=rfl;have t2:(3+(m:Int)).toNat-(3:Int).toNat=m:=by lia
  rw[t2,t1]
 have step:Ho (sIf (U6 oEq (Kj 5 (U5 (.int 1))) (U5 (.int 1))) (Zg 6 (ZB (Zb (Yd (UZ 5) (Kn (U5 (.int 3)) λx=>Ko (YG x)) (Kn (U6 Kf (U5 (.int 3)) (UZ 3)) λx=>Ko (YG x)))) 1 (gN 9) (U5 xi) (U6 oIx (Kx (U2 (U5 .none) (U2 (U6 Zc (UZ 9) (U5 (.int 1))) (U1)))) (Zt Wx (U2 (Ke UN (ZA (oIB λi j=>decide (j<i)) 9 (U5 (.int 0)))) (U1)))))) (sNx))
   [pb (Kr cs ls),pb (.int c),pb (.int s),pb (.int m),pb (.list (([3,2,(m:Int)+1]++UL m ((n:Int)+1)).map int)),pb (.list (dg.map int)),O (.pub .none),xg,xg]
   (λr=>∃old x6,r=.nx [pb (Kr cs ls),pb (.int c),pb (.int s),pb (.int m),pb (.list (([3,2,(m:Int)+1]++UL m ((n:Int)+1)).map int)),pb (.list (dg.map int)),x6,xg,xg] /\
    (x6=O (.pub (Yb old)) ∨ ∃ws,old=O ws/\x6=O (.own (ws.map Kc)))/\(∀ws,old=O ws->ws.length=m)/\∀ws t,old=O ws->O t∈ws->0<=t/\t<n):=by
  have hc:∀a b:Option Sl,Zk (gN 9) (U5 xi) (U6 oIx (Kx (U2 (U5 .none) (U2 (U6 Zc (UZ 9) (U5 (.int 1))) (U1)))) (Zt Wx (U2 (Ke UN (ZA (oIB λi j=>decide (j<i)) 9 (U5 (.int 0)))) (U1)))) (ol.map int) (Kz [pb (Kr cs ls),pb (.int c),pb (.int s),pb (.int m),pb (.list (([3,2,(m:Int)+1]++UL m ((n:Int)+1)).map int)),pb (.list (dg.map int)),O (.pub .none),xg,xg]++UL 1 xg) []=O ((ol.map SZ).map Kc):=λ_ _=>by
   refine Xo (λZ=>∃x,Z=[pb (Kr cs ls),pb (.int c),pb (.int s),pb (.int m),pb (.list (([3,2,(m:Int)+1]++UL m ((n:Int)+1)).map int)),pb (.list (dg.map int)),O (.pub .none),xg,xg,x]) _ _ _ _ (by simp only[Qb]) ?_ ⟨xg,rfl⟩ (by rw[Qb,QG];lia);rintro i d e hd he Z ⟨x,rfl⟩;rw[Qd]at hd;rw[Qd,Qd]at he;cases hw:ol[i]? with
   |none=>rw[hw]at hd;cases hd
   |some z=>
   rw[hw]at hd he;cases hd;cases he;exact⟨_,U8 (Qa xf) xf,rfl,Kl (Zw (U4 Ka (U4 (Kl (U3 xf) Ka Y4) U9)) (Qa xf)) (ZQ (U4 (KT (Yu xf Ka xf)) U9) xf) (Aa z),_,rfl⟩
  apply KS
  case h1=>exact Kl (K2 xf Ka i1) Ka Wm
  case h2=>
   intro _;refine ZP (ZY (Yj (ZD (VA (U3 xf) (Y8 Ka) (Y8 (Kl Ka (U3 xf) Zu)) (by rw[VO,xK])) Yi) (hc xg xg)) (Qa xf) xf) ?_;refine⟨O (ol.map SZ),_,rfl,.inr ⟨_,rfl,rfl⟩,λws e=>?_,λws t e ht=>?_⟩
   .cases e;rw[Qb];exact oll
   .cases e
    obtain⟨d,hd,e⟩:=Qp.mp ht;have:=olb d hd;unfold SZ at e;split at e
    .cases e;lia
    .cases e
  case h3=>exact λ_=>Zj ⟨xg,_,rfl,.inl xf,(λws e=>by cases e),(λws t e=>by cases e)⟩
 refine K0 (Pk step λr hr=>?_);obtain⟨old,x6,rfl,hx6,wl,hob⟩:=hr;refine KW ?_;refine Kw (ZY (Wn U9 (Qa xf)) (Qa xf) xf) ?_;obtain⟨k2,rfl⟩:∃k:Nat,d2=k:=⟨d2.toNat,by lia⟩
 let tl:xm:=(dg.drop (3+m)).take k2
 have tll:tl.length=k2:=by show((dg.drop (3+m)).take k2).length=k2;rw[QS,Jo];lia
 have tlb:∀j d,tl[j]?=O d->0<=d/\d<(m:Int):=λj d hj=>by
  have xX:j<k2:=by have:=(Qg.mp hj).1;lia
  refine hdb (3+m+j) d _ ?_ (Ab (by lia));rw[←hj];show _=((dg.drop (3+m)).take k2)[j]?;rw[List.getElem?_take,Qo xX,List.getElem?_drop]
 have wx:DL.cutD (dg.map int) (O (3+(m:Int))) (O (3+(m:Int)+(k2:Int)))=tl.map int:=by
  rw[OX (by lia) (by lia) (by lia)];have t1:(3+(m:Int)).toNat=3+m:=by lia
  have t2:(3+(m:Int)+(k2:Int)).toNat-(3+(m:Int)).toNat=k2:=by lia
  rw[t2,t1]
 apply K0;apply ZV (λi Z=>∃(T:xm)(x8:Option Sl),Z=[pb (Kr cs ls),pb (.int c),pb (.int s),pb (.int m),pb (.list (([3,2,(m:Int)+1]++UL m ((n:Int)+1)).map int)),pb (.list (dg.map int)),x6,O (.own (T.map int)),x8]/\T.length=i/\T.Nodup/\∀a∈T,0<=a/\a<(m:Int))
 case h1=>exact ZD (VA (U3 xf) (Y8 (Kl Ka (U3 xf) Zu)) (Y8 (Kl (Kl Ka (U3 xf) Zu) (K2 xf Ka i2) Zu)) (by rw[VO,wx])) Yi
 case h0=>exact⟨[],_,rfl,rfl,List.nodup_nil,λ_ h=>by cases h⟩
 case hst=>
  rintro i d Z hi ⟨T,x8,rfl,hT,hTn,hTb⟩;rw[Qd]at hi;cases hw:tl[i]? with
  |none=>rw[hw]at hi;cases hi
  |some z=>
  rw[hw]at hi;cases hi;have hz:=tlb i z hw;have xD:i<k2:=by have:=(Qg.mp hw).1;lia
  obtain⟨zz,rfl⟩:∃k:Nat,z=k:=⟨z.toNat,by lia⟩
  refine⟨_,U8 (Qa xf) xf,?_⟩;unfold MP;obtain⟨k,hk,hk1,hk2⟩:=jz (m:=m) (T:=T) zz (by lia) hTn;refine Kw (Gj (by lia) k 1000 zz hk1 hk2 (by lia) (by lia)) ?_;refine ZP (XY xf (U3 xf) xf (by rw[Qb];lia) xf) ?_;refine Zp ⟨T++[(((zz+k) % m:Nat):Int)],_,by rw[Qy (l₁:=T) (f:=int)];rfl,by rw[Qm,hT];rfl,?_,λa ha=>?_⟩
  .refine List.nodup_append.mpr ⟨hTn,List.nodup_cons.mpr ⟨(by simp),List.nodup_nil⟩,λa ha b hb e=>?_⟩
   rw[QZ.mp hb]at e;exact hk2 (e ▸ ha)
  .rcases QU.mp ha with h|h
   .exact hTb a h
   .rw[QZ.mp h]
    have:=Nat.mod_lt (zz+k) (show 0<m by lia);exact⟨by lia,by lia⟩
 case hend=>
  rintro Z ⟨T,x8,rfl,hT,hTn,hTb⟩;refine KW ?_
  obtain⟨o,ho⟩:∃o:Ord,oIx (.list [.str "firsts", .str "full", .str "lasts"]) (.int d0)=O (.str o.tx):=by
   have:d0=0∨d0=1∨d0=2:=by lia
   rcases this with rfl|rfl|rfl
   .exact⟨.firsts,ZC (j:=0) xf⟩
   .exact⟨.full,ZC (j:=1) xf⟩
   .exact⟨.lasts,ZC (j:=2) xf⟩
  have ga:Yz n m old T:=⟨wl,hob,hTn,hTb⟩;rcases hx6 with rfl|⟨ws,rfl,rfl⟩
  .exact KN (YU (U4 (Kl (Zw (U4 Ka (U4 Ka (U4 Ka U9))) (Qa xf)) (K2 xf Ka i0) ho) (U4 (U3 xf) (U4 (ZR xf xf) U9))) (Qa xf)) ⟨_,rfl,o,_,T,rfl,ga⟩
  .exact KN (YU (U4 (Kl (Zw (U4 Ka (U4 Ka (U4 Ka U9))) (Qa xf)) (K2 xf Ka i0) ho) (U4 (ZR xf xf) (U4 (ZR xf xf) U9))) (Qa xf)) ⟨_,rfl,o,O ws,T,rfl,ga⟩
end
theorem Cu{op:Int->Int->xn}{j:Nat}{f:M D}{Z Z1 Z':U0}{a b:Int}{d:D}(h0:Z[j]?=O (O (.pub (.int a))))(h1:f Z=.ok (.int b) Z1)(h2:op a b=O d)(h3:j<Z1.length)(h4:Z1.set j (O (.pub d))=Z'):Xw op j f Z=.nx Z':=by unfold Xw;rw[h0];dsimp only[sB];rw[h1];dsimp only;rw[h2];dsimp only;rw[Qo h3,h4]
theorem mulN{i j:Int}(h : -1000<j/\j<1000):YB i j=O (.int (i*j)):=by unfold YB;exact Qo (.inr ⟨by lia,by lia⟩)
theorem Rz{b n:Int}(hb : -1000<b/\b<1000)(hn : -1000<=n/\n<=1000):ZI [.int b,.int n]=O (.int (b ^ n.toNat)):=by
 refine Zo (Z:=[pb (.int b),pb (.int n),xg,xg]) xf ?_;unfold TY;refine Kw (K1 Ka (Qa xf) xf) ?_;apply K0;apply ZV (λi Z=>∃x3,Z=[pb (.int b),pb (.int n),pb (.int (b ^ i)),x3])
 case h1=>exact VG (U4 (U3 xf) U9) (VP (by lia) (by lia))
 case h0=>exact⟨_,by rw[Int.pow_zero];rfl⟩
 case hst=>rintro i d Z hi ⟨x3,rfl⟩;refine⟨_,U8 (Qa xf) xf,?_⟩;unfold MX;refine ZP (Cu xf (U3 xf) (mulN hb) (Qa xf) xf) ?_;exact Zp ⟨_,by rw[Int.pow_succ];rfl⟩
 case hend=>
  rintro Z ⟨x3,rfl⟩;refine KW (KN (U3 rfl) ?_);rw[X0]
  congr 4
  lia
noncomputable def ZM:Ord->Int->Int->Int->Int
 |.firsts,b,M,r=>b ^ (M-r).toNat
 |.full,b,M,r=>b ^ M.toNat+b ^ (M-r).toNat
 |.lasts,b,M,r=>b ^ M.toNat-b ^ (r-1).toNat
theorem j6(o:Ord){b M r:Int}(hb : -1000<b/\b<1000)(hM:0<=M/\M<=100)(hr:0<=r/\r<=100):Vb [.str o.tx,.int b,.int M,.int r]=O (.int (ZM o b M r)):=by
 refine Zo (Z:=[pb (.str o.tx),pb (.int b),pb (.int M),pb (.int r)]) xf ?_;unfold TX;have p1:ZI [.int b,.int (M-r)]=O (.int (b ^ (M-r).toNat)):=Rz hb ⟨by lia,by lia⟩;have p2:ZI [.int b,.int M]=O (.int (b ^ M.toNat)):=Rz hb ⟨by lia,by lia⟩;have p3:ZI [.int b,.int (r-1)]=O (.int (b ^ (r-1).toNat)):=Rz hb ⟨by lia,by lia⟩;apply K0;apply KS
 case h1=>exact Yu xf Ka (Ek o)
 case h2=>
  intro h;cases o with
  |firsts=>exact KN (KD (U4 (U3 xf) (U4 (Kl (U3 xf) (U3 xf) Y4) U9)) xf p1) (WI xf)
  |full=>cases h
  |lasts=>cases h
 case h3=>
  intro h;refine Zj (KW ?_);apply K0;apply KS
  case h1=>exact Yu xf Ka (R6 o)
  case h2=>
   intro h';cases o with
   |full=>exact KN (Kl (KD (U4 (U3 xf) (U4 (U3 xf) U9)) xf p2) (KD (U4 (U3 xf) (U4 (Kl (U3 xf) (U3 xf) Y4) U9)) xf p1) Zu) (WI xf)
   |firsts=>cases h
   |lasts=>cases h'
  case h3=>
   intro h';refine Zj (KW ?_);cases o with
   |firsts=>cases h
   |full=>cases h'
   |lasts=>exact KN (Kl (KD (U4 (U3 xf) (U4 (U3 xf) U9)) xf p2) (KD (U4 (U3 xf) (U4 (Kl (U3 xf) Ka Y4) U9)) xf p3) Y4) xf
noncomputable def Vx(ts:xm)(b i r:Int):Int:=if i∈ts then(b-r)*b ^ (ts.length-1-ts.idxOf i)else 0
theorem GS{n:Nat}:∀{xs:xk},(∀x∈xs,PyData.weight x<=n)->PyData.weightAll xs<=xs.length*(n+1)
 |[],_=>by simp[PyData.weightAll]
 |x::xs,h=>by
  have h1:=h x Qk;have h2:=GS (xs:=xs) λy hy=>h y (Qi _ hy);rw[PyData.weightAll,QC,Nat.succ_mul]
  lia
theorem jy{i:Int}(h:0<=i/\i<1000):(int i).weight<=10:=by
 simp only[PyData.weight];split
 .lia
 .rename_i hne
  have h0:i.natAbs≠0:=by intro e;exact hne (by simpa using e)
  have:=(Nat.log2_lt h0 (k:=10)).mpr (by lia)
  lia
theorem kL{ts:xm}(h:∀a∈ts,0<=a/\a<1000)(hl:ts.length<=1000):PyData.layable0 (.list (ts.map int))=xi:=by
 unfold PyData.layable0;have h1:(UM (ts.map int)).canLay0=xi:=VJ λx hx=>by obtain⟨y,_,rfl⟩:=Qp.mp hx;rfl
 have h2:(UM (ts.map int)).depth<=64:=QR (Rv (n:=1) (SN λx hx=>by obtain⟨y,_,rfl⟩:=Qp.mp hx;exact MM y)) (by decide)
 have h3:(UM (ts.map int)).weight<=2 ^ 20:=by
  have:=GS (n:=10) (xs:=ts.map int) λx hx=>by obtain⟨y,hy,rfl⟩:=Qp.mp hx;exact jy (h y hy)
  rw[Qb]at this;simp only[PyData.weight]
  lia
 rw[h1,QT h2,QT h3];rfl
theorem B8{ts:xm}{k:Int}(hb:∀a∈ts,0<=a/\a<1000)(hl:ts.length<=1000)(h:k∈ts):SF (.list (ts.map int)) [.int k]=O (.int (ts.idxOf k:Nat)):=by unfold SF;dsimp only;rw[SX];dsimp only;exact Qo ⟨kL hb hl,h⟩
theorem B7{t:Int}{r:xm}:Y9 (.int t) (.list (r.map int))=O (!r.contains t):=by unfold Y9;rw[OI];rfl
theorem j4{ts:xm}{b i r:Int}(hb : -1000<b/\b<1000)(hr : -1000<r/\r<1000)(hl:ts.length<=100)(ht:∀a∈ts,0<=a/\a<1000):Va [.list (ts.map int),.int b,.int i,.int r]=O (.int (Vx ts b i r)):=by
 refine Zo (Z:=[pb (.list (ts.map int)),pb (.int b),pb (.int i),pb (.int r),xg]) xf ?_;unfold TW Vx;apply K0;apply KS
 case h1=>exact Yu xf (U3 xf) B7
 case h2=>
  intro h;have:¬i∈ts:=by simpa using h
  rw[Qv this];exact KN Ka (WI xf)
 case h3=>
  intro h;have hm:i∈ts:=by simpa using h
  rw[Qo hm];refine Zj (KW ?_);have hi:=List.idxOf_lt_length_of_mem hm;have hlen:Kt [.list (ts.map int)]=O (.int ts.length):=by rw[ZJ,Qb]
  refine Kw (K1 (Kl (Kl (ZZ xf hlen) Ka Y4) (BW (U3 xf) (U4 (U3 xf) U9) (B8 ht (by lia) hm)) Y4) (Qa xf) xf) ?_;have hp:=Rz (b:=b) (n:=(ts.length:Int)-1-(ts.idxOf i:Nat)) hb ⟨by lia,by lia⟩;have e:((ts.length:Int)-1-(ts.idxOf i:Nat)).toNat=ts.length-1-ts.idxOf i:=by lia
  rw[e]at hp;exact KN (Kl (Kl (U3 xf) (U3 xf) Y4) (KD (U4 (U3 xf) (U4 (U3 xf) U9)) xf hp) (RD (by lia) (by lia))) xf
noncomputable def Xp(old:xA)(i:Nat)(t:Int):Int:=match old with
 |none=>0
 |some ws=>if ws[i]?=O (O t)then 1 else 0
section
variable{cs:xm}{ls:L3}{o:Ord}{old:xA}{ts:xm}
noncomputable def Zr(ls:L3)(o:Ord)(old:xA)(ts:xm)(i:Nat)(rs:List xm)(t:Int):Int:=
 (ZM o (ls.length+1) (lng ls) (KZ t rs)*(ls.length+1)+Xp old i t)*((lng ls:Int)+1) ^ ts.length+Vx ts (lng ls+1) i (KZ t rs)
theorem HZ{b:Int}(h0:0<=b)(h:b<=8):∀{n k:Nat},n<=k->b ^ n<=8 ^ k:=λ{n k} hk=>by
 have e:b=((b.toNat:Nat):Int):=by lia
 rw[e];have h1:b.toNat ^ n<=8 ^ n:=Nat.pow_le_pow_left (by lia) n;have h2:8 ^ n<=8 ^ k:=Nat.pow_le_pow_right (by lia) hk;have h3:((b.toNat ^ n:Nat):Int)<=((8 ^ k:Nat):Int):=by lia
 rw[Int.natCast_pow,Int.natCast_pow]at h3;exact h3
theorem Ap(g:Good cs ls)(ga:Yz cs.length ls.length old ts){i:Nat}{rs:List xm}(hi:ls[i]?=O rs)(t:Int):We [Kr cs ls,KR o old ts,.int (lng ls:Nat),.int i,.int t]=O (.int (Zr ls o old ts i rs t)):=by
 have l7:=g.l7;have l1:=g.l1;have hL:lng ls<=5:=R7 l1 λrs h=>(g.rk rs h).few;have hrk:KZ t rs<=5:=by have:=Pz t rs;have:=(g.rk rs (Qr hi)).few;lia
 have wg:=ga.few;have hlt:i<ls.length:=(Qg.mp hi).1;refine Zo (Z:=[pb (Kr cs ls),pb (KR o old ts),pb (.int (lng ls:Nat)),pb (.int i),pb (.int t),xg,xg,xg,xg,xg,xg,xg,xg]) xf ?_;unfold TV Zr;refine Kw (V1 (U3 xf) (KO xf (Ki (U8 (Qa xf) xf) (Ki (U8 (Qa xf) xf) (Ki (U8 (Qa xf) xf) KP))))) ?_;refine Kw (K1 (K2 xf Ka Wj) (Qa xf) xf) ?_;refine Kw (K1 (KD (U4 (K2 xf (U3 xf) (NO hi)) (U4 (U3 xf) U9)) xf (jC t rs)) (Qa xf) xf) ?_;have xC:Kt [.list (ls.map K3)]=O (.int ls.length):=by rw[ZJ,Qb]
 have htl':Kt [.list (ts.map int)]=O (.int ts.length):=by rw[ZJ,Qb]
 refine Kw (K1 (Kl (ZZ xf xC) Ka Zu) (Qa xf) xf) ?_
 have hk:∀Z:U0,Z[6]?=O (O (.pub (Yb old)))->Z[3]?=O (O (.pub (.int i)))->Z[4]?=O (O (.pub (.int t))) ->
   mIf (Yc (Ke (λd=>!isNon d) (UZ 6)) (U6 oEq (Kj 6 (UZ 3)) (UZ 4))) (U5 (int 1)) (U5 (.int 0)) Z=.ok (.int (Xp old i t)) Z:=λZ r6 r3 r4=>by
  cases old with
  |none=>exact Oi (Cf (KT (U3 r6))) Ka
  |some ws=>
   have hw:ws.length=ls.length:=ga.len ws xf;have hwi:ws[i]?=O ws[i]:=Qf (by lia);have hx:oIx (.list (ws.map Kc)) (.int i)=O (Kc ws[i]):=Mh (by lia)
   have ht:(Yc (Ke (λd=>!isNon d) (UZ 6)) (U6 oEq (Kj 6 (UZ 3)) (UZ 4))) Z=.ok (decide (ws[i]=O t)) Z:=
    Ce (KT (U3 r6)) (Kl (K2 r6 (U3 r3) hx) (U3 r4) (Ob (b:=O t)))
   rw[FJ ht Ka Ka]
   congr 1
   unfold Xp;dsimp only;rw[hwi];by_cases h:ws[i]=O t
   .rw[QT h,Qo xf,Qo (by rw[h])]
   .rw[QI h,Qv (by decide),Qv (λe=>h (Q5 e))]
 refine Kw (K1 (hk _ xf xf xf) (Qa xf) xf) ?_;have h1:=j6 o (b:=(ls.length:Int)+1) (M:=(lng ls:Nat)) (r:=(KZ t rs:Nat)) ⟨by lia,by lia⟩ ⟨by lia,by lia⟩ ⟨by lia,by lia⟩;have h2:=Rz (b:=(lng ls:Int)+1) (n:=(ts.length:Nat)) ⟨by lia,by lia⟩ ⟨by lia,by lia⟩;have h3:=j4 (ts:=ts) (b:=(lng ls:Int)+1) (i:=i) (r:=(KZ t rs:Nat)) ⟨by lia,by lia⟩ ⟨by lia,by lia⟩ (by lia) (λa ha=>by have:=ga.there a ha;lia);rw[QD]at h2;refine Kw (K1 (Kl (Kl (KD (U4 (U3 xf) (U4 (U3 xf) (U4 (U3 xf) (U4 (U3 xf) U9)))) xf h1) (U3 xf) (SU (by lia) (by lia))) (U3 xf) Zu) (Qa xf) xf) ?_;have hp:((lng ls:Int)+1) ^ ts.length<=8 ^ 7:=HZ (by lia) (by lia) (by lia);have hp0:0<=((lng ls:Int)+1) ^ ts.length:=Int.pow_nonneg (by lia);exact KN (Kl (Kl (U3 xf) (KD (U4 (Kl (U3 xf) Ka Zu) (U4 (ZZ xf htl') U9)) xf h2) (SU (by lia) (by lia))) (KD (U4 (U3 xf) (U4 (Kl (U3 xf) Ka Zu) (U4 (U3 xf) (U4 (U3 xf) U9)))) xf h3) Zu) xf
end
theorem RI{s:D->U0->xu}{t:M Bool}{g:M D}(I:U0->Prop):∀(ds:xk)(qs:List xn)(Z:U0)(es:xk),qs.length=ds.length ->
  (∀(i:Nat) d e,ds[i]?=O d->qs[i]?=O e->∀Z,I Z->∃Z1,s d Z=O Z1/\t Z1=.ok e.isSome Z1/\(∀x,e=O x->g Z1=.ok x Z1)/\I (Kz Z1))->I Z->es.length+ds.length<=1000000->Zk s t g ds Z es=O (es++qs.filterMap id)
 |[],[],Z,es,_,_,_,_=>by rw[Zk];simp
 |d::r,e::q,Z,es,hl,st,h0,hz=>by
  obtain⟨Z1,e1,e2,e3,h1⟩:=st 0 d e xf xf Z h0;rw[QC]at hz;have ih:=λes' hz'=>RI I r q (Kz Z1) es' (by simpa using hl) (λi d' e' x y=>st (i+1) d' e' (by simpa using x) (by simpa using y)) h1 hz'
  rw[Zk,e1];dsimp only;rw[e2];dsimp only;cases e with
  |none=>rw[if_neg (show ¬(none:xn).isSome=xi by simp),ih es (by lia)];rfl
  |some x=>rw[Qo (show(O x).isSome=xi from rfl),e3 x xf];dsimp only;rw[Qo (by lia),ih (es++[x]) (by rw[Qm,Jb];lia),Ja];rfl
noncomputable def KM(W:Nat->List xm->Int->Int):Nat->L3->LO->LO
 |k,rs::ls,o::r=>(o.map (W k rs))::KM W (k+1) ls r
 |_,_,_=>[]
noncomputable def KU(l:LO):Int:=(l.filterMap id).sum
theorem Tb{o:xq}{l:LO}:KU (o::l)=o.getD 0+KU l:=by
 cases o with
 |none=>show KU l=0+KU l;lia
 |some x=>show(x::l.filterMap id).sum=_;rw[Jd];rfl
section
variable{cs:xm}{ls:L3}{o:Ord}{old:xA}{ts:xm}{ws:LO}
noncomputable def K8(ls:L3)(o:Ord)(old:xA)(ts:xm)(a t:Int):Int:=Zr ls o old ts a.toNat (ls.getD a.toNat []) t
noncomputable def Zs(V:Int->Int->Int)(q:Int×Int):D:=.tuple [.int q.1,.int q.2,.int (V q.1 q.2)]
theorem GJ(g:Good cs ls)(ga:Yz cs.length ls.length old ts):XI [Kr cs ls,KR o old ts]=O (.list ((KH 0 ls).map (Zs (K8 ls o old ts)))):=by
 refine Zo (Z:=[pb (Kr cs ls),pb (KR o old ts),xg]) xf ?_;unfold TU;refine Kw (VF (KD (U4 (U3 xf) (U4 (U3 xf) U9)) xf (Ej g ga))) ?_;refine Kw (K1 (KD (U4 (U3 xf) U9) xf (jB g)) (Qa xf) xf) ?_;have few:(KH 0 ls).length<=42:=by rw[(RJ ls 0).length_eq];exact Po g
 have hc:Zk (gT 2 (gNC (gN 3) (gNC (gN 4) (gN0)))) (U5 xi) (KQ (U2 (UZ 3) (U2 (UZ 4) (U2 (Kb 5 We (U2 (UZ 0) (U2 (UZ 1) (U2 (UZ 2) (U2 (UZ 3) (U2 (UZ 4) (U1))))))) (U1))))) ((KH 0 ls).map K9) (Kz [pb (Kr cs ls),pb (KR o old ts),pb (.int (lng ls:Nat))]++UL 2 xg) []=O ((KH 0 ls).map (Zs (K8 ls o old ts))):=by
  refine Xo (λZ=>∃x y,Z=[pb (Kr cs ls),pb (KR o old ts),pb (.int (lng ls:Nat)),x,y]) _ _ _ _ (by simp only[Qb]) ?_ ⟨xg,xg,rfl⟩ (by rw[Qb,QG];lia);rintro i d e hd he Z ⟨x,y,rfl⟩;rw[Qd]at hd he;cases hw:(KH 0 ls)[i]? with
  |none=>rw[hw]at hd;cases hd
  |some q=>
  rw[hw]at hd he;cases hd;cases he;obtain⟨a,t⟩:=q;obtain⟨j,rs,hj,ha,ht⟩:=VM (Qr hw);have ha:a=(j:Int):=by rw[Q6]at ha;exact ha
  subst ha;have hv:K8 ls o old ts j t=Zr ls o old ts j rs t:=by unfold K8;rw[QD,Qj,hj];rfl
  refine⟨_,KO xf (Ki (U8 (Qa xf) xf) (Ki (U8 (Qa xf) xf) KP)),rfl,?_,_,_,rfl⟩;unfold Zs;dsimp only;rw[hv];exact YU (U4 (U3 xf) (U4 (U3 xf) (U4 (KD (U4 (U3 xf) (U4 (U3 xf) (U4 (U3 xf) (U4 (U3 xf) (U4 (U3 xf) U9))))) xf (Ap g ga hj t)) U9))) (Qa xf)
 exact KN (KT (Yj (ZD (KD (U4 (U3 xf) U9) xf (kR g)) Yi) hc)) xf
end
section
variable{cs:xm}{ls:L3}
theorem My(g:Good cs ls):Wb [Kr cs ls]=O (Kr cs ls):=by
 refine Zo (Z:=[pb (Kr cs ls),xg,xg]) xf ?_;unfold Tl;have l7:=g.l7;refine Kw (ZY (Wn U9 (Qa xf)) (Qa xf) xf) ?_;apply K0;apply ZV (λi Z=>∃x2,Z=[pb (Kr cs ls),O (.own ((ls.take i).map K3)),x2])
 case h1=>exact ZD (K2 xf Ka Wj) Yi
 case h0=>exact⟨_,rfl⟩
 case hst=>
  rintro i d Z hi ⟨x2,rfl⟩;rw[Qd]at hi;cases hw:ls[i]? with
  |none=>rw[hw]at hi;cases hi
  |some rs=>
  rw[hw]at hi;cases hi;have hrs:rs.length<=5:=(g.rk rs (Qr hw)).few;refine⟨_,U8 (Qa xf) xf,?_⟩;unfold Ld
  have hc:∀x1:Option Sl,Zk (gN 3) (U5 xi) (Ke UM (VC 3)) (rs.map Zq) (Kz [pb (Kr cs ls),x1,pb (K3 rs)]++UL 1 xg) []=O (rs.map Zq):=λx1=>by
   refine Xo (λZ=>∃a x,Z=[pb (Kr cs ls),a,pb (K3 rs),x]) _ _ _ _ xf ?_ ⟨_,xg,rfl⟩ (by rw[Qb,QG];omega);rintro j d e hd he Z ⟨a,x,rfl⟩;rw[hd]at he;cases he;rw[Qd]at hd;cases hwj:rs[j]? with
   |none=>rw[hwj]at hd;cases hd
   |some r=>
   rw[hwj]at hd;cases hd;exact⟨_,U8 (Qa xf) xf,rfl,KT (OY xf (show Xh [Zq r]=O (r.map int)from rfl)),_,_,rfl⟩
  refine ZP (XY xf (KT (Yj (ZD (U3 xf) Yi) (hc _))) xf (by rw[Qb,QS];omega) xf) ?_;refine Zp ⟨O (.pub (K3 rs)),?_⟩;rw[JI,hw,Qy];rfl
 case hend=>rintro Z ⟨x2,rfl⟩;rw[Qb,JS];exact KW (KN (YU (U4 (KT (K4 (U4 (K2 rfl Ka Vs) U9) (Yl (show Xh [.list (cs.map int)]=O (cs.map int)from rfl)))) (U4 (ZR rfl rfl) U9)) (Qa rfl)) rfl)
end
theorem LW{n:Nat}:ixN (n+1) (-1)=O n:=by
 unfold ixN;rw[Qv (by omega),Qo (by omega)]
 congr 1
 omega
theorem E7{op:Int->Int->xn}{j:Nat}{f g:M D}{Z Z':U0}{xs:xm}{p:Nat}{k d b:Int}(h0:Z[j]?=O (O (.own (xs.map int))))(h1:g Z=.ok (.int k) Z)(hk:ixN xs.length k=O p)(h4:f Z=.ok (.int b) Z)(h5:∀a,op a b=O (.int (a+d)))
  (h8:Z.set j (O (.own ((XM xs p d).map int)))=Z'):Vv op j g f Z=.nx Z':=by
 have hp:=(Ow hk).2.1;refine Le (n:=p) h0 h1 h0 (a:=xs.getD p 0) ?_ h4 (h5 _) h0 (by rw[Qb];exact hk) ?_
 .unfold atI
  rw[Qb,hk]
  show(xs.map int)[p]?=_
  rw[List.getElem?_map,List.getElem?_eq_getElem hp];simp[List.getD,List.getElem?_eq_getElem hp]
 .rw[←h8,Lx];rfl
section
variable{cs:xm}{ls:L3}{ws:LO}
theorem NB(g:Good cs ls):Y0 [Kr cs ls]=O (.int (lng ls:Nat)):=by
 refine Zo (Z:=[pb (Kr cs ls)]) xf ?_;unfold Tr
 have hc:Zk (gN 1) (U5 xi) (Zv 1) (ls.map K3) (Kz [pb (Kr cs ls)]++UL 1 xg) []=O ((ls.map λrs=>(rs.length:Int)).map int):=by
  refine Xo (λZ=>∃x,Z=[pb (Kr cs ls),x]) _ _ _ _ (by rw[Qb,Qb,Qb]) ?_ ⟨xg,rfl⟩ (by rw[Qb,QG];have:=g.l7;lia);rintro i d e hd he Z ⟨x,rfl⟩;rw[Qd]at hd;rw[Qd,Qd]at he;cases hl:ls[i]? with
  |none=>rw[hl]at hd;cases hd
  |some rs=>
  rw[hl]at hd he;cases hd;cases he;exact⟨_,U8 (Qa xf) xf,rfl,ZZ xf (Gd rs),_,rfl⟩
 refine KN (ZQ (U4 (KT (Yj (ZD (K2 xf Ka Wj) Yi) hc)) U9) (Lz (by rw[Qb];have:=g.l1;lia))) ?_;rw[OK g.l1]
theorem NC{i:Nat}{rs:List xm}(h:ls[i]?=O rs)(t:Int):Y1 [Kr cs ls,.int i,.int t]=O (.int (KZ t rs:Nat)):=by
 refine Zo (Z:=[pb (Kr cs ls),pb (.int i),pb (.int t),xg,xg]) xf ?_;unfold Ts;apply K0;apply ZV (λi' Z=>(∃x2 x3,Z=[pb (Kr cs ls),pb (.int i),pb (.int t),x2,x3])/\∀j r,j<i'->rs[j]?=O r->r.contains t=xj)
 case h1=>exact Xu (U4 (Kl (K2 xf Ka Wj) (U3 xf) (NO h)) U9) Xs
 case h0=>exact⟨⟨_,_,rfl⟩,λj r h=>absurd h (JU _)⟩
 case hst=>
  rintro k d Z hi ⟨⟨x2,x3,rfl⟩,hb⟩;obtain⟨x,hx,rfl⟩:=Xi hi;rw[Qd]at hx;cases hr:rs[k]? with
  |none=>rw[hr]at hx;cases hx
  |some r=>
   rw[hr]at hx;cases hx;refine⟨_,KO xf (Ki (U8 (Qa xf) xf) (Ki (U8 (Qa xf) xf) KP)),?_⟩;unfold MV;apply KS
   case h1=>exact Yu xf (U3 xf) (OM t r)
   case h2=>
    intro hh;refine KN (Kl (U3 xf) Ka Zu) (RC ?_);rw[HI hr hh hb];refine⟨?_⟩
    congr 2
    lia
   case h3=>
    intro hh;refine Zj (Zp ⟨⟨_,_,rfl⟩,λj r' hj e=>?_⟩);rcases J6.mp hj with hj|rfl
    .exact hb j r' hj e
    .rw[hr]at e;cases e;exact hh
 case hend=>rintro Z ⟨⟨x2,x3,rfl⟩,hb⟩;refine KW (KN Ka ?_);rw[HH (λj r hj e=>hb j r (by rw[YH,Qb];exact hj) e)];rfl
noncomputable def Ks(n:Nat)(qs:xx):xm:=(UK n).map λp=>((qs.count p:Nat):Int)
theorem YN(n:Nat)(qs:xx):(Ks n qs).length=n:=by unfold Ks;rw[Qb,Qq]
theorem V4{n p:Nat}{qs:xx}(h:p<n):(Ks n qs)[p]?=O ((qs.count p:Nat):Int):=by unfold Ks;rw[Qd,Q3 h];rfl
theorem LV(n:Nat):Ks n []=UL n 0:=by unfold Ks;rw[List.eq_replicate_iff];exact⟨by rw[Qb,Qq],λb hb=>by obtain⟨p,_,rfl⟩:=Qp.mp hb;rfl⟩
theorem HY{n p:Nat}{qs:xx}:XM (Ks n qs) p 1=Ks n (qs++[p]):=by
 apply Jy;intro k;by_cases hk:k<n
 .rw[Gc (V4 hk),V4 hk,List.count_append]
  congr 1
  by_cases e:k=p
  .rw[Qo e,e,List.count_singleton_self];omega
  .rw[Qv e,List.count_singleton]
   have:(p==k)=xj:=by rw[beq_eq_false_iff_ne];exact λz=>e z.symm
   rw[this];show _=(((_+0:Nat)):Int);omega
 .rw[QE (by rw[Nm,YN];omega),QE (by rw[YN];omega)]
theorem Nl{L:Nat}{got:xm}(h:okR L got):Ks (L+1) (got.map (plc L))=KF L got:=by
 apply Jy;intro k;by_cases hk:k<L+1
 .rw[V4 hk,BD h hk]
 .rw[QE (by rw[YN];omega),QE (by rw[WG];omega)]
theorem Pt(hl:ws.length=ls.length):(Kg ls ws).length=ls.length:=by unfold Kg;rw[Us];omega
theorem kP(g:Good cs ls)(dl:Deal cs ls ws):WU [Kr cs ls,Kk ws]=O (.list ((KF (lng ls) (Kg ls ws)).map int)):=by
 have hL:lng ls<=5:=R7 g.l1 λrs h=>(g.rk rs h).few;have l7:=g.l7;refine Zo (Z:=[pb (Kr cs ls),pb (Kk ws),xg,xg,xg]) xf ?_;unfold To;have hadd:Kf (.int (lng ls:Nat)) (.int 1)=O (.int ((lng ls+1:Nat):Int)):=by rw[Zu];rfl
 refine Kw (ZY (OE (n:=lng ls+1) (Zw (U4 Ka U9) (Qa xf)) (Kl (KD (U4 (U3 xf) U9) xf (NB g)) Ka hadd) (by omega)) (Qa xf) xf) ?_;apply K0;apply ZV (λi Z=>∃x3 x4,Z=[pb (Kr cs ls),pb (Kk ws),O (.own ((Ks (lng ls+1) (((Kg ls ws).take i).map (plc (lng ls)))).map int)),x3,x4])
 case h1=>exact Xu (U4 (U3 xf) U9) Xs
 case h0=>exact⟨_,_,by rw[J9,Uo,LV,JR];rfl⟩
 case hst=>
  rintro i d Z hi ⟨x3,x4,rfl⟩;obtain⟨z,hz,rfl⟩:=Xi hi;rw[Qd]at hz;cases hwi:ws[i]? with
  |none=>rw[hwi]at hz;cases hz
  |some o=>
  rw[hwi]at hz;cases hz;have xD:i<ls.length:=by have:=(Qg.mp hwi).1;have:=dl.len;omega
  have hls:ls[i]?=O ls[i]:=Qf xD;have hg:=L1 hls hwi;have hnext:(((Kg ls ws).take (i+1)).map (plc (lng ls)))=((Kg ls ws).take i).map (plc (lng ls))++[plc (lng ls) (rg ls[i] o)]:=by rw[JI,hg,Qy];rfl
  rw[Q6];refine⟨_,KO xf (Ki (U8 (Qa xf) xf) (Ki (U8 (Qa xf) xf) KP)),?_⟩;unfold MT;generalize ((Kg ls ws).take i).map (plc (lng ls))=qs at hnext⊢;cases o with
  |none=>
   apply KS
   case h1=>exact KT (k:=isNon) (x:=PyData.none) (U3 xf)
   case h3=>intro h;cases h
   case h2=>intro _;have e:plc (lng ls) (rg ls[i] xg)=lng ls:=rfl;refine ZP (E7 (p:=lng ls) (k:=-1) xf (V2 Ka) (by rw[YN];exact LW) Ka (d:=1) (λa=>rfl) xf) ?_;refine Zp ⟨O (.pub (.int i)),O (.pub .none),?_⟩;rw[hnext,e,←HY];rfl
  |some t=>
   apply KS
   case h1=>exact KT (k:=isNon) (x:=int t) (U3 xf)
   case h2=>intro h;cases h
   case h3=>
    intro _;have hr:=RE (dl.wish i t ls[i] hwi hls);have hle:=Pz t ls[i];have hlg:=Oc (Qr hls);have e:plc (lng ls) (rg ls[i] (O t))=KZ t ls[i]-1:=by show plc (lng ls) ((KZ t ls[i]:Nat):Int)=_;unfold plc;rw[Qv (by omega)];omega
    have hsub:Zc (.int (KZ t ls[i]:Nat)) (.int 1)=O (.int ((KZ t ls[i]-1:Nat):Int)):=by rw[Y4];congr 2;omega
    refine ZP (Cw (p:=KZ t ls[i]-1) xf (Kl (KD (U4 (U3 xf) (U4 (U3 xf) (U4 (U3 xf) U9))) xf (NC hls t)) Ka hsub) (by rw[YN];omega) Ka (d:=1) (λa=>rfl) xf) ?_;refine Zp ⟨O (.pub (.int i)),pb (.int t),?_⟩;rw[hnext,e,←HY];rfl
 case hend=>rintro Z ⟨x3,x4,rfl⟩;refine KW (KN (ZR rfl rfl) ?_);rw[YH,Qb,List.take_of_length_le (by rw[Pt dl.len];have:=dl.len;omega),Nl VD]
end
theorem P8(o:Ord):oEq (.str o.tx) (.str "lasts")=O (match o with | .lasts=>xi|_=>xj):=by cases o<;>decide +kernel
noncomputable def Ys(c:xm):Int:=c.getD (c.length-1) 0
noncomputable def YX:Ord->xm->xm
 |.firsts,c=>c
 |.full,c=>(0-Ys c)::c
 |.lasts,c=>c.reverse.map λx=>0-x
noncomputable def Zl(old:xA)(ws:LO):Nat:=match old with
 |none=>0
 |some os=>((os.zip ws).filter λp=>decide (p.1=p.2)&&p.2.isSome).length
noncomputable def Zi(ls:L3)(ws:LO)(a:Int):Int:=match ws.getD a.toNat xg with
 |none=>0
 |some t=>(lng ls:Int)+1-(KZ t (ls.getD a.toNat []):Nat)
theorem B6{c:xm}(h:c≠[]):oIx (.list (c.map int)) (.int (-1))=O (.int (Ys c)):=by
 have hl:0<c.length:=J7.mpr h;show atI (c.map int) (-1)=_;obtain⟨n,hn⟩:∃n,c.length=n+1:=⟨c.length-1,by omega⟩
 unfold atI;rw[Qb,hn,LW]
 show(c.map int)[n]?=_
 unfold Ys;rw[Qd,hn,JY,Qj,Qf (by omega)];rfl
theorem Ao(os ws:LO):Z6 (os.map Kc) (ws.map Kc)=(os.zip ws).map λp=>.tuple [Kc p.1,Kc p.2]:=by unfold Z6;rw[List.zip_map,QW];rfl
theorem Mx{α β:Type}{l:List α}{p:α->Bool}{f:α->β}:(l.map λx=>if p x=xi then O (f x)else xg).filterMap id=(l.filter p).map f:=by
 induction l with
 |nil=>rfl
 |cons x r ih=>
  rw[Qu];by_cases h:p x=xi
  .rw[Qo h,List.filter_cons_of_pos h,Qu,←ih];rfl
  .rw[Qv h,List.filter_cons_of_neg h,←ih];rfl
section
variable{cs:xm}{ls:L3}{ws:LO}{o:Ord}{old:xA}{ts:xm}
theorem B5(g:Good cs ls):(KF (lng ls) (Kg ls ws)).length<=6:=by have hL:lng ls<=5:=R7 g.l1 λrs h=>(g.rk rs h).few;rw[WG];omega
theorem HX(g:Good cs ls)(dl:Deal cs ls ws)(ga:Yz cs.length ls.length old ts){K6:xm}{k7:Int}{x6 x8 xT vg:Option Sl}{x3 x4:Option Sl}(h6:x6=O (.pub (.list (K6.map int)))∨x6=O (.own (K6.map int)))(hK:K6.length<=100) :
  Ho (U7 (KI (Zb (UZ 5)) (gN 10) Pg) (Kh (U6 Kf (U6 Kf (UZ 6) (Kx (U2 (UZ 7) (U1)))) (UZ 9))))
   [pb (Kr cs ls),pb (KR o old ts),pb (Kk ws),x3,x4,pb (.list (ts.map int)),x6,pb (.int k7),x8,O (.own []),xT,vg] (λr=>r=Out.rt (.list ((K6++[k7]++ts.map (Zi ls ws)).map int))):=by
 have l7:=g.l7;have few:=ga.few;apply K0;apply ZV (λi Z=>∃y10 y11,Z=[pb (Kr cs ls),pb (KR o old ts),pb (Kk ws),x3,x4,pb (.list (ts.map int)),x6,pb (.int k7),x8,O (.own (((ts.take i).map (Zi ls ws)).map int)),y10,y11])
 case h1=>exact ZD (U3 xf) Yi
 case h0=>exact⟨_,_,rfl⟩
 case hst=>
  rintro i d Z hi ⟨y10,y11,rfl⟩;rw[Qd]at hi;cases hti:ts[i]? with
  |none=>rw[hti]at hi;cases hi
  |some z=>
  rw[hti]at hi;cases hi;have hz:=ga.there z (Qr hti);obtain⟨a,rfl⟩:∃a:Nat,z=a:=⟨z.toNat,by omega⟩
  have hal:a<ls.length:=by omega
  have hls:ls[a]?=O ls[a]:=Qf hal;have xL:a<ws.length:=by have:=dl.len;omega
  have we:ws[a]?=O ws[a]:=Qf xL;have hix:oIx (Kk ws) (.int a)=O (Kc ws[a]):=Mh xL;have vZ:ws.getD a xg=ws[a]:=by rw[Qj,we];rfl
  have hld:ls.getD a []=ls[a]:=by rw[Qj,hls];rfl
  have hnext:((ts.take (i+1)).map (Zi ls ws))=(ts.take i).map (Zi ls ws)++[Zi ls ws a]:=by rw[JI,hti,Qy];rfl
  have wg:(((ts.take i).map (Zi ls ws)).map int).length<1000000:=by rw[Qb,Qb,QS];omega
  have htr:Zi ls ws a=match ws[a]with|none=>0|some t=>(lng ls:Int)+1-(KZ t ls[a]:Nat):=by unfold Zi;rw[QD,vZ,hld]
  refine⟨_,U8 (Qa xf) xf,?_⟩;unfold Pg;refine Kw (K1 Ka (Qa xf) xf) ?_;rw[hnext,Qy];generalize ((ts.take i).map (Zi ls ws)).map int=T at wg⊢;generalize hwo:ws[a]=w at hix htr;cases w with
  |none=>
   apply K0;apply KS
   case h1=>exact KT (k:=λd=>!isNon d) (x:=PyData.none) (K2 xf (U3 xf) hix)
   case h2=>intro h;cases h
   case h3=>intro _;refine Zj (KW ?_);refine ZP (XY xf (U3 xf) xf wg xf) ?_;rw[htr];exact Zp ⟨_,_,rfl⟩
  |some t=>
   apply K0;apply KS
   case h1=>exact KT (k:=λd=>!isNon d) (x:=int t) (K2 xf (U3 xf) hix)
   case h2=>intro _;refine ZP (K1 (Kl (Kl (KD (U4 (U3 xf) U9) xf (NB g)) Ka Zu) (KD (U4 (U3 xf) (U4 (U3 xf) (U4 (K2 xf (U3 xf) hix) U9))) xf (NC hls t)) Y4) (Qa xf) xf) ?_;refine KW ?_;refine ZP (XY xf (U3 xf) xf wg xf) ?_;rw[htr];exact Zp ⟨_,_,rfl⟩
   case h3=>intro h;cases h
 case hend=>
  rintro Z ⟨y10,y11,rfl⟩;rw[Qb,JS];refine KW ?_;have e1:Kf (.list (K6.map int)) (.list [.int k7])=O (.list ((K6++[k7]).map int)):=by rw[Xj (by rw[Qb];show _+1<=_;omega),Qy];rfl
  have e2:Kf (.list ((K6++[k7]).map int)) (.list ((ts.map (Zi ls ws)).map int))=O (.list ((K6++[k7]++ts.map (Zi ls ws)).map int)):=by rw[Xj (by rw[Qb,Qb,Qb,Qm];show _+1+_<=_;omega),←Qy]
  rcases h6 with rfl|rfl
  .exact KN (Kl (Kl (U3 xf) (Zw (U4 (U3 xf) U9) (Qa xf)) e1) (ZR xf xf) e2) xf
  .exact KN (Kl (Kl (ZR xf xf) (Zw (U4 (U3 xf) U9) (Qa xf)) e1) (ZR xf xf) e2) xf
theorem O6(g:Good cs ls)(dl:Deal cs ls ws)(ga:Yz cs.length ls.length old ts){K6:xm}{x3 x6 x7 x8 x9 xT vg:Option Sl}(h6:x6=O (.pub (.list (K6.map int)))∨x6=O (.own (K6.map int)))(hK:K6.length<=100) :
  Ho (U7 (Km 7 (U5 (.int 0)))
 (U7 (sIf (Ke (λd=>!isNon d) (UZ 4))
 (U7 (Zg 8 (ZB (XA (U2 (UZ 4) (U2 (UZ 2) (U1)))) 2 (gT 2 (gNC (gN 12) (gNC (gN 13) (gN0)))) (ZA oEq 12 (UZ 13)) (UZ 13)))
 (Km 7 (Zt Kt (U2 (Ke UM (ZB (Zb (UZ 8)) 1 (gN 12) (Ke (λd=>!isNon d) (UZ 12)) (UZ 12))) (U1)))))
 (sNx))
 (U7 (Zg 9 (Kn (U1) λxs=>if xs.length<=1000000 then U5 xs else λ_=>.bad))
 (U7 (KI (Zb (UZ 5)) (gN 10) Pg)
 (Kh (U6 Kf (U6 Kf (UZ 6) (Kx (U2 (UZ 7) (U1)))) (UZ 9)))))))
   [pb (Kr cs ls),pb (KR o old ts),pb (Kk ws),x3,pb (Yb old),pb (.list (ts.map int)),x6,x7,x8,x9,xT,vg] (λr=>r=Out.rt (.list ((K6++[(Zl old ws:Int)]++ts.map (Zi ls ws)).map int))):=by
 have l7:=g.l7;have len:=dl.len;refine Kw (K1 Ka (Qa xf) xf) ?_;apply K0;cases old with
 |none=>
  apply KS
  case h1=>exact KT (k:=λd=>!isNon d) (x:=PyData.none) (U3 xf)
  case h2=>intro h;cases h
  case h3=>intro _;refine Zj (KW ?_);refine Kw (ZY (Wn U9 (Qa xf)) (Qa xf) xf) ?_;exact HX g dl ga h6 hK
 |some os=>
  have hos:os.length=ls.length:=ga.len os xf;have hzl:(os.zip ws).length<=7:=by rw[JT];omega
  apply KS
  case h1=>exact KT (k:=λd=>!isNon d) (x:=Kk os) (U3 xf)
  case h3=>intro h;cases h
  case h2=>
   intro _
   let same:LO:=((os.zip ws).filter λp=>decide (p.1=p.2)).map λp=>p.2
   have hc:Zk (gT 2 (gNC (gN 12) (gNC (gN 13) (gN0)))) (ZA oEq 12 (UZ 13)) (UZ 13) (Z6 (os.map Kc) (ws.map Kc)) (Kz [pb (Kr cs ls),pb (KR o (O os) ts),pb (Kk ws),x3,pb (Yb (O os)),pb (.list (ts.map int)),x6,pb (.int 0),x8,x9,xT,vg]++UL 2 xg) []=O (same.map Kc):=by
    have hsm:same.map Kc=((os.zip ws).map λp=>if decide (p.1=p.2)=xi then O (Kc p.2)else xg).filterMap id:=by rw[Mx];show(List.map _ _).map Kc=_;rw[QW];rfl
    rw[Ao,hsm];refine RI (λZ=>∃y3 y6 y8 y9 y10 y11 x y,Z=[pb (Kr cs ls),pb (KR o (O os) ts),pb (Kk ws),y3,pb (Yb (O os)),pb (.list (ts.map int)),y6,pb (.int 0),y8,y9,y10,y11,x,y]) _ _ _ _ (by rw[Qb,Qb]) ?_ ⟨_,_,_,_,_,_,xg,xg,rfl⟩ (by rw[Qb,QG];omega);rintro i d e hd he Z ⟨y3,y6,y8,y9,y10,y11,x,y,rfl⟩;rw[Qd]at hd he;cases hq:(os.zip ws)[i]? with
    |none=>rw[hq]at hd;cases hd
    |some q=>
    rw[hq]at hd he;cases hd;cases he;refine⟨_,KO xf (Ki (U8 (Qa xf) xf) (Ki (U8 (Qa xf) xf) KP)),?_,?_,_,_,_,_,_,_,_,_,rfl⟩
    .have e:(if decide (q.1=q.2)=xi then O (Kc q.2)else xg).isSome=decide (q.1=q.2):=by
      by_cases h:q.1=q.2
      .rw[QT h];rfl
      .rw[QI h];rfl
     rw[e];exact Yu xf (U3 xf) Ob
    .intro v hv
     dsimp only at hv;split at hv
     .cases hv;exact U3 xf
     .cases hv
   refine Kw (ZY (Yj (Mm (U4 (U3 xf) (U4 (U3 xf) U9)) xf) hc) (Qa xf) xf) ?_;have hsl:same.length<=7:=by show(List.map _ _).length<=7;rw[Qb];exact QR (List.length_filter_le _ _) hzl
   have hc2:Zk (gN 12) (Ke (λd=>!isNon d) (UZ 12)) (UZ 12) (same.map Kc) (Kz [pb (Kr cs ls),pb (KR o (O os) ts),pb (Kk ws),x3,pb (Yb (O os)),pb (.list (ts.map int)),x6,pb (.int 0),pb (.list (same.map Kc)),x9,xT,vg]++UL 1 xg) []=O ((same.filter Option.isSome).map Kc):=by
    rw[←Mx];refine RI (λZ=>∃y3 y6 y8 y9 y10 y11 x,Z=[pb (Kr cs ls),pb (KR o (O os) ts),pb (Kk ws),y3,pb (Yb (O os)),pb (.list (ts.map int)),y6,pb (.int 0),y8,y9,y10,y11,x]) _ _ _ _ (by simp only[Qb]) ?_ ⟨_,_,_,_,_,_,xg,rfl⟩ (by rw[Qb,QG];omega);rintro i d e hd he Z ⟨y3,y6,y8,y9,y10,y11,x,rfl⟩;rw[Qd]at hd he;cases hq:same[i]? with
    |none=>rw[hq]at hd;cases hd
    |some q=>
    rw[hq]at hd he;cases hd;cases he;refine⟨_,U8 (Qa xf) xf,?_,?_,_,_,_,_,_,_,_,rfl⟩
    .cases q with
     |none=>exact KT (k:=λd=>!isNon d) (x:=PyData.none) (U3 xf)
     |some t=>exact KT (k:=λd=>!isNon d) (x:=int t) (U3 xf)
    .intro v hv
     dsimp only at hv;split at hv
     .cases hv;exact U3 xf
     .cases hv
   have hln:Kt [.list ((same.filter Option.isSome).map Kc)]=O (.int (Zl (O os) ws:Nat)):=by
    rw[ZJ,Qb]
    congr 3
    show((List.map _ _).filter _).length=_
    unfold Zl;dsimp only;rw[List.filter_map,Qb,List.filter_filter]
    congr 1
    apply List.filter_congr;intro p _
    show(p.2.isSome&&decide (p.1=p.2))=_
    rw[Bool.and_comm]
   refine ZP (K1 (ZQ (U4 (KT (Yj (ZD (ZR xf xf) Yi) hc2)) U9) hln) (Qa xf) xf) ?_;refine KW ?_;refine Kw (ZY (Wn U9 (Qa xf)) (Qa xf) xf) ?_;exact HX g dl ga h6 hK
theorem Ei(g:Good cs ls)(dl:Deal cs ls ws)(ga:Yz cs.length ls.length old ts):Wa [Kr cs ls,KR o old ts,Kk ws]=O (.list ((YX o (KF (lng ls) (Kg ls ws))++[(Zl old ws:Int)]++ts.map (Zi ls ws)).map int)):=by
 refine Zo (Z:=[pb (Kr cs ls),pb (KR o old ts),pb (Kk ws),xg,xg,xg,xg,xg,xg,xg,xg,xg]) xf ?_;unfold Tk;have few:(KF (lng ls) (Kg ls ws)).length<=6:=B5 g;have hne:KF (lng ls) (Kg ls ws)≠[]:=λe=>by have:=WG (lng ls) (Kg ls ws);rw[e]at this;cases this
 refine Kw (V1 (U3 xf) (KO xf (Ki (U8 (Qa xf) xf) (Ki (U8 (Qa xf) xf) (Ki (U8 (Qa xf) xf) KP))))) ?_;refine Kw (K1 (KD (U4 (U3 xf) (U4 (U3 xf) U9)) xf (kP g dl)) (Qa xf) xf) ?_;generalize KF (lng ls) (Kg ls ws)=c at few hne;cases o with
 |firsts=>
  apply K0;apply KS
  case h1=>exact Yu xf Ka (R6 .firsts)
  case h2=>intro h;cases h
  case h3=>
   intro _;refine Zj (KW ?_);apply K0;apply KS
   case h1=>exact Yu xf Ka (P8 .firsts)
   case h2=>intro h;cases h
   case h3=>exact λ_=>Zj (KW (O6 g dl ga (K6:=c) (.inl xf) (by omega)))
 |full=>
  apply K0;apply KS
  case h1=>exact Yu xf Ka (R6 .full)
  case h3=>intro h;cases h
  case h2=>
   intro _;have e:Kf (.list [.int (0-Ys c)]) (.list (c.map int))=O (.list (((0-Ys c)::c).map int)):=by rw[Xj (by rw[Qb];show 1+_<=_;omega)];rfl
   refine ZP (K1 (Kl (Zw (U4 (Kl Ka (K2 xf (V2 Ka) (B6 hne)) Y4) U9) (Qa xf)) (U3 xf) e) (Qa xf) xf) ?_;refine KW ?_;apply K0;apply KS
   case h1=>exact Yu xf Ka (P8 .full)
   case h2=>intro h;cases h
   case h3=>exact λ_=>Zj (KW (O6 g dl ga (K6:=(0-Ys c)::c) (.inl xf) (by rw[QC];omega)))
 |lasts=>
  apply K0;apply KS
  case h1=>exact Yu xf Ka (R6 .lasts)
  case h2=>intro h;cases h
  case h3=>
   intro _;refine Zj (KW ?_);apply K0;apply KS
   case h1=>exact Yu xf Ka (P8 .lasts)
   case h3=>intro h;cases h
   case h2=>
    intro _
    have hc:∀x7 x8 x9 xT vg:Option Sl,Zk (gN 12) (U5 xi) (U6 Zc (U5 (.int 0)) (UZ 12)) (c.map int).reverse (Kz [pb (Kr cs ls),pb (KR .lasts old ts),pb (Kk ws),pb (.str Ord.lasts.tx),pb (Yb old),pb (.list (ts.map int)),pb (.list (c.map int)),xg,xg,xg,xg,xg]++UL 1 xg) []=O ((c.reverse.map λx=>0-x).map int):=λx7 x8 x9 xT vg=>by
     rw[←List.map_reverse];refine Xo (λZ=>∃x,Z=[pb (Kr cs ls),pb (KR .lasts old ts),pb (Kk ws),pb (.str Ord.lasts.tx),pb (Yb old),pb (.list (ts.map int)),pb (.list (c.map int)),xg,xg,xg,xg,xg,x]) _ _ _ _ (by simp only[Qb]) ?_ ⟨xg,rfl⟩ (by rw[Qb,QG,Jc];omega);rintro i d e hd he Z ⟨x,rfl⟩;rw[Qd]at hd;rw[Qd,Qd]at he;cases hq:c.reverse[i]? with
     |none=>rw[hq]at hd;cases hd
     |some q=>
     rw[hq]at hd he;cases hd;cases he;exact⟨_,U8 (Qa xf) xf,rfl,Kl Ka (U3 xf) Y4,_,rfl⟩
    refine ZP (ZY (Yj (ZD (Ml (U3 xf) Ka Ka (Y8 (V2 Ka))) Yi) (hc xg xg xg xg xg)) (Qa xf) xf) ?_;exact KW (O6 g dl ga (K6:=c.reverse.map λx=>0-x) (.inr xf) (by rw[Qb,Jc];omega))
end
noncomputable def btr:LP->Bool
 |[]=>xj
 |(m,y)::r=>if m=y then btr r else decide (y=0) || (decide (0<m)&&decide (m<y))
noncomputable def rgA(ls:L3)(ws:LO)(a:Int):Int:=(Kg ls ws).getD a.toNat 0
noncomputable def X8(o:Ord)(c1 c2:xm)(k1 k2:Int)(r1 r2:xm):Bool:=if fnz (Wh o c1 c2)=0 then(if k1=k2 then btr (r1.zip r2)else decide (k2<k1))else decide (0<fnz (Wh o c1 c2))
theorem Op(a b:xm):fnz (a++b)=if fnz a=0 then fnz b else fnz a:=by
 induction a with
 |nil=>rfl
 |cons x r ih=>
  show(if x=0 then fnz (r++b)else x)=if(if x=0 then fnz r else x)=0 then fnz b else(if x=0 then fnz r else x)
  by_cases h:x=0
  .rw[Qo h,Qo h,ih]
  .rw[Qv h,Qv h,Qv h]
theorem Mw:∀{xs ys:xm},xs.length=ys.length->HT.Z7 ys xs=decide (0<fnz (KB xs ys))
 |[],[],_=>rfl
 |x::xs,y::ys,h=>by
  rw[HT.Nz];show _=decide (0<if x-y=0 then fnz (KB xs ys)else x-y);by_cases e:y=x
  .rw[if_pos e,if_pos (by omega),Mw (by simpa using h)]
  .rw[Qv e,Qv (by omega)]
   exact JN.2 (by rw[Q8,Q8];omega)
theorem Py{a b c d:xm}(h:a.length=c.length):KB (a++b) (c++d)=KB a c++KB b d:=by unfold KB;rw[List.zip_append h,Qy]
theorem RH{a b:xm}(h:a.length=b.length):(KB a b).length=a.length:=by unfold KB;rw[Qb,JT];omega
theorem Nk{a b:xm}{i:Nat}{x y:Int}(h1:a[i]?=O x)(h2:b[i]?=O y):(KB a b)[i]?=O (x-y):=by unfold KB;rw[Qd,J0.mpr (by exact(⟨h1,h2⟩:a[i]?=O (x,y).1/\b[i]?=O (x,y).2))];rfl
theorem B4{o:Ord}{a b:xm}(h:a.length=b.length):(YX o a).length=(YX o b).length:=by
 cases o with
 |firsts=>exact h
 |full=>show(_::a).length=(_::b).length;rw[QC,QC,h]
 |lasts=>show(a.reverse.map _).length=(b.reverse.map _).length;rw[Qb,Qb,Jc,Jc,h]
theorem HW{o:Ord}{a b:xm}(h:a.length=b.length)(hne:a≠[]):KB (YX o a) (YX o b)=Wh o a b:=by
 have hp:0<a.length:=J7.mpr hne;cases o with
 |firsts=>rfl
 |full=>
  have vN:=RH h;have hx:a[a.length-1]?=O (Ys a):=by unfold Ys;rw[Qj,Qf (by omega)];rfl
  have hy:b[a.length-1]?=O (Ys b):=by unfold Ys;rw[←h,Qj,Qf (by omega)];rfl
  have hm:=Nk hx hy
  show(0-Ys a-(0-Ys b))::KB a b=((KB a b).map λx=>-x).drop ((KB a b).length-1)++KB a b
  have hd:((KB a b).map λx=>-x).drop ((KB a b).length-1)=[-(Ys a-Ys b)]:=by
   rw[vN];have hl:a.length-1<((KB a b).map λx=>-x).length:=by rw[Qb,vN];omega
   rw[QQ hl,List.drop_of_length_le (by rw[Qb,vN];omega)];have e:((KB a b).map λx=>-x)[a.length-1]?=O (-(Ys a-Ys b)):=by rw[Qd,hm];rfl
   rw[Qf hl]at e;rw[Q5 e]
  rw[hd];show _ = -(Ys a-Ys b)::KB a b
  congr 1
  omega
 |lasts=>
  show KB (a.reverse.map λx=>0-x) (b.reverse.map λx=>0-x)=((KB a b).map λx=>-x).reverse;apply Jy;intro i;have vN:=RH h;by_cases hi:i<a.length
  .obtain⟨x,hx⟩:∃x,a[a.length-1-i]?=O x:=⟨_,Qf (by omega)⟩
   obtain⟨y,hy⟩:∃y,b[a.length-1-i]?=O y:=⟨_,Qf (by omega)⟩
   have e1:(a.reverse.map λx=>0-x)[i]?=O (0-x):=by rw[Qd,Uj hi,hx];rfl
   have e2:(b.reverse.map λx=>0-x)[i]?=O (0-y):=by rw[Qd,Uj (by omega),←h,hy];rfl
   rw[Nk e1 e2,Uj (by rw[Qb,vN];exact hi),Qb,vN,Qd,Nk hx hy];show O (0-x-(0-y))=O (-(x-y))
   congr 1
   omega
  .rw[QE (by rw[RH (by rw[Qb,Qb,Jc,Jc,h]),Qb,Jc];omega),QE (by rw[Jc,Qb,vN];omega)]
noncomputable def tf(L:Nat)(r:Int):Int:=if r=0 then 0 else(L:Int)+1-r
theorem Nj{L:Nat}:∀{xs ys:xm},(∀r∈xs,0<=r/\r<=L)->(∀r∈ys,0<=r/\r<=L)->decide (0<fnz (KB (xs.map (tf L)) (ys.map (tf L))))=btr (xs.zip ys)
 |[],ys,_,_=>by cases ys<;>rfl
 |_::_,[],_,_=>rfl
 |x::xs,y::ys,hx,hy=>by
  have bx:=hx x Qk;have by':=hy y Qk;rw[List.zip_cons_cons,btr];show decide (0<if tf L x-tf L y=0 then fnz (KB (xs.map (tf L)) (ys.map (tf L)))else tf L x-tf L y)=_;by_cases e:x=y
  .rw[Qo e,Qo (by rw[e];omega),Nj (λr h=>hx r (Qi _ h)) (λr h=>hy r (Qi _ h))]
  .have hne:tf L x-tf L y≠0:=by unfold tf;split<;>split<;>omega
   rw[Qv e,Qv hne];apply JN.2;rw[Q8,Bool.or_eq_true,Jh,Q8,Q8,Q8];unfold tf
   split<;>split<;>omega
section
variable{cs:xm}{ls:L3}{ws us:LO}{o:Ord}{old:xA}{ts:xm}
theorem Ry(g:Good cs ls)(dl:Deal cs ls ws)(ga:Yz cs.length ls.length old ts):ts.map (Zi ls ws)=(ts.map (rgA ls ws)).map (tf (lng ls)):=by
 rw[QW];apply JL;intro z hz;have h:=ga.there z hz;obtain⟨a,rfl⟩:∃a:Nat,z=a:=⟨z.toNat,by omega⟩
 have hal:a<ls.length:=by omega
 have xL:a<ws.length:=by have:=dl.len;omega
 have hls:ls[a]?=O ls[a]:=Qf hal;have we:ws[a]?=O ws[a]:=Qf xL;have hg:=L1 hls we;show Zi ls ws a=tf (lng ls) (rgA ls ws a);unfold Zi rgA;rw[QD,Qj,Qj,Qj,we,hls,hg]
 show(match ws[a]with|none=>(0:Int)|some t=>(lng ls:Int)+1-(KZ t ls[a]:Nat))=tf (lng ls) (rg ls[a] ws[a])
 have hp:=λt (e:ws[a]=O t)=>RE (dl.wish a t ls[a] (by rw[we,e]) hls)
 generalize ws[a]=w at hp;cases w with
 |none=>rfl
 |some t=>have:=hp t xf;show _=tf (lng ls) ((KZ t ls[a]:Nat):Int);unfold tf;rw[Qv (by omega)]
theorem Rt{z:Int}:0<=rgA ls ws z/\rgA ls ws z<=lng ls:=by
 unfold rgA;rw[Qj];cases h:(Kg ls ws)[z.toNat]? with
 |none=>exact⟨QY 0,by show(0:Int)<=_;omega⟩
 |some r=>exact VD r (Qr h)
theorem B3(g:Good cs ls)(d1:Deal cs ls ws)(d2:Deal cs ls us)(ga:Yz cs.length ls.length old ts) :
  HT.Z7 (YX o (KF (lng ls) (Kg ls us))++[(Zl old us:Int)]++ts.map (Zi ls us)) (YX o (KF (lng ls) (Kg ls ws))++[(Zl old ws:Int)]++ts.map (Zi ls ws)) =
   X8 o (KF (lng ls) (Kg ls ws)) (KF (lng ls) (Kg ls us)) (Zl old ws) (Zl old us) (ts.map (rgA ls ws)) (ts.map (rgA ls us)):=by
 have hl:(KF (lng ls) (Kg ls ws)).length=(KF (lng ls) (Kg ls us)).length:=by rw[WG,WG]
 have hne:KF (lng ls) (Kg ls ws)≠[]:=λe=>by have:=WG (lng ls) (Kg ls ws);rw[e]at this;cases this
 have wl:=B4 (o:=o) hl;rw[Mw (by simp only[Qm,Qb,wl];rfl),Py (by rw[Qm,Qm,wl];rfl),Py wl,HW hl hne,Op,Op,Ry g d1 ga,Ry g d2 ga];have ht:=Nj (L:=lng ls) (xs:=ts.map (rgA ls ws)) (ys:=ts.map (rgA ls us)) (λr h=>by obtain⟨z,_,rfl⟩:=Qp.mp h;exact Rt) (λr h=>by obtain⟨z,_,rfl⟩:=Qp.mp h;exact Rt);unfold X8;rw[←ht]
 have hk:fnz (KB [(Zl old ws:Int)] [(Zl old us:Int)])=(Zl old ws:Int)-Zl old us:=by
  show(if(Zl old ws:Int)-Zl old us=0 then(0:Int)else(Zl old ws:Int)-Zl old us)=_
  split<;>omega
 rw[hk];by_cases h1:fnz (Wh o (KF (lng ls) (Kg ls ws)) (KF (lng ls) (Kg ls us)))=0
 .rw[Qo h1,Qo h1]
  by_cases h2:(Zl old ws:Int)=Zl old us
  .rw[Qo h2,Qo (by omega)]
  .rw[Qv h2,Qv (by omega)]
   exact JN.2 (by rw[Q8,Q8];omega)
 .rw[Qv h1,Qv h1,Qv h1]
end
noncomputable def val(B:Int):xm->Int
 |[]=>0
 |d::r=>d*B ^ r.length+val B r
theorem O5{B:Int}(h:0<B)(n:Nat):0<B ^ n:=Int.pow_pos h
theorem Ni{B:Int}(hB:0<B):∀{l:xm},(∀d∈l, -(B-1)<=d/\d<=B-1) -> -(B ^ l.length-1)<=val B l/\val B l<=B ^ l.length-1
 |[],_=>by simp[val]
 |d::r,h=>by
  have h1:=h d Qk;have h2:=Ni hB (l:=r) λx hx=>h x (Qi _ hx);have hp:=O5 hB r.length;rw[val,QC,Int.pow_succ];generalize B ^ r.length=P at h2 hp;generalize val B r=v at h2;have u1:d*P<=(B-1)*P:=Jt h1.2 (by omega)
  have u2 : -(B-1)*P<=d*P:=Jt h1.1 (by omega);have e1:(B-1)*P=P*B-P:=by rw[Int.sub_mul,Int.one_mul,Int.mul_comm]
  have e2 : -(B-1)*P = -(P*B-P):=by rw[Int.neg_mul,e1]
  omega
theorem Nh{X Y P:Int}(hP:0<P)(hY : -(P-1)<=Y/\Y<=P-1):(0<X*P+Y ↔ 0<X∨X=0/\0<Y)/\(X*P+Y=0 ↔ X=0/\Y=0):=by
 rcases Int.lt_trichotomy X 0 with h|h|h
 .have:X*P <= -1*P:=Jt (by omega) (by omega)
  constructor<;>constructor<;>intro h'<;>omega
 .subst h
  rw[Int.zero_mul]
  constructor<;>constructor<;>intro h'<;>omega
 .have:1*P<=X*P:=Jt (by omega) (by omega)
  constructor<;>constructor<;>intro h'<;>omega
theorem Oo{B:Int}(hB:0<B):∀{l:xm},(∀d∈l, -(B-1)<=d/\d<=B-1)->(0<val B l ↔ 0<fnz l)/\(val B l=0 ↔ fnz l=0)
 |[],_=>by simp[val,fnz]
 |d::r,h=>by
  have hr:=λx hx=>h x (Qi d hx);have ih:=Oo hB (l:=r) hr;have tp:=Nh (X:=d) (O5 hB r.length) (Ni hB hr)
  show(0<d*B ^ r.length+val B r ↔ 0<if d=0 then fnz r else d)/\(d*B ^ r.length+val B r=0 ↔ (if d=0 then fnz r else d)=0)
  by_cases hd:d=0
  .rw[Qo hd]
   constructor
   .rw[tp.1,ih.1];omega
   .rw[tp.2,ih.2];omega
  .rw[Qv hd]
   constructor
   .rw[tp.1];omega
   .rw[tp.2];omega
theorem O4{B:Int}:∀{xs ys:xm},xs.length=ys.length->val B (KB xs ys)=val B xs-val B ys
 |[],[],_=>rfl
 |x::xs,y::ys,h=>by
  have hl:xs.length=ys.length:=by simpa using h
  show(x-y)*B ^ (KB xs ys).length+val B (KB xs ys)=_
  rw[O4 hl,RH hl,val,val,←hl,Int.sub_mul];omega
theorem E6{B:Int}(l:xm):val B (l.map λx=>-x) = -val B l:=by
 induction l with
 |nil=>rfl
 |cons d r ih=>rw[Qu,val,val,ih,Qb,Int.neg_mul];omega
theorem Hw{B:Int}:∀{xs:xm}{p:Nat},p<xs.length->val B (XM xs p 1)=val B xs+B ^ (xs.length-1-p)
 |x::xs,0,_=>by
  show(x+1)*B ^ xs.length+val B xs=x*B ^ xs.length+val B xs+B ^ xs.length
  rw[Int.add_mul,Int.one_mul];omega
 |x::xs,p+1,h=>by
  have hp:p<xs.length:=by simpa using h
  have ih:=Hw (B:=B) hp;have e:XM (x::xs) (p+1) 1=x::XM xs p 1:=by unfold XM;rw[List.set_cons_succ];rfl
  rw[e,val,val,ih,Nm];have e2:(x::xs).length-1-(p+1)=xs.length-1-p:=by rw[QC];omega
  rw[e2];omega
theorem An{n p:Nat}{qs:xx}:XM (Ks n qs) p 1=Ks n (p::qs):=by
 apply Jy;intro k;by_cases hk:k<n
 .rw[Gc (V4 hk),V4 hk,JB]
  congr 1
  by_cases e:k=p
  .rw[if_pos e,e,if_pos (by simp)];omega
  .have:¬(p==k)=xi:=by rw[beq_iff_eq];exact λz=>e z.symm
   rw[Qv e,Qv this];omega
 .rw[QE (by rw[Nm,YN];omega),QE (by rw[YN];omega)]
theorem Am{B:Int}(n:Nat):val B (UL n 0)=0:=by
 induction n with
 |zero=>rfl
 |succ n ih=>rw[Q0,val,ih,Int.zero_mul];rfl
theorem O3{B:Int}{n:Nat}:∀{qs:xx},(∀p∈qs,p<n)->val B (Ks n qs)=(qs.map λp=>B ^ (n-1-p)).sum
 |[],_=>by rw[LV,Am];rfl
 |p::qs,h=>by have hp:=h p Qk;rw[←An,Hw (by rw[YN];exact hp),O3 (λq hq=>h q (Qi _ hq)),YN,Qu,Jd];omega
theorem E5{B:Int}{n:Nat}:∀{qs:xx},(∀p∈qs,p<n)->val B (Ks n qs).reverse=(qs.map λp=>B ^ p).sum:=λ{qs} h=>by
 have e:(Ks n qs).reverse=Ks n (qs.map λp=>n-1-p):=by
  apply Jy;intro k;by_cases hk:k<n
  .rw[Uj (by rw[YN];exact hk),YN,V4 (by omega),V4 hk]
   congr 2
   rw[List.count,List.count,List.countP_map];apply List.countP_congr;intro p hp;have:=h p hp;simp only[Function.comp,beq_iff_eq];omega
  .rw[QE (by rw[Jc,YN];omega),QE (by rw[YN];omega)]
 rw[e,O3 (λp hp=>by obtain⟨q,hq,rfl⟩:=Qp.mp hp;have:=h q hq;omega),QW]
 congr 1
 apply JL;intro p hp;have:=h p hp;show B ^ (n-1-(n-1-p))=B ^ p
 congr 1
 omega
noncomputable def Zf(o:Ord)(L:Nat)(qs:xx):xm:=match o with
 |.firsts=>Ks L qs
 |.full=>(qs.length:Int)::Ks L qs
 |.lasts=>(qs.length:Int)::(Ks L qs).reverse.map λx=>-x
theorem Mv{α:Type}(f g:α->Int)(l:List α):(l.map λx=>f x+g x).sum=(l.map f).sum+(l.map g).sum:=by
 induction l with
 |nil=>rfl
 |cons a r ih=>rw[Qu,Jd,ih,Qu,Jd,Qu,Jd];omega
theorem E4{α:Type}(f g:α->Int)(l:List α):(l.map λx=>f x-g x).sum=(l.map f).sum-(l.map g).sum:=by
 induction l with
 |nil=>rfl
 |cons a r ih=>rw[Qu,Jd,ih,Qu,Jd,Qu,Jd];omega
theorem Ng{α:Type}(c:Int)(l:List α):(l.map λ_=>c).sum=(l.length:Int)*c:=by
 induction l with
 |nil=>simp
 |cons a r ih=>rw[Qu,Jd,ih,QC,Int.natCast_add,Int.add_mul];omega
theorem E3(o:Ord){B:Int}{L:Nat}{sr:xm}(h:∀r∈sr,1<=r/\r<=L):(sr.map (ZM o B L)).sum=val B (Zf o L (sr.map λr=>(r-1).toNat)):=by
 have hq:∀p∈sr.map (λr=>(r-1).toNat),p<L:=λp hp=>by obtain⟨r,hr,rfl⟩:=Qp.mp hp;have:=h r hr;omega
 have e1:(sr.map λr=>B ^ ((L:Int)-r).toNat).sum=val B (Ks L (sr.map λr=>(r-1).toNat)):=by
  rw[O3 hq,QW]
  congr 1
  apply JL;intro r hr;have:=h r hr;show B ^ _=B ^ (L-1-(r-1).toNat)
  congr 1
  omega
 have e2:(sr.map λr=>B ^ (r-1).toNat).sum=val B (Ks L (sr.map λr=>(r-1).toNat)).reverse:=by rw[E5 hq,QW];rfl
 have e3:(sr.map λ_=>B ^ (L:Int).toNat).sum=((sr.map λr=>(r-1).toNat).length:Int)*B ^ L:=by rw[Ng,Qb,QD]
 cases o with
 |firsts=>exact e1
 |full=>
  show(sr.map λr=>B ^ (L:Int).toNat+B ^ ((L:Int)-r).toNat).sum=((sr.map λr=>(r-1).toNat).length:Int)*B ^ (Ks L (sr.map λr=>(r-1).toNat)).length+val B (Ks L (sr.map λr=>(r-1).toNat))
  rw[Mv,e1,e3,YN]
 |lasts=>
  show(sr.map λr=>B ^ (L:Int).toNat-B ^ (r-1).toNat).sum=((sr.map λr=>(r-1).toNat).length:Int)*B ^ ((Ks L (sr.map λr=>(r-1).toNat)).reverse.map λx=>-x).length+val B ((Ks L (sr.map λr=>(r-1).toNat)).reverse.map λx=>-x)
  rw[E4,e2,e3,E6,Qb,Qb,Jc,YN];omega
noncomputable def srv(got:xm):xm:=got.filter λr=>decide (r≠0)
noncomputable def plQ(got:xm):xx:=(srv got).map λr=>(r-1).toNat
theorem Gi{L:Nat}{got:xm}(h:okR L got):KF L got=Ks L (plQ got)++[(got.length:Int)-(plQ got).length]:=by
 unfold KF
 congr 1
 .unfold Ks
  apply JL;intro p _
  congr 1
  unfold plQ srv;rw[List.count,List.count,List.countP_map,List.countP_filter];apply List.countP_congr;intro r hr;have:=h r hr;simp only[Function.comp,beq_iff_eq,Jh,Q8];omega
 .congr 1
  unfold plQ srv;rw[Qb,List.count]
  have e:got.length=got.countP (λr=>decide (r≠0))+got.countP (λr=>r==0):=by
   rw[List.length_eq_countP_add_countP (p:=λr=>decide (r≠0))]
   congr 1
   apply List.countP_congr;intro r _;simp
  rw[List.countP_eq_length_filter]at e;omega
theorem GD:∀{a b:xm},a.length=b.length->fnz (KB a b)=0->a=b
 |[],[],_,_=>rfl
 |x::a,y::b,h,e=>by
  have e:(if x-y=0 then fnz (KB a b)else x-y)=0:=e;by_cases hxy:x-y=0
  .rw[Qo hxy]at e
   rw[GD (by simpa using h) e,show x=y by omega]
  .rw[Qv hxy]at e;exact absurd e hxy
theorem LU{n:Nat}{qs:xx}(h:∀p∈qs,p<n):(Ks n qs).sum=qs.length:=Gm qs n h
theorem Mf{L:Nat}{got:xm}(h:okR L got):∀p∈plQ got,p<L:=λp hp=>by
 obtain⟨r,hr,rfl⟩:=Qp.mp hp;obtain⟨hr,h0⟩:=Uw.mp hr;have:=h r hr;have:r≠0:=by simpa using h0
 omega
theorem B2{o:Ord}{L:Nat}{g1 g2:xm}(h1:okR L g1)(h2:okR L g2)(hl:g1.length=g2.length):fnz (Wh o (KF L g1) (KF L g2))=fnz (KB (Zf o L (plQ g1)) (Zf o L (plQ g2))):=by
 have hcl:(KF L g1).length=(KF L g2).length:=by rw[WG,WG]
 have hne:KF L g1≠[]:=λe=>by have:=WG L g1;rw[e]at this;cases this
 rw[←HW hcl hne,Gi h1,Gi h2];have l1:=YN L (plQ g1);have l2:=YN L (plQ g2);have s1:=LU (Mf h1);have s2:=LU (Mf h2);generalize hc1:Ks L (plQ g1)=C1 at *;generalize hc2:Ks L (plQ g2)=C2 at *;have hC:C1.length=C2.length:=by rw[l1,l2]
 have last:∀(C:xm)(z:Int),Ys (C++[z])=z:=λC z=>by
  unfold Ys;rw[Qm,Qj,Qt (by show C.length<=C.length+1-1;omega)]
  show([z][C.length+1-1-C.length]?).getD 0=z
  rw[show C.length+1-1-C.length=0 by omega];rfl
 have tail:fnz (KB C1 C2++KB [(g1.length:Int)-(plQ g1).length] [(g2.length:Int)-(plQ g2).length])=fnz (KB C1 C2):=by
  rw[Op];by_cases e:fnz (KB C1 C2)=0
  .have:=GD hC e
   rw[Qo e,e]
   show(if(g1.length:Int)-(plQ g1).length-((g2.length:Int)-(plQ g2).length)=0 then(0:Int)else _)=0
   rw[Qo (by rw[this]at s1;omega)]
  .rw[Qv e]
 cases o with
 |firsts=>show fnz (KB (C1++_) (C2++_))=fnz (KB (Ks L (plQ g1)) (Ks L (plQ g2)));rw[hc1,hc2,Py hC,tail]
 |full=>
  show fnz (KB ((0-Ys (C1++_))::(C1++_)) ((0-Ys (C2++_))::(C2++_)))=fnz (KB (((plQ g1).length:Int)::Ks L (plQ g1)) (((plQ g2).length:Int)::Ks L (plQ g2)));rw[hc1,hc2,last,last]
  show(if(0-((g1.length:Int)-(plQ g1).length))-(0-((g2.length:Int)-(plQ g2).length))=0 then fnz (KB (C1++_) (C2++_))else _)=(if((plQ g1).length:Int)-(plQ g2).length=0 then fnz (KB C1 C2)else _)
  rw[Py hC,tail];have e:(0-((g1.length:Int)-(plQ g1).length))-(0-((g2.length:Int)-(plQ g2).length))=((plQ g1).length:Int)-(plQ g2).length:=by omega
  rw[e]
  congr 1
 |lasts=>
  show fnz (KB ((C1++[_]).reverse.map λx=>0-x) ((C2++[_]).reverse.map λx=>0-x))=fnz (KB (((plQ g1).length:Int)::(Ks L (plQ g1)).reverse.map λx=>-x) (((plQ g2).length:Int)::(Ks L (plQ g2)).reverse.map λx=>-x));rw[hc1,hc2,List.reverse_append,List.reverse_append];have e0:(λx:Int=>0-x)=λx=>-x:=by funext x;omega
  rw[e0]
  show(if -((g1.length:Int)-(plQ g1).length) - -((g2.length:Int)-(plQ g2).length)=0 then fnz (KB (C1.reverse.map λx=>-x) (C2.reverse.map λx=>-x))else _)=(if((plQ g1).length:Int)-(plQ g2).length=0 then fnz (KB (C1.reverse.map λx=>-x) (C2.reverse.map λx=>-x))else _)
  have e : -((g1.length:Int)-(plQ g1).length) - -((g2.length:Int)-(plQ g2).length)=((plQ g1).length:Int)-(plQ g2).length:=by omega
  rw[e]
  congr 1
theorem O2{W W1 W2:Nat->List xm->Int->Int}{c:Int}(h:∀i rs t,W i rs t=W1 i rs t*c+W2 i rs t):∀(ls:L3)(ws:LO)(k:Nat),KU (KM W k ls ws)=KU (KM W1 k ls ws)*c+KU (KM W2 k ls ws)
 |[],_,_=>by simp[KM,KU]
 |_::_,[],_=>by simp[KM,KU]
 |rs::ls,o::ws,k=>by
  rw[KM,KM,KM,Tb,Tb,Tb,O2 h ls ws (k+1),Int.add_mul];cases o with
  |none=>show(0:Int)+_=0*c+_+(0+_);rw[Int.zero_mul];omega
  |some t=>show W k rs t+_=W1 k rs t*c+_+(W2 k rs t+_);rw[h];omega
theorem LS{f:Int->Int}:∀(ls:L3)(ws:LO)(k:Nat),(∀(i:Nat) t rs,ws[i]?=O (O t)->ls[i]?=O rs->KZ t rs≠0)->KU (KM (λ_ rs t=>f (KZ t rs:Nat)) k ls ws)=((srv (Kg ls ws)).map f).sum
 |[],_,_,_=>by simp[KM,KU,Kg,srv]
 |_::_,[],_,_=>by simp[KM,KU,Kg,srv]
 |rs::ls,o::ws,k,h=>by
  have ih:=LS (f:=f) ls ws (k+1) λi t r h1 h2=>h (i+1) t r (by simpa using h1) (by simpa using h2)
  have e:Kg (rs::ls) (o::ws)=rg rs o::Kg ls ws:=rfl;rw[KM,Tb,ih,e];cases o with
  |none=>
   have:srv (rg rs none::Kg ls ws)=srv (Kg ls ws):=rfl;rw[this]
   show(0:Int)+_=_
   omega
  |some t=>
   have h0:=h 0 t rs xf xf;have:srv (rg rs (O t)::Kg ls ws)=((KZ t rs:Nat):Int)::srv (Kg ls ws):=by unfold srv;rw[List.filter_cons_of_pos (by show decide (((KZ t rs:Nat):Int)≠0)=xi;simpa using h0)];rfl
   rw[this,Qu,Jd];rfl
theorem Nt{W:Nat->List xm->Int->Int}{h:Nat->Int}:∀(ls:L3)(ws:LO)(k:Nat),ws.length=ls.length->(∀(i:Nat) rs o,ls[i]?=O rs->ws[i]?=O o->(o.map (W (k+i) rs)).getD 0=h (k+i))->KU (KM W k ls ws)=((UK ls.length).map λi=>h (k+i)).sum
 |[],[],_,_,_=>by simp[KM,KU]
 |rs::ls,o::ws,k,hl,hh=>by
  have ih:=Nt (h:=h) ls ws (k+1) (by simpa using hl) λi rs' o' h1 h2=>by have:=hh (i+1) rs' o' (by simpa using h1) (by simpa using h2);rw[show k+1+i=k+(i+1)by omega];exact this
  have h0:=hh 0 rs o xf xf;rw[KM,Tb,ih,QC,List.range_succ_eq_map,Qu,Jd,QW];rw[Ur]at h0;rw[Ur,h0]
  congr 2
  apply JL;intro i _;show h (k+1+i)=h (k+(i+1));rw[show k+1+i=k+(i+1)by omega]
theorem Mu{c:Int}{a:Nat}:∀n:Nat,((UK n).map λi=>if i=a then c else 0).sum=if a<n then c else 0
 |0=>by simp
 |n+1=>by
  rw[J4,Qy,JV,Mu n];show _+((if n=a then c else 0)+0)=_;by_cases h:a<n
  .rw[Qo h,Qv (by omega),Qo (by omega)];omega
  .by_cases h2:n=a
   .rw[Qv h,Qo h2,Qo (by omega)];omega
   .rw[Qv h,Qv h2,Qv (by omega)];omega
theorem LR{b:Int}{g:Int->Int}{n:Nat}:∀{ts:xm},ts.Nodup->(∀a∈ts,0<=a/\a<n)->((UK n).map λi:Nat=>if(i:Int)∈ts then g i*b ^ (ts.length-1-ts.idxOf (i:Int))else 0).sum=val b (ts.map g)
 |[],_,_=>by
  have:(λi:Nat=>if(i:Int)∈([]:xm)then g i*b ^ (([]:xm).length-1-([]:xm).idxOf (i:Int))else 0)=λ_=>(0:Int):=by funext i;rw[if_neg (by simp)]
  rw[this,Ng];simp[val]
 |a::r,hn,hb=>by
  obtain⟨ha,hr⟩:=Ux.mp hn;have h0:=hb a Qk;have ih:=LR (b:=b) (g:=g) (n:=n) hr λx hx=>hb x (Qi _ hx)
  have e:(λi:Nat=>if(i:Int)∈a::r then g i*b ^ ((a::r).length-1-(a::r).idxOf (i:Int))else 0) =
    λi:Nat=>(if i=a.toNat then g a*b ^ r.length else 0)+(if(i:Int)∈r then g i*b ^ (r.length-1-r.idxOf (i:Int))else 0):=by
   funext i;by_cases h:(i:Int)=a
   .have hi:i=a.toNat:=by omega
    rw[Qo (by rw[h];exact Qk),Qo hi,Qv (by rw[h];exact ha),h,List.idxOf_cons_self,QC];simp
   .have hi:¬i=a.toNat:=by omega
    rw[Qv hi,Uq];by_cases h2:(i:Int)∈r
    .have hb:(a==(i:Int))=xj:=by simpa using Ne.symm h
     rw[Qo (Qi _ h2),Qo h2,List.idxOf_cons,hb,QC];show g i*b ^ (r.length+1-1-(r.idxOf (i:Int)+1))=_
     congr 2
     omega
    .rw[if_neg h2,if_neg (by simp[h,h2])]
  rw[e,Mv,Mu,Qo (by omega),ih,Qu,val,Qb]
section
variable{cs:xm}{ls:L3}{ws us:LO}{o:Ord}{old:xA}{ts:xm}
theorem Al(hl:ws.length=ls.length)(ga:Yz cs.length ls.length old ts):KU (KM (λi rs t=>Vx ts (lng ls+1) i (KZ t rs:Nat)) 0 ls ws)=val ((lng ls:Int)+1) (ts.map (Zi ls ws)):=by
 rw[Nt (h:=λi:Nat=>if(i:Int)∈ts then Zi ls ws i*((lng ls:Int)+1) ^ (ts.length-1-ts.idxOf (i:Int))else 0) ls ws 0 hl,←LR ga.once ga.there]
 .congr 2
  funext i;rw[Q6]
 .intro i rs o' h1 h2
  rw[Q6];have e:Zi ls ws (i:Int)=(o'.map λt=>(lng ls:Int)+1-(KZ t rs:Nat)).getD 0:=by unfold Zi;rw[QD,Qj,Qj,h1,h2];cases o'<;>rfl
  rw[e];cases o' with
  |none=>
   show(0:Int)=if(i:Int)∈ts then 0*_ else 0
   split
   .rw[Int.zero_mul]
   .rfl
  |some t=>rfl
theorem Hv{os:LO}:∀(ls:L3)(ws:LO)(k:Nat),ws.length=ls.length->KU (KM (λi _ t=>if os[i]?=O (O t)then 1 else 0) k ls ws)=((((os.drop k).zip ws).filter λp=>decide (p.1=p.2)&&p.2.isSome).length:Nat)
 |[],[],k,_=>by simp[KM,KU]
 |rs::ls,o::ws,k,hl=>by
  have ih:=Hv (os:=os) ls ws (k+1) (by simpa using hl);rw[KM,Tb,ih];by_cases hk:k<os.length
  .rw[QQ hk,List.zip_cons_cons,Qf hk]
   cases o with
   |none=>rw[List.filter_cons_of_neg (by simp)];show(0:Int)+_=_;omega
   |some t=>
    show(if O os[k]=O (O t)then(1:Int)else 0)+_=_
    by_cases e:os[k]=O t
    .rw[if_pos (by rw[e]),List.filter_cons_of_pos (by simp[e]),List.length_cons];omega
    .rw[if_neg (by simpa using e),List.filter_cons_of_neg (by simp[e])];omega
  .rw[Ue (by omega),Ue (by omega),List.zip_nil_left,List.zip_nil_left,QE (by omega)]
   cases o with
   |none=>rfl
   |some t=>rfl
theorem CT(hl:ws.length=ls.length):KU (KM (λi _ t=>Xp old i t) 0 ls ws)=(Zl old ws:Int):=by
 cases old with
 |none=>
  rw[Nt (h:=λ_=>0) ls ws 0 hl,Ng]
  .simp[Zl]
  .intro i rs o' _ _
   cases o'<;>rfl
 |some os=>exact Hv ls ws 0 hl
theorem Hu(dl:Deal cs ls ws)(ga:Yz cs.length ls.length old ts):KU (KM (Zr ls o old ts) 0 ls ws) =
  (val ((ls.length:Int)+1) (Zf o (lng ls) (plQ (Kg ls ws)))*((ls.length:Int)+1)+Zl old ws)*((lng ls:Int)+1) ^ ts.length+val ((lng ls:Int)+1) (ts.map (Zi ls ws)):=by
 rw[O2 (W:=Zr ls o old ts) (W1:=λi rs t=>ZM o (ls.length+1) (lng ls) (KZ t rs:Nat)*((ls.length:Int)+1)+Xp old i t) (W2:=λi rs t=>Vx ts (lng ls+1) i (KZ t rs:Nat)) (c:=((lng ls:Int)+1) ^ ts.length) (λ_ _ _=>rfl) ls ws 0,
  O2 (W1:=λi rs t=>ZM o (ls.length+1) (lng ls) (KZ t rs:Nat)) (W2:=λi _ t=>Xp old i t) (c:=(ls.length:Int)+1) (λ_ _ _=>rfl) ls ws 0,Al dl.len ga,CT dl.len,
  LS (f:=λr=>ZM o (ls.length+1) (lng ls) r) ls ws 0 (λi t rs h1 h2=>RE (dl.wish i t rs h1 h2)),E3 o]
 .rfl
 .intro r hr
  obtain⟨hr,h0⟩:=Uw.mp hr;have:=VD (ls:=ls) (ws:=ws) r hr;have:r≠0:=by simpa using h0
  omega
end
theorem OP{lo n:Int}{a b:xm}(ha:∀x∈a,lo<=x/\x<=lo+n)(hb:∀x∈b,lo<=x/\x<=lo+n):∀d∈KB a b, -n<=d/\d<=n:=λd hd=>by unfold KB at hd;obtain⟨p,hp,rfl⟩:=Qp.mp hd;obtain⟨h1,h2⟩:=List.of_mem_zip (a:=p.1) (b:=p.2) hp;have:=ha _ h1;have:=hb _ h2;omega
theorem Pd{n:Nat}{qs:xx}{m:Int}(h:(qs.length:Int)<=m):∀x∈Ks n qs,0<=x/\x<=0+m:=λx hx=>by unfold Ks at hx;obtain⟨p,_,rfl⟩:=Qp.mp hx;have:=List.count_le_length (a:=p) (l:=qs);omega
theorem CS(o:Ord)(L:Nat)(p q:xx):(Zf o L p).length=(Zf o L q).length:=by cases o<;>simp[Zf,YN]
theorem E2(o:Ord){L:Nat}{p q:xx}{m:Int}(hp:(p.length:Int)<=m)(hq:(q.length:Int)<=m):∀d∈KB (Zf o L p) (Zf o L q), -m<=d/\d<=m:=by
 have hc:=OP (Pd (n:=L) hp) (Pd (n:=L) hq);cases o with
 |firsts=>exact hc
 |full=>
  intro d hd;rcases QL.mp (show d∈((p.length:Int)-q.length)::KB (Ks L p) (Ks L q)from hd)with rfl|h
  .omega
  .exact hc d h
 |lasts=>
  intro d hd;rcases QL.mp (show d∈((p.length:Int)-q.length)::KB ((Ks L p).reverse.map λx=>-x) ((Ks L q).reverse.map λx=>-x)from hd)with rfl|h
  .omega
  .refine OP (lo:=-m) (n:=m) (λx hx=>?_) (λx hx=>?_) d h
   .obtain⟨y,hy,rfl⟩:=Qp.mp hx
    have:=Pd (n:=L) hp y (List.mem_reverse.mp hy);omega
   .obtain⟨y,hy,rfl⟩:=Qp.mp hx
    have:=Pd (n:=L) hq y (List.mem_reverse.mp hy);omega
theorem jx{a a' k k' t t' B P:Int}:((a*B+k)*P+t)-((a'*B+k')*P+t')=((a-a')*B+(k-k'))*P+(t-t'):=by
 have e:(a-a')*B+(k-k')=(a*B+k)-(a'*B+k'):=by rw[Int.sub_mul];omega
 rw[e,Int.sub_mul (a*B+k)];omega
section
variable{cs:xm}{ls:L3}{ws us:LO}{o:Ord}{old:xA}{ts:xm}
theorem Mt:((plQ (Kg ls ws)).length:Int)<=ls.length:=by
 have h1:(plQ (Kg ls ws)).length<=(Kg ls ws).length:=by unfold plQ srv;rw[Qb];exact List.length_filter_le _ _
 have h2:(Kg ls ws).length<=ls.length:=by unfold Kg;rw[Us];omega
 omega
theorem Ht(hl:ws.length=ls.length):(Zl old ws:Int)<=ls.length:=by
 cases old with
 |none=>show((0:Nat):Int)<=_;omega
 |some os=>
  have h:=List.length_filter_le (λp:xq×xq=>decide (p.1=p.2)&&p.2.isSome) (os.zip ws);rw[JT]at h
  show((((os.zip ws).filter λp=>decide (p.1=p.2)&&p.2.isSome).length:Nat):Int)<=_
  omega
theorem LQ(g:Good cs ls)(dl:Deal cs ls ws)(ga:Yz cs.length ls.length old ts):∀x∈ts.map (Zi ls ws),0<=x/\x<=0+(lng ls:Int):=λx hx=>by
 rw[Ry g dl ga]at hx;obtain⟨y,hy,rfl⟩:=Qp.mp hx;obtain⟨z,_,rfl⟩:=Qp.mp hy;have:=Rt (ls:=ls) (ws:=ws) (z:=z);unfold tf
 split<;>omega
theorem jw(g:Good cs ls)(d1:Deal cs ls ws)(d2:Deal cs ls us)(ga:Yz cs.length ls.length old ts){w1 w2:Int}(e1:w1=KU (KM (Zr ls o old ts) 0 ls ws))(e2:w2=KU (KM (Zr ls o old ts) 0 ls us)) :
  (w2<w1 ↔ 0<fnz (Wh o (KF (lng ls) (Kg ls ws)) (KF (lng ls) (Kg ls us)))∨fnz (Wh o (KF (lng ls) (Kg ls ws)) (KF (lng ls) (Kg ls us)))=0/\((Zl old us:Int)<Zl old ws∨(Zl old ws:Int)=Zl old us/\0<fnz (KB (ts.map (Zi ls ws)) (ts.map (Zi ls us))))) /\
  (w1=w2 ↔ fnz (Wh o (KF (lng ls) (Kg ls ws)) (KF (lng ls) (Kg ls us)))=0/\(Zl old ws:Int)=Zl old us/\fnz (KB (ts.map (Zi ls ws)) (ts.map (Zi ls us)))=0):=by
 have hgl:(Kg ls ws).length=(Kg ls us).length:=by rw[Pt d1.len,Pt d2.len]
 rw[B2 (VD (ls:=ls) (ws:=ws)) (VD (ls:=ls) (ws:=us)) hgl];have hB:(0:Int)<(ls.length:Int)+1:=by omega
 have hM:(0:Int)<(lng ls:Int)+1:=by omega
 have bd1:=E2 o (L:=lng ls) (Mt (ls:=ls) (ws:=ws)) (Mt (ls:=ls) (ws:=us));have bd2:=OP (LQ g d1 ga) (LQ g d2 ga);have k1:=Ht (old:=old) d1.len;have k2:=Ht (old:=old) d2.len;have hl1:=CS o (lng ls) (plQ (Kg ls ws)) (plQ (Kg ls us));have hl2:(ts.map (Zi ls ws)).length=(ts.map (Zi ls us)).length:=by rw[Qb,Qb]
 have v1:=O4 (B:=(ls.length:Int)+1) hl1;have v2:=O4 (B:=(lng ls:Int)+1) hl2;have ml:(KB (ts.map (Zi ls ws)) (ts.map (Zi ls us))).length=ts.length:=by rw[RH hl2,Qb]
 have f1:=Oo hB (l:=KB (Zf o (lng ls) (plQ (Kg ls ws))) (Zf o (lng ls) (plQ (Kg ls us)))) (λd hd=>by have:=bd1 d hd;omega);have f2:=Oo hM (l:=KB (ts.map (Zi ls ws)) (ts.map (Zi ls us))) (λd hd=>by have:=bd2 d hd;omega);have sm:=Ni hM (l:=KB (ts.map (Zi ls ws)) (ts.map (Zi ls us))) (λd hd=>by have:=bd2 d hd;omega);rw[ml]at sm;have vm:=Nh (X:=val ((ls.length:Int)+1) (KB (Zf o (lng ls) (plQ (Kg ls ws))) (Zf o (lng ls) (plQ (Kg ls us))))) (Y:=(Zl old ws:Int)-Zl old us) hB (by omega);have vJ:=Nh (X:=val ((ls.length:Int)+1) (KB (Zf o (lng ls) (plQ (Kg ls ws))) (Zf o (lng ls) (plQ (Kg ls us))))*((ls.length:Int)+1)+((Zl old ws:Int)-Zl old us)) (O5 hM ts.length) sm;have df:w1-w2=(val ((ls.length:Int)+1) (KB (Zf o (lng ls) (plQ (Kg ls ws))) (Zf o (lng ls) (plQ (Kg ls us))))*((ls.length:Int)+1)+((Zl old ws:Int)-Zl old us))*((lng ls:Int)+1) ^ ts.length+val ((lng ls:Int)+1) (KB (ts.map (Zi ls ws)) (ts.map (Zi ls us))):=by rw[e1,e2,Hu d1 ga,Hu d2 ga,v1,v2];exact jx
 rw[←df]at vJ;generalize val ((ls.length:Int)+1) (KB (Zf o (lng ls) (plQ (Kg ls ws))) (Zf o (lng ls) (plQ (Kg ls us))))*((ls.length:Int)+1)+((Zl old ws:Int)-Zl old us)=X at vm vJ;generalize val ((ls.length:Int)+1) (KB (Zf o (lng ls) (plQ (Kg ls ws))) (Zf o (lng ls) (plQ (Kg ls us))))=V at vm f1;generalize val ((lng ls:Int)+1) (KB (ts.map (Zi ls ws)) (ts.map (Zi ls us)))=Y at vJ f2;generalize fnz (KB (Zf o (lng ls) (plQ (Kg ls ws))) (Zf o (lng ls) (plQ (Kg ls us))))=A at f1⊢;generalize fnz (KB (ts.map (Zi ls ws)) (ts.map (Zi ls us)))=C at f2⊢;constructor
 .constructor
  .intro h
   rcases vJ.1.mp (by omega)with h1|⟨h1,h2⟩
   .rcases vm.1.mp h1 with h3|⟨h3,h4⟩
    .exact .inl (f1.1.mp h3)
    .exact .inr ⟨f1.2.mp h3,.inl (by omega)⟩
   .obtain⟨h3,h4⟩:=vm.2.mp h1
    exact .inr ⟨f1.2.mp h3,.inr ⟨by omega,f2.1.mp h2⟩⟩
  .intro h
   have:0<w1-w2:=vJ.1.mpr (by
    rcases h with h|⟨h,h2|⟨h2,h3⟩⟩
    .exact .inl (vm.1.mpr (.inl (f1.1.mpr h)))
    .exact .inl (vm.1.mpr (.inr ⟨f1.2.mpr h,by omega⟩))
    .exact .inr ⟨vm.2.mpr ⟨f1.2.mpr h,by omega⟩,f2.1.mpr h3⟩)
   omega
 .constructor
  .intro h
   obtain⟨h1,h2⟩:=vJ.2.mp (by omega);obtain⟨h3,h4⟩:=vm.2.mp h1;exact⟨f1.2.mp h3,by omega,f2.2.mp h2⟩
  .rintro⟨h1,h2,h3⟩
   have:=vJ.2.mpr ⟨vm.2.mpr ⟨f1.2.mpr h1,by omega⟩,f2.2.mpr h3⟩;omega
theorem Hs(g:Good cs ls)(d1:Deal cs ls ws)(d2:Deal cs ls us)(ga:Yz cs.length ls.length old ts) :
  X8 o (KF (lng ls) (Kg ls ws)) (KF (lng ls) (Kg ls us)) (Zl old ws) (Zl old us) (ts.map (rgA ls ws)) (ts.map (rgA ls us))=decide (KU (KM (Zr ls o old ts) 0 ls us)<KU (KM (Zr ls o old ts) 0 ls ws)):=by
 have ht:=Nj (L:=lng ls) (xs:=ts.map (rgA ls ws)) (ys:=ts.map (rgA ls us)) (λr h=>by obtain⟨z,_,rfl⟩:=Qp.mp h;exact Rt) (λr h=>by obtain⟨z,_,rfl⟩:=Qp.mp h;exact Rt);rw[←Ry g d1 ga,←Ry g d2 ga]at ht;have hs:=(jw (o:=o) g d1 d2 ga xf xf).1;unfold X8;rw[←ht];apply JN.2;rw[Q8,hs];generalize fnz (Wh o (KF (lng ls) (Kg ls ws)) (KF (lng ls) (Kg ls us)))=A;generalize fnz (KB (ts.map (Zi ls ws)) (ts.map (Zi ls us)))=C;by_cases h:A=0
 .rw[Qo h]
  by_cases h2:(Zl old ws:Int)=Zl old us
  .rw[Qo h2,Q8];omega
  .rw[Qv h2,Q8];omega
 .rw[Qv h,Q8];omega
end
theorem CQ{xs:xk}{a b:xq}:(DL.cutD xs a b).length<=xs.length:=by
 unfold DL.cutD;rw[QS,Jo]
 lia
theorem CP{xs:xk}{a b:xq}{x:D}(h:x∈DL.cutD xs a b):x∈xs:=by unfold DL.cutD at h;exact List.mem_of_mem_drop (List.mem_of_mem_take h)
theorem Ak{ns:xm}{n:Int}{a b:xq}{i:Nat}{x:D}(h:(int n::DL.cutD (ns.map int) a b)[i]?=O x):∃c:Int,x=.int c:=by
 have hm:=Qr h;rcases QL.mp hm with rfl|hm
 .exact⟨n,rfl⟩
 .obtain⟨c,_,rfl⟩:=Qp.mp (CP hm)
  exact⟨c,rfl⟩
theorem Aj{ns:xm}{n:Int}{a b:xq}(h:ns.length<=1000):Kf (.list [.int n]) (.list (DL.cutD (ns.map int) a b))=O (.list (int n::DL.cutD (ns.map int) a b)):=Xj (by
 have:=CQ (xs:=ns.map int) (a:=a) (b:=b);rw[Qb]at this;show 1+_<=_
 lia)
theorem jv{α β:Type}{f:α->β}(hf:∀a b,f a=f b->a=b){l:List α}(h:l.Nodup):(l.map f).Nodup:=by unfold List.Nodup at h⊢;rw[List.pairwise_map];exact h.imp λhne e=>hne (hf _ _ e)
theorem Gh:∀(ls:L3)(k:Nat),(∀rs∈ls,rs.flatten.Nodup)->(KH k ls).Nodup
 |[],_,_=>List.nodup_nil
 |rs::ls,k,h=>by
  show((YR rs.flatten).map (λt=>((k:Int),t))++KH (k+1) ls).Nodup
  rw[List.nodup_append];refine⟨?_,Gh ls (k+1) λr hr=>h r (Qi _ hr),λa ha b hb e=>?_⟩
  .exact jv (λx y e=>(Prod.mk.inj e).2) ((X1 _).nodup_iff.mpr (h rs Qk))
  .subst e
   obtain⟨t,_,rfl⟩:=Qp.mp ha;have:=O7 ls (k+1) _ hb;simp at this
   lia
noncomputable def WK(tm:Int)(as ps:xm):D:=.tuple [.int tm,.list (as.map int),.list (ps.map int)]
noncomputable def P1(ps cs:xm):xm:=(ps.zip cs).map λp=>p.1*p.2
noncomputable def Rj(cs as ps:xm):Int:=as.sum+(P1 ps cs).sum
theorem E1{cs:xm}{ls:L3}(g:Good cs ls):∀q∈KH 0 ls,(0<=q.1/\q.1<ls.length)/\0<=q.2/\q.2<cs.length:=λq hq=>by
 obtain⟨i,rs,h1,h2,h3⟩:=VM hq;have:=(g.rk rs (Qr h1)).flat q.2 h3;have:=(Qg.mp h1).1
 lia
section
variable{cs:xm}{ls:L3}{o:Ord}{old:xA}{ts:xm}
theorem CO(g:Good cs ls)(ga:Yz cs.length ls.length old ts){q:Int×Int}(hq:q∈KH 0 ls):0<=K8 ls o old ts q.1 q.2/\K8 ls o old ts q.1 q.2<18446744073709551616:=by
 obtain⟨i,rs,h1,h2,h3⟩:=VM hq;have l7:=g.l7;have l1:=g.l1;have hL:lng ls<=5:=R7 l1 λrs h=>(g.rk rs h).few;have vD:=Oc (Qr h1);have hr1:1<=KZ q.2 rs:=by have:=RE h3;lia
 have xV:KZ q.2 rs<=lng ls:=by have:=Pz q.2 rs;lia
 have wg:=ga.few
 have e:K8 ls o old ts q.1 q.2=Zr ls o old ts i rs q.2:=by
  unfold K8;rw[h2,Q6,QD]
  congr 1
  simp[List.getD,h1]
 rw[e];unfold Zr;have pw:∀{b:Int}{n k:Nat},1<=b->b<=8->n<=k->1<=b ^ n/\b ^ n<=8 ^ k:=λ{b n k} h0 h8 hk=>⟨Int.pow_pos h0,HZ (by lia) h8 hk⟩
 have hb1:(1:Int)<=(ls.length:Int)+1:=by lia
 have wA:(ls.length:Int)+1<=8:=by lia
 have hM1:(1:Int)<=(lng ls:Int)+1:=by lia
 have hM8:(lng ls:Int)+1<=8:=by lia
 have a1:=pw hb1 wA (n:=lng ls) (k:=5) hL;have a2:=pw hb1 wA (n:=((lng ls:Int)-(KZ q.2 rs:Nat)).toNat) (k:=5) (by lia);have a3:=pw hb1 wA (n:=((KZ q.2 rs:Nat)-1:Int).toNat) (k:=5) (by lia)
 have a4:((ls.length:Int)+1) ^ ((KZ q.2 rs:Nat)-1:Int).toNat<=((ls.length:Int)+1) ^ lng ls:=by
  have:((KZ q.2 rs:Nat)-1:Int).toNat<=lng ls:=by lia
  obtain⟨k,hk⟩:=Nat.exists_eq_add_of_le this;rw[hk,Int.pow_add];have:=(pw hb1 wA (n:=k) (k:=5) (by lia)).1;have hm:=Int.mul_le_mul_of_nonneg_left this (show 0<=((ls.length:Int)+1) ^ ((KZ q.2 rs:Nat)-1:Int).toNat by lia);rw[Int.mul_one]at hm;exact hm
 have b1:0<=ZM o (ls.length+1) (lng ls) (KZ q.2 rs)/\ZM o (ls.length+1) (lng ls) (KZ q.2 rs)<=65536:=by
  cases o with
  |firsts=>show 0<=_ ^ _/\_ ^ _<=65536;lia
  |full=>show 0<=_ ^ ((lng ls:Int)).toNat+_ ^ _/\_ ^ ((lng ls:Int)).toNat+_ ^ _<=65536;rw[QD];lia
  |lasts=>show 0<=_ ^ ((lng ls:Int)).toNat-_ ^ _/\_ ^ ((lng ls:Int)).toNat-_ ^ _<=65536;rw[QD];lia
 have b2:0<=Xp old i q.2/\Xp old i q.2<=1:=by
  unfold Xp;split
  .lia
  .split<;>lia
 have b3:=pw hM1 hM8 (n:=ts.length) (k:=7) (by lia)
 have b4:0<=Vx ts ((lng ls:Int)+1) i (KZ q.2 rs)/\Vx ts ((lng ls:Int)+1) i (KZ q.2 rs)<=8*8 ^ 7:=by
  unfold Vx;split
  .have b5:=pw hM1 hM8 (n:=ts.length-1-ts.idxOf (i:Int)) (k:=7) (by lia)
   refine⟨Int.mul_nonneg (by lia) (by lia),?_⟩;exact Int.mul_le_mul (by lia) b5.2 (by lia) (by decide)
  .exact⟨by lia,by decide⟩
 have c1:0<=ZM o (ls.length+1) (lng ls) (KZ q.2 rs)*(ls.length+1)+Xp old i q.2/\ZM o (ls.length+1) (lng ls) (KZ q.2 rs)*(ls.length+1)+Xp old i q.2<=600000:=by
  have d1:0<=ZM o (ls.length+1) (lng ls) (KZ q.2 rs)*((ls.length:Int)+1):=Int.mul_nonneg b1.1 (by lia);have d2:ZM o (ls.length+1) (lng ls) (KZ q.2 rs)*((ls.length:Int)+1)<=65536*8:=Int.mul_le_mul b1.2 wA (by lia) (by decide)
  lia
 have d3:0<=(ZM o (ls.length+1) (lng ls) (KZ q.2 rs)*(ls.length+1)+Xp old i q.2)*((lng ls:Int)+1) ^ ts.length:=Int.mul_nonneg c1.1 (by lia);have d4:(ZM o (ls.length+1) (lng ls) (KZ q.2 rs)*(ls.length+1)+Xp old i q.2)*((lng ls:Int)+1) ^ ts.length<=600000*8 ^ 7:=Int.mul_le_mul c1.2 b3.2 (by lia) (by decide)
 lia
end
structure OkP(n m:Nat)(V:Int->Int->Int)(qs:LP)(tm:Int)(as ps:xm):Prop where
 t0:0<=tm
 la:as.length=m
 lp:ps.length=n
 aa:∀a∈as,0<=a
 pp:∀p∈ps,0<=p
 le:∀q∈qs,tm*V q.1 q.2<=as.getD q.1.toNat 0+ps.getD q.2.toNat 0
noncomputable def pz(ps:xm)(ws:LO):Int:=(ws.map λo=>match o with|some t=>ps.getD t.toNat 0|none=>0).sum
noncomputable def Zm(n:Nat)(f:Nat->Int):Int:=((UK n).map f).sum
theorem Ta{n:Nat}{f:Nat->Int}:Zm (n+1) f=Zm n f+f n:=by unfold Zm;rw[J4,Qy,JV];simp
theorem LN{f h:Nat->Int}:∀(n:Nat),Zm n (λk=>f k+h k)=Zm n f+Zm n h
 |0=>rfl
 |n+1=>by rw[Ta,Ta,Ta,LN n];lia
theorem Pc{f h:Nat->Int}:∀(n:Nat),(∀k,k<n->f k<=h k)->Zm n f<=Zm n h
 |0,_=>QY _
 |n+1,e=>by
  have h1:=Pc n λk hk=>e k (by lia)
  have h2:=e n (by lia);rw[Ta,Ta]
  lia
theorem Nf:∀(n:Nat)(f:Nat->Int),(∀k,k<n->f k=0)->Zm n f=0
 |0,_,_=>rfl
 |n+1,f,e=>by rw[Ta,Nf n f λk hk=>e k (by lia),e n (by lia)];rfl
theorem LM{p:Nat->Int}{j:Nat}:∀(n:Nat),j<n->Zm n (λk=>if k=j then p k else 0)=p j
 |n+1,h=>by
  rw[Ta];by_cases e:n=j
  .subst e
   rw[Qo xf,Nf n _ λk hk=>Qv (by lia)]
   lia
  .rw[Qv e,LM n (by lia)]
   lia
theorem Nr{f h:Nat->Int}{n:Nat}(e:∀k,k<n->f k=h k):Zm n f=Zm n h:=Uh (Pc n λk hk=>by rw[e k hk];exact QY _) (Pc n λk hk=>by rw[e k hk];exact QY _)
theorem Nd{ps:xm}{n:Nat}:∀(ws:LO),(∀t,O t∈ws->0<=t/\t<n)->pz ps ws=Zm n λk=>((ws.count (O (k:Int)):Nat):Int)*ps.getD k 0
 |[],_=>by rw[Nf n _ λk _=>by simp];rfl
 |o::ws,h=>by
  have ih:=Nd (ps:=ps) ws λt ht=>h t (Qi _ ht)
  cases o with
  |none=>
   show((0:Int)::(ws.map λo=>match o with|some t=>ps.getD t.toNat 0|none=>0)).sum=_
   rw[Jd];unfold pz at ih;rw[ih,Uq];exact Nr λk _=>by rw[List.count_cons];simp
  |some t=>
   have ht:=h t Qk
   show(ps.getD t.toNat 0::(ws.map λo=>match o with|some t=>ps.getD t.toNat 0|none=>0)).sum=_
   rw[Jd];unfold pz at ih;rw[ih,←LM (p:=λk=>ps.getD k 0) (j:=t.toNat) n (by lia),←LN];refine Nr λk _=>?_;rw[JB]
   by_cases e:k=t.toNat
   .subst e
    have:(O t==O ((t.toNat:Nat):Int))=xi:=by simp;lia
    rw[Qo xf,Qo this,Int.natCast_add,Int.add_mul]
    lia
   .have:¬(O t==O ((k:Nat):Int))=xi:=by simp;lia
    rw[Qv e,Qv this,Uq,Ur]
theorem Gg:∀(ps cs:xm),ps.length=cs.length->(P1 ps cs).sum=Zm cs.length λk=>cs.getD k 0*ps.getD k 0
 |ps,cs,h=>by
  unfold Zm P1
  congr 1
  apply Jy;intro i;rw[Qd,Qd];by_cases hi:i<cs.length
  .rw[Q3 hi]
   have h1:ps[i]?=O ps[i]:=Qf (by lia);have h2:cs[i]?=O cs[i]:=Qf hi;have hz:(ps.zip cs)[i]?=O (ps[i],cs[i]):=J0.mpr ⟨h1,h2⟩;rw[hz];simp only[Option.map_some,Qj,h1,h2,Ub,Int.mul_comm]
  .rw[QE (l:=ps.zip cs) (by rw[JT];lia),QE (l:=UK cs.length) (by rw[Qq];lia)]
   rfl
structure Stp where
 a:Nat
 b:Nat
 g:Int
 w:Option Nat
abbrev Tab:=List (Int×List Stp)
noncomputable def ent(T:Tab)(p:Nat):Int×List Stp:=T.getD p (0,[])
noncomputable def YF(W T:Tab)(s:Stp):Tab:=if(ent T s.b).1<(ent W s.a).1+s.g then T.set s.b ((ent W s.a).1+s.g,(ent W s.a).2++[s])else T
noncomputable def R5(W:Tab)(S:List Stp):Tab:=S.foldl (YF W) W
noncomputable def KY(n:Nat)(S:List Stp):Nat->Tab
 |0=>UL n (0,[])
 |t+1=>R5 (KY n S t) S
theorem ka{T:Tab}{p:Nat}{x:Int×List Stp}(h:p<T.length):ent (T.set p x) p=x:=by unfold ent;rw[Qj,QK h];rfl
theorem Nq{T:Tab}{p q:Nat}{x:Int×List Stp}(h:p≠q):ent (T.set p x) q=ent T q:=by unfold ent;rw[Qj,Qx h,←Qj]
theorem Ai(W T:Tab)(s:Stp):(YF W T s).length=T.length:=by
 unfold YF;split
 .rw[Jf]
 .rfl
structure Sx(W T:Tab)(S:List Stp):Prop where
 len:T.length=W.length
 up:∀p,(ent W p).1<=(ent T p).1
 how:∀p,ent T p=ent W p ∨ ∃s∈S,s.b=p/\ent T p=((ent W s.a).1+s.g,(ent W s.a).2++[s])/\(ent W p).1<(ent T p).1
theorem j9{W T:Tab}{S:List Stp}{s:Stp}(hs:s∈S)(hb:s.b<W.length)(k:Sx W T S):Sx W (YF W T s) S/\(∀p,(ent T p).1<=(ent (YF W T s) p).1)/\(ent W s.a).1+s.g<=(ent (YF W T s) s.b).1:=by
 have hbT:s.b<T.length:=by rw[k.len];exact hb
 unfold YF;split
 .rename_i h
  have self:=ka (x:=((ent W s.a).1+s.g,(ent W s.a).2++[s])) hbT;refine⟨⟨by rw[Jf];exact k.len,λp=>?_,λp=>?_⟩,λp=>?_,by rw[self];exact QY _⟩
  .by_cases z:s.b=p
   .subst z;rw[self];have:=k.up s.b;show _<=(ent W s.a).1+s.g;lia
   .rw[Nq z];exact k.up p
  .by_cases z:s.b=p
   .subst z;right;exact⟨s,hs,rfl,self,by rw[self];have:=k.up s.b;show _<(ent W s.a).1+s.g;lia⟩
   .rw[Nq z];exact k.how p
  .by_cases z:s.b=p
   .subst z;rw[self];show _<=(ent W s.a).1+s.g;lia
   .rw[Nq z];exact QY _
 .rename_i h
  exact⟨k,λp=>QY _,by lia⟩
theorem GC{W:Tab}{S:List Stp}(hS:∀s∈S,s.b<W.length):∀(R:List Stp)(T:Tab),(∀s∈R,s∈S)->Sx W T S->Sx W (R.foldl (YF W) T) S/\(∀p,(ent T p).1<=(ent (R.foldl (YF W) T) p).1)/\∀s∈R,(ent W s.a).1+s.g<=(ent (R.foldl (YF W) T) s.b).1
 |[],T,_,k=>⟨k,λ_=>QY _,λs h=>by cases h⟩
 |s::R,T,hR,k=>by
  obtain⟨k1,u1,c1⟩:=j9 (hR s Qk) (hS s (hR s Qk)) k;obtain⟨k2,u2,c2⟩:=GC hS R (YF W T s) (λx hx=>hR x (Qi _ hx)) k1;refine⟨k2,λp=>J5 (u1 p) (u2 p),λx hx=>?_⟩;rcases QL.mp hx with rfl|hx
  .exact J5 c1 (u2 x.b)
  .exact c2 x hx
theorem GI{W:Tab}{S:List Stp}(hS:∀s∈S,s.b<W.length):Sx W (R5 W S) S/\∀s∈S,(ent W s.a).1+s.g<=(ent (R5 W S) s.b).1:=by obtain⟨k,_,c⟩:=GC hS S W (λ_ h=>h) ⟨rfl,λ_=>QY _,λ_=>.inl xf⟩;exact⟨k,c⟩
section
variable{n:Nat}{S:List Stp}(hS:∀s∈S,s.a<n/\s.b<n)
include hS
theorem SW:∀t,(KY n S t).length=n
 |0=>by unfold KY;rw[QF]
 |t+1=>by unfold KY;rw[(GI (λs h=>by rw[SW t];exact(hS s h).2)).1.len,SW t]
theorem V8(t:Nat):Sx (KY n S t) (KY n S (t+1)) S/\∀s∈S,(ent (KY n S t) s.a).1+s.g<=(ent (KY n S (t+1)) s.b).1:=
 GI (λs h=>by rw[SW hS t];exact(hS s h).2)
theorem Rx(p:Nat):ent (KY n S 0) p=(0,[]):=by
 unfold ent KY;rw[Qj,QA]
 split<;>rfl
theorem PU:∀t,(∀p,(ent (KY n S t) p).2.length<=t)/\(∀p,0<t->ent (KY n S t) p≠ent (KY n S (t-1)) p->(ent (KY n S t) p).2.length=t)
 |0=>⟨λp=>by rw[Rx hS];exact Qs _,λp h=>absurd h (JA _)⟩
 |t+1=>by
  obtain⟨h1,h2⟩:=PU t;obtain⟨k,c⟩:=V8 hS t
  have key:∀p,ent (KY n S (t+1)) p≠ent (KY n S t) p->(ent (KY n S (t+1)) p).2.length=t+1:=λp hne=>by
   rcases k.how p with e|⟨s,hs,hb,e,lt⟩
   .exact absurd e hne
   .rw[e,Qm,Jb]
    congr 1
    cases t with
    |zero=>rw[Rx hS];rfl
    |succ t=>
     refine h2 s.a (Nat.succ_pos t) λz=>?_
     obtain⟨k0,c0⟩:=V8 hS t;have:=c0 s hs;rw[JY]at z;rw[e,z,←hb]at lt;exact absurd lt (by show ¬_<(ent (KY n S t) s.a).1+s.g;lia)
  refine⟨λp=>?_,λp _ hne=>key p (by rw[JY]at hne;exact hne)⟩;by_cases z:ent (KY n S (t+1)) p=ent (KY n S t) p
  .rw[z];exact Nat.le_succ_of_le (h1 p)
  .rw[key p z];exact Qs _
end
inductive Walk(S:List Stp):Nat->List Stp->Prop where
 |nil (p:Nat):Walk S p []
 |snoc {w:List Stp} {s:Stp} (hs:s∈S) (h:Walk S s.a w):Walk S s.b (w++[s])
noncomputable def KE(w:List Stp):Int:=(w.map Stp.g).sum
theorem LK:KE []=0:=rfl
theorem WE(u v:List Stp):KE (u++v)=KE u+KE v:=by unfold KE;rw[Qy,JV]
theorem SR(s:Stp):KE [s]=s.g:=by unfold KE;simp
section
variable{n:Nat}{S:List Stp}(hS:∀s∈S,s.a<n/\s.b<n)
include hS
theorem RG:∀t p,Walk S p (ent (KY n S t) p).2/\KE (ent (KY n S t) p).2=(ent (KY n S t) p).1
 |0,p=>by rw[Rx hS];exact⟨.nil p,rfl⟩
 |t+1,p=>by
  rcases(V8 hS t).1.how p with e|⟨s,hs,hb,e,_⟩
  .rw[e];exact RG t p
  .obtain⟨h1,h2⟩:=RG t s.a
   rw[e,←hb];exact⟨.snoc hs h1,by rw[WE,SR,h2]⟩
theorem Hr{t u:Nat}(h:t<=u)(p:Nat):(ent (KY n S t) p).1<=(ent (KY n S u) p).1:=by
 induction h with
 |refl=>exact QY _
 |step _ ih=>exact J5 ih ((V8 hS _).1.up p)
theorem Ah{p:Nat}{w:List Stp}(h:Walk S p w):∀(t:Nat),w.length<=t->KE w<=(ent (KY n S t) p).1:=by
 induction h with
 |nil p=>intro t _;have:=Hr hS (Uc t) p;rw[Rx hS]at this;exact this
 |@snoc w s hs h ih=>
  intro t hl;rw[Qm,Jb]at hl;obtain⟨u,rfl⟩:∃u,t=u+1:=⟨t-1,by lia⟩
  have:=ih u (by lia);have:=(V8 hS u).2 s hs;rw[WE,SR]
  lia
theorem ju{t:Nat}(h0:0<t)(h:∀p,p<n->(ent (KY n S t) p).2.length≠t):∀s∈S,(ent (KY n S t) s.a).1+s.g<=(ent (KY n S t) s.b).1:=λs hs=>by
 obtain⟨u,rfl⟩:∃u,t=u+1:=⟨t-1,by lia⟩
 have e:ent (KY n S (u+1)) s.a=ent (KY n S u) s.a:=Classical.byContradiction λz=>h s.a (hS s hs).1 ((PU hS (u+1)).2 s.a h0 z);rw[e]
 exact(V8 hS u).2 s hs
end
inductive Path(S:List Stp):Nat->List Stp->Nat->Prop where
 |nil (p:Nat):Path S p [] p
 |cons {s:Stp} {w:List Stp} {p:Nat} (hs:s∈S) (h:Path S s.b w p):Path S s.a (s::w) p
section
variable{S:List Stp}
theorem Path.append{q m p:Nat}{u v:List Stp}(h1:Path S q u m)(h2:Path S m v p):Path S q (u++v) p:=by
 induction h1 with
 |nil p=>exact h2
 |cons hs h ih=>exact .cons hs (ih h2)
theorem Path.split{p:Nat}{v:List Stp}:∀{u:List Stp}{q:Nat},Path S q (u++v) p->∃m,Path S q u m/\Path S m v p
 |[],q,h=>⟨q,.nil q,h⟩
 |s::u,q,h=>by
  cases h with
  |cons hs h=>obtain⟨m,h1,h2⟩:=Path.split (u:=u) h;exact⟨m,.cons hs h1,h2⟩
theorem Path.mem{q p:Nat}{w:List Stp}(h:Path S q w p):∀s∈w,s∈S:=by
 induction h with
 |nil p=>intro s h;cases h
 |cons hs h ih=>
  intro s hm;rcases QL.mp hm with rfl|hm
  .exact hs
  .exact ih s hm
theorem Walk.path{p:Nat}{w:List Stp}(h:Walk S p w):∃q,Path S q w p:=by
 induction h with
 |nil p=>exact⟨p,.nil p⟩
 |snoc hs h ih=>obtain⟨q,hq⟩:=ih;exact⟨q,hq.append (.cons hs (.nil _))⟩
theorem Path.walk{p:Nat}:∀{w:List Stp}{q:Nat},Path S q w p->∀{u:List Stp},Walk S q u->Walk S p (u++w)
 |[],q,h,u,hu=>by cases h;rw[Je];exact hu
 |s::w,q,h,u,hu=>by
  cases h with
  |cons hs h=>have:=Path.walk h (Walk.snoc hs hu);rw[Ja]at this;exact this
theorem Path.head{q p:Nat}{s:Stp}{w:List Stp}(h:Path S q (s::w) p):q=s.a:=by cases h;rfl
theorem Path.step{q p:Nat}{s:Stp}{w:List Stp}(h:Path S q (s::w) p):s∈S/\Path S s.b w p:=by cases h with|cons hs h=>exact⟨hs,h⟩
theorem Path.at{q p:Nat}{w:List Stp}(h:Path S q w p){i:Nat}{s:Stp}(hi:w[i]?=O s):Path S q (w.take i) s.a/\Path S q (w.take (i+1)) s.b/\Path S s.b (w.drop (i+1)) p:=by
 have hl:i<w.length:=(Qg.mp hi).1
 have e:w.drop i=s::w.drop (i+1):=by
  rw[QQ hl]
  congr 1
  exact(Qg.mp hi).2
 have h':Path S q (w.take i++w.drop i) p:=by rw[Uk];exact h
 obtain⟨m,h1,h2⟩:=h'.split;rw[e]at h2;have hm:=h2.head;subst hm;obtain⟨hs,h3⟩:=h2.step;refine⟨h1,?_,h3⟩;rw[JI,hi];exact h1.append (.cons hs (.nil _))
theorem Path.next{q p:Nat}{w:List Stp}(h:Path S q w p){i:Nat}{s t:Stp}(hi:w[i]?=O s)(hj:w[i+1]?=O t):t.a=s.b:=by obtain⟨_,_,h3⟩:=h.at hi;have hl:i+1<w.length:=(Qg.mp hj).1;rw[QQ hl]at h3;rw[←(Qg.mp hj).2];exact h3.head.symm
structure On(w:List Stp)(i j:Nat):Prop where
 ij:i<=j
 jl:j<w.length
 same:∀s t,w[i]?=O s->w[j]?=O t->s.a=t.b
 first:∀j'<j,∀i' ≤ j',∀s t,w[i']?=O s->w[j']?=O t->s.a≠t.b
def Ms(w:List Stp):Prop:=∀j<w.length,∀i ≤ j,∀s t,w[i]?=O s->w[j]?=O t->s.a≠t.b
theorem CN{n:Nat}(hS:∀s∈S,s.a<n/\s.b<n){q p:Nat}{w:List Stp}(h:Path S q w p)(hl:n<=w.length)(h0:0<n):¬Ms w:=λhn=>by
 obtain⟨s0,w0,rfl⟩:∃s0 w0,w=s0::w0:=by
  cases w with
  |nil=>rw[QG]at hl;lia
  |cons a b=>exact⟨a,b,rfl⟩
 let P:xx:=s0.a::(s0::w0).map Stp.b
 have key:∀k l:Nat,k<l->∀x y:Nat,P[k]?=O x->P[l]?=O y->x≠y:=λk l xN x y hx hy=>by
  obtain⟨l,rfl⟩:∃m,l=m+1:=⟨l-1,by lia⟩
  have hy:((s0::w0).map Stp.b)[l]?=O y:=hy;rw[Qd]at hy;cases ht:(s0::w0)[l]? with
  |none=>rw[ht]at hy;cases hy
  |some t=>
  rw[ht]at hy;cases hy;have xC:l<(s0::w0).length:=(Qg.mp ht).1;obtain⟨s,hs⟩:∃s,(s0::w0)[k]?=O s:=⟨_,Qf (by lia)⟩
  have hxs:x=s.a:=by
   cases k with
   |zero=>cases hs;cases hx;rfl
   |succ k=>
    have hx:((s0::w0).map Stp.b)[k]?=O x:=hx;rw[Qd]at hx;obtain⟨r,hr⟩:∃r,(s0::w0)[k]?=O r:=⟨_,Qf (by lia)⟩
    rw[hr]at hx;cases hx;exact(h.next hr hs).symm
  rw[hxs];exact hn l xC k (by lia) s t hs ht
 have nd:P.Nodup:=by rw[List.nodup_iff_pairwise_ne,List.pairwise_iff_getElem];intro k l hk hl2 xN;exact key k l xN _ _ (Qf hk) (Qf hl2)
 have bound:∀x∈P,x<n:=λx hx=>by
  rcases QL.mp hx with rfl|hx
  .exact(hS s0 h.step.1).1
  .obtain⟨s,hs,rfl⟩:=Qp.mp hx
   exact(hS s (h.mem s hs)).2
 have le:P.length<=n:=by
  have:=List.Nodup.length_le_of_subset nd (l₂:=UK n) λx hx=>Q7.mpr (bound x hx)
  rwa[Qq]at this
 have:P.length=(s0::w0).length+1:=by show((s0::w0).map Stp.b).length+1=_;rw[Qb]
 lia
theorem jt{n:Nat}(hS:∀s∈S,s.a<n/\s.b<n)(h0:0<n){p:Nat}(hw:(ent (KY n S n) p).2.length=n){i j:Nat}(r:On (ent (KY n S n) p).2 i j) :
  ∃x,Path S x (((ent (KY n S n) p).2.take (j+1)).drop i) x/\0<KE (((ent (KY n S n) p).2.take (j+1)).drop i):=by
 obtain⟨wd,hg⟩:=RG hS n p;generalize hW:(ent (KY n S n) p).2=w at hw r wd hg⊢;obtain⟨q,hp⟩:=wd.path;have hij:=r.ij;have xX:=r.jl;obtain⟨s,hs⟩:∃s,w[i]?=O s:=⟨_,Qf (by lia)⟩
 obtain⟨t,ht⟩:∃t,w[j]?=O t:=⟨_,Qf xX⟩
 have hst:=r.same s t hs ht;obtain⟨a1,a2,a3⟩:=hp.at hs;obtain⟨b1,b2,b3⟩:=hp.at ht;have e1:w.take (j+1)=w.take i++(w.take (j+1)).drop i:=by have:=(Uk i (w.take (j+1))).symm;rw[List.take_take,Nat.min_eq_left (by lia)]at this;exact this
 rw[e1]at b2;obtain⟨m,c1,c2⟩:=b2.split
 have hm:m=s.a:=by
  have e2:(w.take (j+1)).drop i=s::(w.take (j+1)).drop (i+1):=by
   rw[QQ (by rw[QS];lia)]
   congr 1
   rw[List.getElem_take];exact(Qg.mp hs).2
  rw[e2]at c2;exact c2.head
 subst hm;rw[←hst]at c2 b3;refine⟨s.a,c2,?_⟩;have hsh:Path S q (w.take i++w.drop (j+1)) p:=a1.append b3;have wj:=hsh.walk (u:=[]) (.nil q);rw[Jn]at wj;have hlen:(w.take i++w.drop (j+1)).length<=n-1:=by rw[Qm,QS,Jo];lia
 have most:=Ah hS wj (n-1) hlen;have hgw:KE w=KE (w.take i)+KE ((w.take (j+1)).drop i)+KE (w.drop (j+1)):=by rw[←WE,←e1,←WE,Uk]
 rw[WE]at most
 have lt:(ent (KY n S (n-1)) p).1<(ent (KY n S n) p).1:=by
  obtain⟨k,_⟩:=V8 hS (n-1);rw[Nat.sub_add_cancel h0]at k;rcases k.how p with e|⟨_,_,_,_,lt⟩
  .have:=(PU hS (n-1)).1 p
   rw[←e,hW,hw]at this
   lia
  .exact lt
 lia
theorem jZ{q p:Nat}{w:List Stp}(h:Path S q w p){i j:Nat}(r:On w i j):(((w.take (j+1)).drop i).map Stp.a).Nodup:=by
 rw[List.nodup_iff_pairwise_ne,List.pairwise_iff_getElem];intro k l hk hl xN;have hij:=r.ij;have xX:=r.jl;simp only[Qb,Jo,QS]at hk hl;simp only[JQ,List.getElem_drop,List.getElem_take];obtain⟨m,rfl⟩:∃m,l=m+1:=⟨l-1,by lia⟩
 have e1:w[i+m]?=O w[i+m]:=Qf (by lia);have e2:w[i+m+1]?=O w[i+(m+1)]:=Qf (by lia);have e3:w[i+k]?=O w[i+k]:=Qf (by lia);rw[h.next e1 e2];exact r.first (i+m) (by lia) (i+k) (by lia) _ _ e3 e1
end
noncomputable def Kv(f:Int×Int->Int)(i:Nat):xq->Int
 |none=>0
 |some t=>f ((i:Int),t)
noncomputable def plF(n:Nat):xq->Nat
 |none=>n
 |some t=>t.toNat
noncomputable def YI(n b:Nat):xq:=if b=n then xg else O (b:Int)
noncomputable def Ky(f:Int×Int->Int)(k:Nat):LO->Int
 |[]=>0
 |o::r=>Kv f k o+Ky f (k+1) r
theorem LJ(f:Int×Int->Int){o':xq}:∀{d:LO}{k i:Nat}{o:xq},d[i]?=O o->Ky f k (d.set i o')=Ky f k d+Kv f (k+i) o'-Kv f (k+i) o
 |[],_,_,_,h=>by cases h
 |x::d,k,0,o,h=>by
  cases h;show Kv f k o'+Ky f (k+1) d=Kv f k x+Ky f (k+1) d+Kv f k o'-Kv f k x
  lia
 |x::d,k,i+1,o,h=>by
  rw[List.set_cons_succ];unfold Ky;rw[LJ f (d:=d) (k:=k+1) (i:=i) (o:=o) (by simpa using h),show k+1+i=k+(i+1)by lia]
  lia
theorem Hq{o' x:xq}:∀{d:LO}{i:Nat}{o:xq},d[i]?=O o->(((d.set i o').count x:Nat):Int)=(d.count x:Nat)+(if o'=x then 1 else 0)-(if o=x then 1 else 0)
 |[],_,_,h=>by cases h
 |y::d,0,o,h=>by cases h;rw[List.set_cons_zero,JB,JB];by_cases h1:o'=x<;>by_cases h2:y=x<;>simp[h1,h2]<;>lia
 |y::d,i+1,o,h=>by
  have ih:=Hq (o':=o') (x:=x) (d:=d) (i:=i) (o:=o) (by simpa using h);rw[List.set_cons_succ,JB,JB]
  lia
structure ZS(cs:xm)(qs:LP)(m:Nat)(ws:LO):Prop where
 len:ws.length=m
 wish:∀(i:Nat) t,ws[i]?=O (O t)->((i:Int),t)∈qs
 cop:∀(k:Nat) c,cs[k]?=O c->((ws.count (O (k:Int)):Nat):Int)<=c
structure Yr(n m:Nat)(qs:LP):Prop where
 nd:qs.Nodup
 lo:∀q∈qs,0<=q.1/\q.1<m/\0<=q.2/\q.2<n
inductive IsSt(cs:xm)(f:Int×Int->Int)(qs:LP)(ws:LO):Stp->Prop where
 |mv {i:Nat} {o o':xq} (h:ws[i]?=O o) (hne:o'≠o) (hq:∀t,o'=O t->((i:Int),t)∈qs):IsSt cs f qs ws ⟨plF cs.length o,plF cs.length o',Kv f i o'-Kv f i o,O i⟩
 |left {t:Nat} {c:Int} (h:cs[t]?=O c) (hl:((ws.count (O (t:Int)):Nat):Int)<c):IsSt cs f qs ws ⟨t,cs.length,0,xg⟩
 |give {t:Nat} (h:t<cs.length):IsSt cs f qs ws ⟨cs.length,t,0,xg⟩
noncomputable def app(n:Nat)(d:LO)(s:Stp):LO:=match s.w with
 |some i=>d.set i (YI n s.b)
 |none=>d
noncomputable def nIn(t:Nat)(R:List Stp):Nat:=(R.filter λs=>s.w.isSome&&s.b==t).length
noncomputable def Xz(t:Nat)(R:List Stp):Nat:=(R.filter λs=>s.w.isSome&&s.a==t).length
section
variable{cs:xm}{f:Int×Int->Int}{qs:LP}{m:Nat}{ws:LO}
theorem Fw(hp:Yr cs.length m qs){i:Nat}{o:xq}(h:∀t,o=O t->((i:Int),t)∈qs):YI cs.length (plF cs.length o)=o:=by
 cases o with
 |none=>unfold YI plF;rw[Qo xf]
 |some t=>
  have:=hp.lo _ (h t xf)
  show(if t.toNat=cs.length then xg else O ((t.toNat:Nat):Int))=O t
  rw[Qv (by lia)]
  congr 1
  lia
theorem Pb(hp:Yr cs.length m qs){i:Nat}{o:xq}{t:Nat}(ht:t<cs.length)(h:∀t,o=O t->((i:Int),t)∈qs):plF cs.length o=t ↔ o=O (t:Int):=by
 cases o with
 |none=>exact⟨λe=>by have e:cs.length=t:=e;lia,λe=>by cases e⟩
 |some u=>
  have:=hp.lo _ (h u xf);show u.toNat=t ↔ _;constructor
  .intro e;congr 1;lia
  .intro e;cases e;lia
theorem Ps(hp:Yr cs.length m qs)(hd:ZS cs qs m ws):∀(R:List Stp)(d:LO),(∀s∈R,IsSt cs f qs ws s)->(R.map Stp.a).Nodup->(∀s∈R,∀i,s.w=O i->d[i]?=ws[i]?)->d.length=ws.length->(∀(i:Nat) t,d[i]?=O (O t)->((i:Int),t)∈qs) ->
  Ky f 0 (R.foldl (app cs.length) d)=Ky f 0 d+KE R/\(R.foldl (app cs.length) d).length=ws.length/\(∀(i:Nat) t,(R.foldl (app cs.length) d)[i]?=O (O t)->((i:Int),t)∈qs) /\
  ∀t,t<cs.length->(((R.foldl (app cs.length) d).count (O (t:Int)):Nat):Int)=(d.count (O (t:Int)):Nat)+(nIn t R:Nat)-(Xz t R:Nat)
 |[],d,_,_,_,hl,hq=>⟨by show _=_+KE [];rw[LK];show Ky f 0 d=_;lia,hl,hq,λt _=>by show((d.count _:Nat):Int)=_+((0:Nat):Int)-((0:Nat):Int);lia⟩
 |s::R,d,hR,hn,ha,hl,hq=>by
  rw[Qu,List.nodup_cons]at hn;have hgc:KE (s::R)=s.g+KE R:=by show KE ([s]++R)=_;rw[WE,SR]
  rw[Ug,hgc];cases hR s Qk with
  |@mv i o o' h hne xW=>
   have hdi:d[i]?=O o:=(ha _ Qk i xf).trans h;have ho:∀t,o=O t->((i:Int),t)∈qs:=λt e=>hd.wish i t (by rw[h,e])
   have xD:i<d.length:=(Qg.mp hdi).1;have eapp:app cs.length d ⟨plF cs.length o,plF cs.length o',Kv f i o'-Kv f i o,O i⟩=d.set i o':=by show d.set i (YI cs.length (plF cs.length o'))=_;rw[Fw hp xW]
   rw[eapp]
   obtain⟨k1,k2,k3,k4⟩:=Ps hp hd R (d.set i o') (λs hs=>hR s (Qi _ hs)) hn.2 (λs hs j hj=>by
    have hji:i≠j:=λz=>by
     subst z;cases hR s (Qi _ hs)with
     |@mv i2 o2 o2' h2 _ _=>cases hj;rw[h]at h2;cases h2;exact hn.1 (Qp.mpr ⟨_,hs,rfl⟩)
     |left _ _=>cases hj
     |give _=>cases hj
    rw[Qx hji];exact ha s (Qi _ hs) j hj) (by rw[Jf];exact hl) (λj t e=>by
    by_cases z:i=j
    .subst z
     rw[QK xD]at e;cases e;exact xW t xf
    .rw[Qx z]at e;exact hq j t e)
   refine⟨?_,k2,k3,λt ht=>?_⟩
   .rw[k1,LJ f hdi,Q6]
    show _=Ky f 0 d+((Kv f i o'-Kv f i o)+KE R)
    lia
   .rw[k4 t ht,Hq hdi]
    have e1:(if o'=O (t:Int)then(1:Int)else 0)=if plF cs.length o'=t then 1 else 0:=by
     by_cases z:o'=O (t:Int)
     .rw[Qo z,Qo ((Pb hp ht xW).mpr z)]
     .rw[Qv z,Qv (λy=>z ((Pb hp ht xW).mp y))]
    have e2:(if o=O (t:Int)then(1:Int)else 0)=if plF cs.length o=t then 1 else 0:=by
     by_cases z:o=O (t:Int)
     .rw[Qo z,Qo ((Pb hp ht ho).mpr z)]
     .rw[Qv z,Qv (λy=>z ((Pb hp ht ho).mp y))]
    have e3:∀(x:Nat),((nIn t (⟨plF cs.length o,plF cs.length o',Kv f i o'-Kv f i o,O i⟩::R):Nat):Int)=(if plF cs.length o'=t then 1 else 0)+(nIn t R:Nat):=λx=>by
     unfold nIn;rw[List.filter_cons];by_cases z:plF cs.length o'=t
     .rw[if_pos z,if_pos (by simp[z]),List.length_cons];lia
     .rw[if_neg z,if_neg (by simp[z])];lia
    have e4:∀(x:Nat),((Xz t (⟨plF cs.length o,plF cs.length o',Kv f i o'-Kv f i o,O i⟩::R):Nat):Int)=(if plF cs.length o=t then 1 else 0)+(Xz t R:Nat):=λx=>by
     unfold Xz;rw[List.filter_cons];by_cases z:plF cs.length o=t
     .rw[if_pos z,if_pos (by simp[z]),List.length_cons];lia
     .rw[if_neg z,if_neg (by simp[z])];lia
    rw[e1,e2,e3 0,e4 0]
    lia
  |left _ _=>obtain⟨k1,k2,k3,k4⟩:=Ps hp hd R d (λs hs=>hR s (Qi _ hs)) hn.2 (λs hs=>ha s (Qi _ hs)) hl hq;refine⟨?_,k2,k3,k4⟩;show Ky f 0 (R.foldl _ d)=Ky f 0 d+(0+KE R);rw[k1];lia
  |give _=>obtain⟨k1,k2,k3,k4⟩:=Ps hp hd R d (λs hs=>hR s (Qi _ hs)) hn.2 (λs hs=>ha s (Qi _ hs)) hl hq;refine⟨?_,k2,k3,k4⟩;show Ky f 0 (R.foldl _ d)=Ky f 0 d+(0+KE R);rw[k1];lia
theorem Me(t:Nat):∀R:List Stp,nIn t R<=(R.map Stp.b).count t
 |[]=>Qs _
 |s::R=>by
  have ih:=Me t R;unfold nIn at ih⊢;rw[List.filter_cons,Qu,JB];split
  .rename_i h
   rw[Jh]at h;rw[QC,Qo h.2]
   lia
  .lia
theorem CM(hp:Yr cs.length m qs)(hd:ZS cs qs m ws){R:List Stp}(hR:∀s∈R,IsSt cs f qs ws s)(hn:(R.map Stp.a).Nodup)(hb:(R.map Stp.b).Perm (R.map Stp.a)):ZS cs qs m (R.foldl (app cs.length) ws)/\Ky f 0 (R.foldl (app cs.length) ws)=Ky f 0 ws+KE R:=by
 obtain⟨k1,k2,k3,k4⟩:=Ps hp hd R ws hR hn (λs hs i e=>rfl) xf hd.wish;refine⟨⟨by rw[k2];exact hd.len,k3,λt c hc=>?_⟩,k1⟩;have ht:t<cs.length:=(Qg.mp hc).1;rw[k4 t ht];have h0:=hd.cop t c hc;have h1:(R.map Stp.a).count t<=1:=List.nodup_iff_count.mp hn t;have h2:=Me t R;rw[hb.count_eq]at h2;by_cases z:nIn t R=0
 .lia
 .have hin:nIn t R=1:=by lia
  have hmem:t∈R.map Stp.a:=List.count_pos_iff.mp (by lia);obtain⟨s,hs,hst⟩:=Qp.mp hmem;cases hR s hs with
  |@mv i o o' h hne xW=>
   have:1<=Xz t R:=by unfold Xz;exact List.length_pos_iff.mpr (List.ne_nil_of_mem (List.mem_filter.mpr ⟨hs,by simpa using hst⟩))
   lia
  |@left u c' h hl=>
   have hst:u=t:=hst;subst hst;rw[h]at hc;cases hc
   lia
  |@give u h=>
   have hst:cs.length=t:=hst
   lia
end
theorem EZ{S:List Stp}{q p:Nat}{w:List Stp}(h:Path S q w p):w.map Stp.a++[p]=q::w.map Stp.b:=by
 induction h with
 |nil p=>rfl
 |cons hs h ih=>rw[Qu,Qu,List.cons_append,ih]
theorem js{S:List Stp}{x:Nat}{w:List Stp}(h:Path S x w x):(w.map Stp.b).Perm (w.map Stp.a):=by have e:=EZ h;have p1:(w.map Stp.a++[x]).Perm (x::w.map Stp.a):=List.perm_append_comm;rw[e]at p1;exact List.Perm.cons_inv p1
noncomputable def ZO(f:Int×Int->Int)(V:Nat->Int)(qs:LP)(i:Int):Int:=qs.foldl (λa q=>if q.1=i then max a (f q-V q.2.toNat)else a) 0
theorem PR(f:Int×Int->Int)(V:Nat->Int)(i:Int):∀(qs:LP)(a:Int),a<=qs.foldl (λa q=>if q.1=i then max a (f q-V q.2.toNat)else a) a /\
  (∀q∈qs,q.1=i->f q-V q.2.toNat<=qs.foldl (λa q=>if q.1=i then max a (f q-V q.2.toNat)else a) a) /\
  ∀B,a<=B->(∀q∈qs,q.1=i->f q-V q.2.toNat<=B)->qs.foldl (λa q=>if q.1=i then max a (f q-V q.2.toNat)else a) a<=B
 |[],a=>⟨QY _,(λq h=>by cases h),λB h _=>h⟩
 |q::qs,a=>by
  rw[Ug];obtain⟨h1,h2,h3⟩:=PR f V i qs (if q.1=i then max a (f q-V q.2.toNat)else a);have hb:a<=(if q.1=i then max a (f q-V q.2.toNat)else a):=by split<;>lia
  refine⟨J5 hb h1,λp hp e=>?_,λB ha hB=>h3 B ?_ λp hp=>hB p (Qi _ hp)⟩
  .rcases QL.mp hp with rfl|hp
   .rw[Qo e]at h1⊢
    lia
   .exact h2 p hp e
  .have:=hB q Qk
   split
   .rename_i e
    have:=this e
    lia
   .exact ha
theorem Hn{f:Int×Int->Int}{ps:xm}:∀(ws:LO)(k:Nat)(A:Nat->Int),(∀(j:Nat) o,ws[j]?=O o->A (k+j)=Kv f (k+j) o-(match o with|some t=>ps.getD t.toNat 0|none=>0))->((List.range' k ws.length).map A).sum=Ky f k ws-pz ps ws
 |[],k,A,_=>by show(0:Int)=0-0;lia
 |o::ws,k,A,h=>by
  rw[QC,List.range'_succ,Qu,Jd,Hn ws (k+1) A λj o' e=>by have:=h (j+1) o' (by simpa using e);rw[show k+1+j=k+(j+1)by lia];exact this];have h0:=h 0 o xf;rw[Ur]at h0;rw[h0];cases o with
  |none=>show Kv f k xg-0+(Ky f (k+1) ws-pz ps ws)=Kv f k xg+Ky f (k+1) ws-(0+pz ps ws);lia
  |some t=>show Kv f k (O t)-ps.getD t.toNat 0+(Ky f (k+1) ws-pz ps ws)=Kv f k (O t)+Ky f (k+1) ws-(ps.getD t.toNat 0+pz ps ws);lia
section
variable{cs:xm}{f:Int×Int->Int}{qs:LP}{m:Nat}{ws:LO}{S:List Stp}
theorem IsSt.lt(hp:Yr cs.length m qs)(hd:ZS cs qs m ws){s:Stp}(h:IsSt cs f qs ws s):s.a<cs.length+1/\s.b<cs.length+1:=by
 have key:∀{i:Nat}{o:xq},(∀t,o=O t->((i:Int),t)∈qs)->plF cs.length o<cs.length+1:=λ{i o} h=>by
  cases o with
  |none=>exact Up _
  |some t=>have:=hp.lo _ (h t xf);show t.toNat<_;lia
 cases h with
 |mv h hne hq=>exact⟨key λt e=>hd.wish _ t (by rw[h,e]),key hq⟩
 |left h hl=>have:=(Qg.mp h).1;exact⟨Ul this,Up _⟩
 |give h=>exact⟨Up _,Ul h⟩
theorem CL{V:Nat->Int}(still:∀s∈S,V s.a+s.g<=V s.b){q p:Nat}{w:List Stp}(h:Path S q w p):V q+KE w<=V p:=by
 induction h with
 |nil p=>rw[LK];lia
 |@cons s w p hs h ih=>
  have:=still s hs;have e:KE (s::w)=s.g+KE w:=by show KE ([s]++w)=_;rw[WE,SR]
  lia
theorem Ag(hp:Yr cs.length m qs)(hd:ZS cs qs m ws){V:Nat->Int}(st:∀s,IsSt cs f qs ws s->V s.a+s.g<=V s.b)(vn:V cs.length=0) :
  OkP cs.length m (λa b=>f (a,b)) qs 1 ((UK m).map λi:Nat=>ZO f V qs (i:Int)) ((UK cs.length).map V)/\Rj cs ((UK m).map λi:Nat=>ZO f V qs (i:Int)) ((UK cs.length).map V)=Ky f 0 ws:=by
 have v0:∀p,p<cs.length->0<=V p:=λp v4=>by
  have h3:V cs.length+0<=V p:=st _ (.give v4)
  lia
 have psD:∀k,k<cs.length->((UK cs.length).map V).getD k 0=V k:=λk hk=>by rw[Qj,Qd,Q3 hk];rfl
 have ask:∀(i:Nat) o,ws[i]?=O o->ZO f V qs (i:Int)=Kv f i o-(match o with|some t=>((UK cs.length).map V).getD t.toNat 0|none=>0):=λi o h=>by
  obtain⟨a1,a2,a3⟩:=PR f V (i:Int) qs 0;cases o with
  |none=>
   have:ZO f V qs (i:Int)<=0:=a3 0 (QY _) λq hq e=>by
    have h1:=st _ ((.mv (f:=f) h (o':=O q.2) (by intro z;cases z) λt et=>by cases et;rw[←e];exact hq));have h1:V cs.length+(f ((i:Int),q.2)-0)<=V q.2.toNat:=h1;rw[←e]at h1;have:f (q.1,q.2)=f q:=rfl
    lia
   show ZO f V qs (i:Int)=0-0;have:0<=ZO f V qs (i:Int):=a1
   lia
  |some t=>
   have hq:=hd.wish i t h;have hb:=hp.lo _ hq;have hup:=st _ ((.mv (f:=f) h (o':=xg) (by intro z;cases z) λt et=>by cases et));have hup:V t.toNat+(0-f ((i:Int),t))<=V cs.length:=hup;show ZO f V qs (i:Int)=f ((i:Int),t)-((UK cs.length).map V).getD t.toNat 0;rw[psD t.toNat (by lia)];have lo:f ((i:Int),t)-V t.toNat<=ZO f V qs (i:Int):=a2 _ hq xf
   have hi:ZO f V qs (i:Int)<=f ((i:Int),t)-V t.toNat:=a3 _ (by lia) λq hq e=>by
    by_cases z:q.2=t
    .have:q=((i:Int),t):=by rw[←e,←z]
     rw[this];exact QY _
    .have h1:=st _ ((.mv (f:=f) h (o':=O q.2) (by intro y;cases y;exact z xf) λt et=>by cases et;rw[←e];exact hq))
     have h1:V t.toNat+(f ((i:Int),q.2)-f ((i:Int),t))<=V q.2.toNat:=h1;have:f (((i:Int)),q.2)=f q:=by rw[←e]
     lia
   lia
 refine⟨⟨by decide,by rw[Qb,Qq],by rw[Qb,Qq],λa ha=>?_,λp v4=>?_,λq hq=>?_⟩,?_⟩
 .obtain⟨i,_,rfl⟩:=Qp.mp ha
  exact(PR f V (i:Int) qs 0).1
 .obtain⟨i,_,rfl⟩:=Qp.mp v4
  exact v0 i (Q7.mp (by assumption))
 .have hb:=hp.lo q hq
  rw[psD q.2.toNat (by lia),Qj,Qd,Q3 (by lia)];have h2:=(PR f V q.1 qs 0).2.1 q hq xf;show 1*f q<=ZO f V qs ((q.1.toNat:Nat):Int)+V q.2.toNat;have e:((q.1.toNat:Nat):Int)=q.1:=by lia
  rw[e];have h2:f q-V q.2.toNat<=ZO f V qs q.1:=h2
  lia
 .unfold Rj
  rw[List.range_eq_range' (n:=m),←hd.len,Hn (f:=f) (ps:=(UK cs.length).map V) ws 0 (λi:Nat=>ZO f V qs (i:Int)) λj o e=>by rw[Q6];exact ask j o e];have vL:∀t,O t∈ws->0<=t/\t<cs.length:=λt ht=>by obtain⟨i,hi⟩:=List.mem_iff_getElem?.mp ht;have:=hp.lo _ (hd.wish i t hi);exact⟨this.2.2.1,this.2.2.2⟩
  rw[Nd ws vL,Gg _ _ (by rw[Qb,Qq])]
  have e:Zm cs.length (λk=>cs.getD k 0*((UK cs.length).map V).getD k 0)=Zm cs.length λk=>((ws.count (O (k:Int)):Nat):Int)*((UK cs.length).map V).getD k 0:=Nr λk hk=>by
   rw[psD k hk];have hc:cs[k]?=O (cs.getD k 0):=by rw[Qj,Qf hk];rfl
   have hle:=hd.cop k _ hc;by_cases z:((ws.count (O (k:Int)):Nat):Int)=cs.getD k 0
   .rw[z]
   .have h1:=st _ ((.left (f:=f) (qs:=qs) hc (by lia)))
    have h1:V k+0<=V cs.length:=h1;have:=v0 k hk;have hz:V k=0:=by lia
    rw[hz,Int.mul_zero,Int.mul_zero]
  rw[e]
  lia
theorem CK(hp:Yr cs.length m qs)(hd:ZS cs qs m ws)(hin:∀s∈S,IsSt cs f qs ws s)(hall:∀s,IsSt cs f qs ws s->s∈S){V:Nat->Int}(hV:∀p,V p=(ent (KY (cs.length+1) S (cs.length+1)) p).1)
  (still:∀p,p<cs.length+1->(ent (KY (cs.length+1) S (cs.length+1)) p).2.length≠cs.length+1):(∀s∈S,V s.a+s.g<=V s.b)/\V cs.length=0:=by
 have hS:∀s∈S,s.a<cs.length+1/\s.b<cs.length+1:=λs hs=>(hin s hs).lt hp hd;have st:∀s∈S,V s.a+s.g<=V s.b:=λs hs=>by rw[hV,hV];exact ju hS (Nat.succ_pos _) still s hs
 have v0:∀p,0<=V p:=λp=>by have:=Hr hS (Uc (cs.length+1)) p;rw[Rx hS]at this;rw[hV];exact this
 have vn:V cs.length=0:=by
  obtain⟨hw,hg⟩:=RG hS (cs.length+1) cs.length;obtain⟨q,hq⟩:=hw.path;have h1:=CL st hq;rw[hg,←hV]at h1;have h2:=v0 q;by_cases z:q=cs.length
  .rw[z]at h1 h2;lia
  .have hql:q<cs.length:=by
    cases wf:(ent (KY (cs.length+1) S (cs.length+1)) cs.length).2 with
    |nil=>rw[wf]at hq;cases hq;exact absurd xf z
    |cons s w=>
     rw[wf]at hq;have:=(hS s hq.step.1).1;rw[←hq.head]at this
     lia
   have h3:=st _ (hall _ (.give hql));have h3:V cs.length+0<=V q:=h3;have:=v0 cs.length
   lia
 exact⟨st,vn⟩
theorem CJ(hp:Yr cs.length m qs)(hd:ZS cs qs m ws)(hin:∀s∈S,IsSt cs f qs ws s)(hall:∀s,IsSt cs f qs ws s->s∈S){V:Nat->Int}(hV:∀p,V p=(ent (KY (cs.length+1) S (cs.length+1)) p).1)
  (still:∀p,p<cs.length+1->(ent (KY (cs.length+1) S (cs.length+1)) p).2.length≠cs.length+1) :
  OkP cs.length m (λa b=>f (a,b)) qs 1 ((UK m).map λi:Nat=>ZO f V qs (i:Int)) ((UK cs.length).map V)/\Rj cs ((UK m).map λi:Nat=>ZO f V qs (i:Int)) ((UK cs.length).map V)=Ky f 0 ws:=by
 obtain⟨st,vn⟩:=CK hp hd hin hall hV still;exact Ag hp hd (λs hs=>st s (hall s hs)) vn
end
noncomputable def Xb:Option Nat->D
 |some i=>.int i
 |none=>.none
noncomputable def Kp(s:Stp):D:=.tuple [.int s.a,.int s.b,.int s.g,Xb s.w]
noncomputable def Yh(x:Int×List Stp):D:=.tuple [.int x.1,.list (x.2.map Kp)]
noncomputable def Kd(V:Int->Int->Int)(q:Int×Int):Int:=V q.1 q.2
noncomputable def Zz(n:Nat)(f:Int×Int->Int)(ws:LO):List Stp:=(UK ws.length).filterMap λi=>match ws.getD i xg with
 |none=>xg
 |some t=>O ⟨t.toNat,n, -(Kv f i (O t)),O i⟩
noncomputable def Zn(n:Nat)(f:Int×Int->Int)(qs:LP)(ws:LO):List Stp:=qs.filterMap λq=>if ws.getD q.1.toNat xg≠O q.2 then O ⟨plF n (ws.getD q.1.toNat xg),q.2.toNat,f q-Kv f q.1.toNat (ws.getD q.1.toNat xg),O q.1.toNat⟩else xg
noncomputable def Yp(cs:xm)(ws:LO):List Stp:=(UK cs.length).filterMap λt=>if 0<cs.getD t 0-((ws.count (O (t:Int)):Nat):Int)then O ⟨t,cs.length,0,xg⟩else xg
noncomputable def Yo(n:Nat):List Stp:=(UK n).map λt=>⟨n,t,0,xg⟩
noncomputable def YQ(cs:xm)(f:Int×Int->Int)(qs:LP)(ws:LO):List Stp:=Zz cs.length f ws++Zn cs.length f qs ws++(Yp cs ws++Yo cs.length)
theorem Af{m j:Nat}{h h':Nat->Int}(hj:j<m)(e:∀i,i≠j->h' i=h i):(((UK m).map h).map int).set j (.int (h' j))=((UK m).map h').map int:=by
 apply Jy;intro i;by_cases z:j=i
 .subst z
  rw[QK (by rw[Qb,Qb,Qq];exact hj),Qd,Qd,Q3 hj];rfl
 .rw[Qx z,Qd,Qd,Qd,Qd]
  by_cases hi:i<m
  .rw[Q3 hi]
   show O (int (h i))=O (int (h' i));rw[e i λy=>z y.symm]
  .rw[QE (by rw[Qq];lia)]
   rfl
theorem Hi{m:Nat}{h:Nat->Int}{j:Nat}(hj:j<m):oIx (.list (((UK m).map h).map int)) (.int (j:Int))=O (.int (h j)):=ZC (by rw[Qd,Qd,Q3 hj];rfl)
section
variable{cs:xm}{ls:L3}{ws:LO}{V:Int->Int->Int}{qs:LP}
theorem jY{n:Nat}{o:xq}(h:∀t,o=O t->0<=t):Wd [.int n,Kc o]=O (.int (plF n o)):=by
 refine Zo (Z:=[pb (.int n),pb (Kc o)]) xf ?_;unfold TQ;cases o with
 |none=>exact KN (Mn (KT (k:=isNon) (x:=PyData.none) (U3 xf)) (U3 xf)) xf
 |some t=>refine KN (Oi (KT (k:=isNon) (x:=int t) (U3 xf)) (U3 xf)) ?_;have:=h t xf;show Out.rt (.int t)=Out.rt (.int ((t.toNat:Nat):Int));rw[show((t.toNat:Nat):Int)=t by lia]
noncomputable def Yt(V:Int->Int->Int)(ws:LO)(qs:LP)(i:Nat):Int:=match ws.getD i xg with
 |none=>0
 |some t=>if((i:Int),t)∈qs then V i t else 0
theorem Om{k:Int}(h0:0<=k)(h1:k<ws.length):oIx (Kk ws) (.int k)=O (Kc (ws.getD k.toNat xg)):=by
 obtain⟨j,rfl⟩:∃j:Nat,k=j:=⟨k.toNat,by lia⟩
 refine ZC ?_;rw[Qd,QD,Qj,Qf (by lia)];rfl
theorem Hh{i:Nat}{o:xq}(h:ws[i]?=O o):ws.getD i xg=o:=by rw[Qj,h];rfl
theorem Ae(hp:Yr cs.length ws.length qs)(hd:ZS cs qs ws.length ws)(hm:ws.length<=1000)(hq1:qs.length<=1000):W8 [.int (cs.length:Nat),.list (qs.map (Zs V)),Kk ws]=O (.list ((Zz cs.length (Kd V) ws++Zn cs.length (Kd V) qs ws).map Kp)):=by
 refine Zo (Z:=[pb (.int (cs.length:Nat)),pb (.list (qs.map (Zs V))),pb (Kk ws),xg,xg,xg,xg,xg]) xf ?_;unfold TN;have hlen:Kt [Kk ws]=O (.int ws.length):=by show Kt [.list (ws.map Kc)]=_;rw[ZJ,Qb]
 have pos:∀i t,ws.getD i xg=O t->i<ws.length/\((i:Int),t)∈qs:=λi t e=>by
  by_cases hi:i<ws.length
  .rw[Qj,Qf hi]at e
   exact⟨hi,hd.wish i t (by rw[Qf hi];exact congrArg O e)⟩
  .rw[Qj,QE (by lia)]at e;cases e
 refine Kw (ZY (OE (n:=ws.length) (Zw (U4 Ka U9) (Qa xf)) (ZZ xf hlen) hm) (Qa xf) xf) ?_;apply K0;apply ZV (λk Z=>∃x4 x5 x6,Z=[pb (.int (cs.length:Nat)),pb (.list (qs.map (Zs V))),pb (Kk ws),O (.own (((UK ws.length).map (Yt V ws (qs.take k))).map int)),x4,x5,x6,xg])
 case h1=>exact ZD (U3 xf) Yi
 case h0=>
  refine⟨xg,xg,xg,?_⟩
  have e:((UK ws.length).map (Yt V ws (qs.take 0))).map int=UL ws.length (.int 0):=by
   rw[List.eq_replicate_iff];refine⟨by rw[Qb,Qb,Qq],λb hb=>?_⟩;obtain⟨x,hx,rfl⟩:=Qp.mp hb;obtain⟨i,_,rfl⟩:=Qp.mp hx;unfold Yt;split
   .rfl
   .rw[if_neg (by rw[List.take_zero];simp)]
  rw[e];rfl
 case hst=>
  rintro k d Z hk ⟨x4,x5,x6,rfl⟩;rw[Qd]at hk;cases hq:qs[k]? with
  |none=>rw[hq]at hk;cases hk
  |some q=>
  rw[hq]at hk;cases hk;have hb:=hp.lo q (Qr hq);refine⟨_,KO xf (Ki (U8 (Qa xf) xf) (Ki (U8 (Qa xf) xf) (Ki (U8 (Qa xf) xf) KP))),?_⟩;unfold La;have xU:qs.take (k+1)=qs.take k++[q]:=by rw[JI,hq];rfl
  apply KS
  case h1=>exact Kl (K2 xf (U3 xf) (Om hb.1 hb.2.1)) (U3 xf) (Ob (b:=O q.2))
  case h2=>
   intro hh;have hh:ws.getD q.1.toNat xg=O q.2:=Qa hh;refine ZP (Pj (U3 xf) xf (U3 xf) xf ⟨hb.1,by rw[Qb,Qb,Qq];exact hb.2.1⟩ xf) (Zp ⟨O (.pub (.int q.1)),pb (.int q.2),pb (.int (V q.1 q.2)),?_⟩)
   have e:=Af (m:=ws.length) (j:=q.1.toNat) (h:=Yt V ws (qs.take k)) (h':=Yt V ws (qs.take (k+1))) (by lia) λi hne=>by
    unfold Yt;cases ws.getD i xg with
    |none=>rfl
    |some t=>
     dsimp only;rw[xU];by_cases z:((i:Int),t)∈qs.take k
     .rw[Qo z,Qo (Q9 _ z)]
     .rw[Qv z,Qv]
      intro y;rcases QU.mp y with y|y
      .exact z y
      .have:=QZ.mp y
       rw[←this]at hne;exact hne (by show i=((i:Int)).toNat;rw[QD])
   have ev:Yt V ws (qs.take (k+1)) q.1.toNat=V q.1 q.2:=by
    unfold Yt;rw[hh];have ei:((q.1.toNat:Nat):Int)=q.1:=by lia
    dsimp only;rw[ei,if_pos (by rw[xU];exact List.mem_append_right _ (by simp))]
   rw[ev]at e;rw[←e];rfl
  case h3=>
   intro hh;have hh:¬ws.getD q.1.toNat xg=O q.2:=Ji hh;refine Zj (Zp ⟨O (.pub (.int q.1)),pb (.int q.2),pb (.int (V q.1 q.2)),?_⟩)
   have e:(UK ws.length).map (Yt V ws (qs.take (k+1)))=(UK ws.length).map (Yt V ws (qs.take k)):=JL λi _=>by
    unfold Yt;cases hw:ws.getD i xg with
    |none=>rfl
    |some t=>
     dsimp only;rw[xU];by_cases z:((i:Int),t)∈qs.take k
     .rw[Qo z,Qo (Q9 _ z)]
     .rw[Qv z,Qv]
      intro y;rcases QU.mp y with y|y
      .exact z y
      .have y:=QZ.mp y
       rw[←y]at hh;exact hh (by show ws.getD ((i:Int)).toNat xg=O t;rw[QD];exact hw)
   rw[e];rfl
 case hend=>
  rintro Z ⟨x4,x5,x6,rfl⟩;refine KW ?_;have vL:qs.take (qs.map (Zs V)).length=qs:=by rw[Qb,JS]
  rw[vL]
  have wC:∀i,Yt V ws qs i=Kv (Kd V) i (ws.getD i xg):=λi=>by
   unfold Yt;cases hw:ws.getD i xg with
   |none=>rfl
   |some t=>exact Qo (pos i t hw).2
  have hc:∀y4 y5 y6 y7:Option Sl,Zk (gT 2 (gNC (gN 8) (gNC (gN 9) (gN0)))) (Ke (λd=>!isNon d) (UZ 9)) (KQ (U2 (UZ 9) (U2 (UZ 0) (U2 (Ye (Kj 3 (UZ 8))) (U2 (UZ 8) (U1)))))) (Yv 0 (ws.map Kc)) ([pb (.int (cs.length:Nat)),pb (.list (qs.map (Zs V))),pb (Kk ws),pb (.list (((UK ws.length).map (Yt V ws qs)).map int)),y4,y5,y6,y7]++UL 2 xg) []=O ((Zz cs.length (Kd V) ws).map Kp):=by
   intro y4 y5 y6 y7
   have em:(Zz cs.length (Kd V) ws).map Kp=((UK ws.length).map λi=>(match ws.getD i xg with|none=>xg|some t=>O (Kp ⟨t.toNat,cs.length, -(Kv (Kd V) i (O t)),O i⟩):xn)).filterMap id:=by
    unfold Zz;rw[List.map_filterMap,List.filterMap_map]
    congr 1
    funext i;dsimp only[Function.comp,id];cases ws.getD i xg<;>rfl
   rw[em];refine RI (λZ=>∃z4 z5 z6 z7 x y,Z=[pb (.int (cs.length:Nat)),pb (.list (qs.map (Zs V))),pb (Kk ws),pb (.list (((UK ws.length).map (Yt V ws qs)).map int)),z4,z5,z6,z7,x,y]) _ _ _ _ (by rw[Qb,Qq,YH,Qb]) ?_ ⟨y4,y5,y6,y7,xg,xg,rfl⟩ (by rw[YH,Qb,QG];lia);rintro i d e hdd he Z ⟨z4,z5,z6,z7,x,y,rfl⟩;obtain⟨z,hz,rfl⟩:=Xi hdd;rw[Qd]at hz;cases hw:ws[i]? with
   |none=>rw[hw]at hz;cases hz
   |some o=>
   rw[hw]at hz;cases hz;have xD:i<ws.length:=(Qg.mp hw).1;have hg:=Hh hw;rw[Qd,Q3 xD]at he;have he:O (match ws.getD i xg with|none=>xg|some t=>O (Kp ⟨t.toNat,cs.length, -(Kv (Kd V) i (O t)),O i⟩):xn)=O e:=he;rw[hg]at he;cases he;rw[Q6];refine⟨_,KO xf (Ki (U8 (Qa xf) xf) (Ki (U8 (Qa xf) xf) KP)),?_,?_,_,_,_,_,_,_,rfl⟩
   .cases o with
    |none=>exact KT (k:=λd=>!isNon d) (x:=PyData.none) (U3 xf)
    |some t=>exact KT (k:=λd=>!isNon d) (x:=int t) (U3 xf)
   .intro v hv
    cases o with
    |none=>cases hv
    |some t=>
     cases hv;have hb:=hp.lo _ (pos i t hg).2;have et:((t.toNat:Nat):Int)=t:=by have:=hb.2.2.1;lia
     show _=Res.ok (PyData.tuple [.int ((t.toNat:Nat):Int),.int ((cs.length:Nat):Int),.int (-(Kv (Kd V) i (O t))),.int (i:Nat)]) _;rw[et,show Kv (Kd V) i (O t)=Yt V ws qs i by rw[wC,hg]];exact YU (U4 (U3 xf) (U4 (U3 xf) (U4 (V2 (K2 xf (U3 xf) (Hi xD))) (U4 (U3 xf) U9)))) (Qa xf)
  have nlS:∀S:List Stp,(S.map Kp).all nl0=xi:=λS=>Jp.mpr λd hd=>by obtain⟨s,_,rfl⟩:=Qp.mp hd;obtain⟨a,b,g,w⟩:=s;cases w<;>rfl
  have hcl:∀x4 x5 x6:Option Sl,Ws (ZB (YS (U2 (UZ 2) (U1))) 2 (gT 2 (gNC (gN 8) (gNC (gN 9) (gN0)))) (Ke (λd=>!isNon d) (UZ 9)) (KQ (U2 (UZ 9) (U2 (UZ 0) (U2 (Ye (Kj 3 (UZ 8))) (U2 (UZ 8) (U1))))))) [pb (.int (cs.length:Nat)),pb (.list (qs.map (Zs V))),pb (Kk ws),O (.own (((UK ws.length).map (Yt V ws qs)).map int)),x4,x5,x6,xg]=.ok ((Zz cs.length (Kd V) ws).map Kp) [pb (.int (cs.length:Nat)),pb (.list (qs.map (Zs V))),pb (Kk ws),O (.own (((UK ws.length).map (Yt V ws qs)).map int)),x4,x5,x6,xg]:=λx4 x5 x6=>
   BL (Z':=Yn [pb (.int (cs.length:Nat)),pb (.list (qs.map (Zs V))),pb (Kk ws),O (.own (((UK ws.length).map (Yt V ws qs)).map int)),x4,x5,x6,xg]) (Yj (Xu (U4 (U3 xf) U9) Xs) (hc _ _ _ _)) (nlS _)
  refine Kw (ZY (hcl _ _ _) (Qa xf) xf) ?_;apply K0;apply ZV (λk Z=>∃x4 x5 x6,Z=[pb (.int (cs.length:Nat)),pb (.list (qs.map (Zs V))),pb (Kk ws),O (.own (((UK ws.length).map (Yt V ws qs)).map int)),x4,x5,x6,O (.own ((Zz cs.length (Kd V) ws++Zn cs.length (Kd V) (qs.take k) ws).map Kp))])
  case h1=>exact ZD (U3 xf) Yi
  case h0=>exact⟨_,_,_,by rw[J9];show _=[_,_,_,_,_,_,_,O (Sl.own ((Zz cs.length (Kd V) ws++[]).map Kp))];rw[Je];rfl⟩
  case hst=>
   rintro k d Z hk ⟨x4,x5,x6,rfl⟩;rw[Qd]at hk;cases hq:qs[k]? with
   |none=>rw[hq]at hk;cases hk
   |some q=>
   rw[hq]at hk;cases hk;have hb:=hp.lo q (Qr hq);have xU:qs.take (k+1)=qs.take k++[q]:=by rw[JI,hq];rfl
   have xN:k<qs.length:=(Qg.mp hq).1
   have hsz:((Zz cs.length (Kd V) ws++Zn cs.length (Kd V) (qs.take k) ws).map Kp).length<1000000:=by
    rw[Qb,Qm];have h1:(Zz cs.length (Kd V) ws).length<=ws.length:=by unfold Zz;have:=Jq (λi=>match ws.getD i xg with|none=>xg|some t=>O (⟨t.toNat,cs.length, -(Kv (Kd V) i (O t)),O i⟩:Stp)) (UK ws.length);rw[Qq]at this;exact this
    have h2:(Zn cs.length (Kd V) (qs.take k) ws).length<=qs.length:=by unfold Zn;refine QR (Jq _ _) ?_;rw[QS];lia
    lia
   refine⟨_,KO xf (Ki (U8 (Qa xf) xf) (Ki (U8 (Qa xf) xf) (Ki (U8 (Qa xf) xf) KP))),?_⟩;unfold Lb;have e2:∀r:List Stp,Zn cs.length (Kd V) [q] ws=r->Zn cs.length (Kd V) (qs.take (k+1)) ws=Zn cs.length (Kd V) (qs.take k) ws++r:=λr hr=>by rw[xU];unfold Zn at hr⊢;rw[List.filterMap_append,hr]
   apply KS
   case h1=>exact Kl (K2 xf (U3 xf) (Om hb.1 hb.2.1)) (U3 xf) (En (b:=O q.2))
   case h2=>
    intro hh;have hh:¬ws.getD q.1.toNat xg=O q.2:=by simpa using hh
    have hpl:Wd [.int (cs.length:Nat),Kc (ws.getD q.1.toNat xg)]=O (.int (plF cs.length (ws.getD q.1.toNat xg))):=jY λt e=>by have:=hp.lo _ (pos _ t e).2;exact this.2.2.1
    refine ZP (XY xf (YU (U4 (KD (U4 (U3 xf) (U4 (K2 xf (U3 xf) (Om hb.1 hb.2.1)) U9)) xf hpl) (U4 (U3 xf) (U4 (Kl (U3 xf) (Oj xf (U3 xf) xf (show oIx _ (.int q.1)=O (.int (Yt V ws qs q.1.toNat))from by have:=Hi (m:=ws.length) (h:=Yt V ws qs) (j:=q.1.toNat) (by lia);rw[show((q.1.toNat:Nat):Int)=q.1 by lia]at this;exact this)) Y4) (U4 (U3 xf) U9)))) (Qa xf)) xf hsz xf) (Zp ⟨O (.pub (.int q.1)),pb (.int q.2),pb (.int (V q.1 q.2)),?_⟩);have er:Zn cs.length (Kd V) [q] ws=[⟨plF cs.length (ws.getD q.1.toNat xg),q.2.toNat,Kd V q-Kv (Kd V) q.1.toNat (ws.getD q.1.toNat xg),O q.1.toNat⟩]:=by unfold Zn;rw[JK,Qo hh];rfl
    rw[e2 _ er,←Ja,Qy (l₂:=[_])];show _=[_,_,_,_,_,_,_,O (Sl.own (_++[PyData.tuple [_,.int ((q.2.toNat:Nat):Int),.int (Kd V q-Kv (Kd V) q.1.toNat (ws.getD q.1.toNat xg)),.int ((q.1.toNat:Nat):Int)]]))];rw[show((q.2.toNat:Nat):Int)=q.2 by lia,show((q.1.toNat:Nat):Int)=q.1 by lia,←wC];rfl
   case h3=>
    intro hh;have hh:ws.getD q.1.toNat xg=O q.2:=by simpa using hh
    refine Zj (Zp ⟨O (.pub (.int q.1)),pb (.int q.2),pb (.int (V q.1 q.2)),?_⟩);have er:Zn cs.length (Kd V) [q] ws=[]:=by unfold Zn;rw[List.filterMap_cons,if_neg (by rw[hh];simp)];rfl
    rw[e2 _ er,Je];rfl
  case hend=>rintro Z ⟨x4,x5,x6,rfl⟩;rw[vL];exact KW (KN (ZR rfl rfl) rfl)
end
section
variable{cs:xm}{ls:L3}{ws:LO}{V:Int->Int->Int}{qs:LP}
theorem Ad(g:Good cs ls)(hm:ws.length=ls.length):W7 [Kr cs ls,Kk ws]=O (.list ((Yp cs ws++Yo cs.length).map Kp)):=by
 refine Zo (Z:=[pb (Kr cs ls),pb (Kk ws),xg,xg,xg]) xf ?_;unfold TM;have c6:=g.c6;have vc:Kt [.list (cs.map int)]=O (.int cs.length):=by rw[ZJ,Qb]
 refine Kw (K1 (ZQ (U4 (K2 xf Ka Vs) U9) vc) (Qa xf) xf) ?_;refine Kw (K1 (KD (U4 (U3 xf) (U4 (U3 xf) U9)) xf (kW g)) (Qa xf) xf) ?_;have xC:(Xg cs ws).length=cs.length:=by unfold Xg;rw[Qb,Qq]
 have hc:Zk (gT 2 (gNC (gN 5) (gNC (gN 6) (gN0)))) (ZA (oIB λi j=>decide (j<i)) 6 (U5 (.int 0))) (KQ (U2 (UZ 5) (U2 (UZ 2) (U2 (U5 (.int 0)) (U2 (U5 .none) (U1)))))) (Yv 0 ((Xg cs ws).map int)) (Kz [pb (Kr cs ls),pb (Kk ws),pb (.int cs.length),pb (.list ((Xg cs ws).map int)),xg]++UL 2 xg) []=O ((Yp cs ws).map Kp):=by
  have em:(Yp cs ws).map Kp=((UK cs.length).map λt=>(if 0<cs.getD t 0-((ws.count (O (t:Int)):Nat):Int)then O (Kp ⟨t,cs.length,0,xg⟩)else none:xn)).filterMap id:=by
   unfold Yp;rw[List.map_filterMap,List.filterMap_map]
   congr 1
   funext i;dsimp only[Function.comp,id]
   split<;>rfl
  rw[em];refine RI (λZ=>∃x y,Z=[pb (Kr cs ls),pb (Kk ws),pb (.int cs.length),pb (.list ((Xg cs ws).map int)),xg,x,y]) _ _ _ _ (by rw[Qb,Qq,YH,Qb,xC]) ?_ ⟨xg,xg,rfl⟩ (by rw[YH,Qb,xC,QG];lia);rintro i d e hd he Z ⟨x,y,rfl⟩;obtain⟨z,hz,rfl⟩:=Xi hd;rw[Qd]at hz
  have xD:i<cs.length:=by
   rw[←xC];cases hw:(Xg cs ws)[i]? with
   |none=>rw[hw]at hz;cases hz
   |some v=>exact(Qg.mp hw).1
  have hlv:(Xg cs ws)[i]?=O (cs.getD i 0-((ws.count (O (i:Int)):Nat):Int)):=by unfold Xg;rw[Qd,Q3 xD];rfl
  rw[hlv]at hz;cases hz;rw[Qd,Q3 xD]at he;cases he;rw[Q6];refine⟨_,KO xf (Ki (U8 (Qa xf) xf) (Ki (U8 (Qa xf) xf) KP)),?_,?_,_,_,rfl⟩
  .have e:(if 0<cs.getD i 0-((ws.count (O (i:Int)):Nat):Int)then O (Kp ⟨i,cs.length,0,xg⟩)else none:xn).isSome=decide (0<cs.getD i 0-((ws.count (O (i:Int)):Nat):Int)):=by
    by_cases h:0<cs.getD i 0-((ws.count (O (i:Int)):Nat):Int)
    .rw[Qo h,QT h];rfl
    .rw[Qv h,QI h];rfl
   rw[e];exact Yu xf Ka xf
  .intro v hv
   dsimp only at hv;split at hv
   .cases hv
    exact YU (U4 (U3 xf) (U4 (U3 xf) (U4 Ka (U4 Ka U9)))) (Qa xf)
   .cases hv
 refine Kw (ZY (Yj (Xu (U4 (U3 xf) U9) Xs) hc) (Qa xf) xf) ?_;have vD:(Yx 0 (cs.length:Int)).length=cs.length:=by rw[X0];lia
 have hc2:∀x4:Option Sl,Zk (gN 5) (U5 xi) (KQ (U2 (UZ 2) (U2 (UZ 5) (U2 (U5 (.int 0)) (U2 (U5 .none) (U1)))))) (Yx 0 (cs.length:Int)) (Kz [pb (Kr cs ls),pb (Kk ws),pb (.int cs.length),pb (.list ((Xg cs ws).map int)),x4]++UL 1 xg) []=O ((Yo cs.length).map Kp):=λx4=>by refine Xo (λZ=>∃z x,Z=[pb (Kr cs ls),pb (Kk ws),pb (.int cs.length),pb (.list ((Xg cs ws).map int)),z,x]) _ _ _ _ (by unfold Yo;rw[Qb,Qb,Qq,vD]) ?_ ⟨_,xg,rfl⟩ (by rw[vD,QG];lia);rintro i d e hd he Z ⟨z,x,rfl⟩;obtain⟨rfl,hlt⟩:=Te hd;unfold Yo at he;rw[Qd,Qd,Q3 (by lia)]at he;cases he;rw[Uq];exact⟨_,U8 (Qa xf) xf,rfl,YU (U4 (U3 xf) (U4 (U3 xf) (U4 Ka (U4 Ka U9)))) (Qa xf),_,_,rfl⟩
 have h1:(Yp cs ws).length<=cs.length:=by unfold Yp;have:=Jq (λt=>if 0<cs.getD t 0-((ws.count (O (t:Int)):Nat):Int)then O (⟨t,cs.length,0,xg⟩:Stp)else xg) (UK cs.length);rw[Qq]at this;exact this
 have h2:(Yo cs.length).length=cs.length:=by unfold Yo;rw[Qb,Qq]
 refine KN (Kl (ZR xf xf) (KT (Yj (VG (U4 (U3 xf) U9) (VP (by lia) (by lia))) (hc2 _))) (Xj (by rw[Qb,Qb];lia))) ?_;rw[Qy]
theorem GR(g:Good cs ls)(hm:ws.length=ls.length)(hp:Yr cs.length ws.length qs)(hd:ZS cs qs ws.length ws)(hq1:qs.length<=1000):Xf [Kr cs ls,.list (qs.map (Zs V)),Kk ws]=O (.list ((YQ cs (Kd V) qs ws).map Kp)):=by
 refine Zo (Z:=[pb (Kr cs ls),pb (.list (qs.map (Zs V))),pb (Kk ws)]) xf ?_;unfold TL;have c6:=g.c6;have l7:=g.l7;have vc:Kt [.list (cs.map int)]=O (.int (cs.length:Nat)):=by rw[ZJ,Qb]
 have h1:(Zz cs.length (Kd V) ws).length<=ws.length:=by unfold Zz;have:=Jq (λi=>match ws.getD i xg with|none=>xg|some t=>O (⟨t.toNat,cs.length, -(Kv (Kd V) i (O t)),O i⟩:Stp)) (UK ws.length);rw[Qq]at this;exact this
 have h2:(Zn cs.length (Kd V) qs ws).length<=qs.length:=by unfold Zn;exact Jq _ _
 have h3:(Yp cs ws).length<=cs.length:=by unfold Yp;have:=Jq (λt=>if 0<cs.getD t 0-((ws.count (O (t:Int)):Nat):Int)then O (⟨t,cs.length,0,xg⟩:Stp)else xg) (UK cs.length);rw[Qq]at this;exact this
 have h4:(Yo cs.length).length=cs.length:=by unfold Yo;rw[Qb,Qq]
 refine KN (Kl (KD (U4 (ZQ (U4 (K2 xf Ka Vs) U9) vc) (U4 (U3 xf) (U4 (U3 xf) U9))) xf (Ae hp hd (by lia) hq1)) (KD (U4 (U3 xf) (U4 (U3 xf) U9)) xf (Ad g hm)) (Xj (by rw[Qb,Qb,Qm,Qm];lia))) ?_;unfold YQ;rw[Qy (l₁:=Zz cs.length (Kd V) ws++Zn cs.length (Kd V) qs ws)]
theorem Pr{m:Nat}{f:Int×Int->Int}(hp:Yr cs.length m qs)(hd:ZS cs qs m ws):∀s∈YQ cs f qs ws,IsSt cs f qs ws s:=λs hs=>by
 have gt:∀{i:Nat}{o:xq},i<ws.length->ws.getD i xg=o->ws[i]?=O o:=λ{i o} hi e=>by rw[Qj,Qf hi]at e;rw[Qf hi];exact congrArg O e
 unfold YQ at hs;rcases QU.mp hs with hs|hs
 .rcases QU.mp hs with hs|hs
  .unfold Zz at hs
   obtain⟨i,hi,e⟩:=Jr.mp hs;have hi:=Q7.mp hi;cases hw:ws.getD i xg with
   |none=>rw[hw]at e;cases e
   |some t=>
    rw[hw]at e;have e:=Q5 e;subst e;have:=IsSt.mv (cs:=cs) (f:=f) (qs:=qs) (gt hi hw) (o':=xg) (by intro z;cases z) (λt e=>by cases e);have e2:Kv f i xg-Kv f i (O t) = -(Kv f i (O t)):=by show 0-_=_;lia
    rw[e2]at this;exact this
  .unfold Zn at hs
   obtain⟨q,hq,e⟩:=Jr.mp hs;have hb:=hp.lo q hq;split at e
   .rename_i hne
    have e:=Q5 e;subst e;have hi:q.1.toNat<ws.length:=by rw[hd.len];lia
    have ei:((q.1.toNat:Nat):Int)=q.1:=by lia
    have:=IsSt.mv (cs:=cs) (f:=f) (qs:=qs) (gt hi xf) (o':=O q.2) (λz=>hne z.symm) (λt e=>by cases e;rw[ei];exact hq);have e2:Kv f q.1.toNat (O q.2)=f q:=by show f (((q.1.toNat:Nat):Int),q.2)=_;rw[ei]
    rw[e2]at this;exact this
   .cases e
 .rcases QU.mp hs with hs|hs
  .unfold Yp at hs
   obtain⟨t,ht,e⟩:=Jr.mp hs;have ht:=Q7.mp ht;split at e
   .rename_i hl
    have e:=Q5 e;subst e;exact .left (c:=cs.getD t 0) (by rw[Qj,Qf ht];rfl) (by lia)
   .cases e
  .unfold Yo at hs
   obtain⟨t,ht,rfl⟩:=Qp.mp hs;exact .give (Q7.mp ht)
theorem Ac{m:Nat}{f:Int×Int->Int}(hp:Yr cs.length m qs)(hd:ZS cs qs m ws):∀s,IsSt cs f qs ws s->s∈YQ cs f qs ws:=λs hs=>by
 unfold YQ;cases hs with
 |@mv i o o' h hne hq=>
  have hi:i<ws.length:=(Qg.mp h).1;have hg:=Hh h;refine Q9 _ ?_;cases o' with
  |none=>
   refine Q9 _ ?_;cases o with
   |none=>exact absurd xf hne
   |some t=>unfold Zz;refine Jr.mpr ⟨i,Q7.mpr hi,?_⟩;rw[hg];show O (⟨t.toNat,cs.length, -(Kv f i (O t)),O i⟩:Stp)=O ⟨t.toNat,cs.length,0-Kv f i (O t),O i⟩;rw[show(0:Int)-Kv f i (O t) = -(Kv f i (O t))by lia]
  |some t=>refine QH _ ?_;have hqt:=hq t xf;have hb:=hp.lo _ hqt;unfold Zn;refine Jr.mpr ⟨((i:Int),t),hqt,?_⟩;dsimp only;rw[QD,hg,Qo (λz=>hne z.symm)];rfl
 |@left t c h hl=>
  refine QH _ (Q9 _ ?_);have ht:t<cs.length:=(Qg.mp h).1;unfold Yp;refine Jr.mpr ⟨t,Q7.mpr ht,?_⟩;have e:cs.getD t 0=c:=by rw[Qj,h];rfl
  rw[e,Qo (by lia)]
 |@give t h=>refine QH _ (QH _ ?_);unfold Yo;exact Qp.mpr ⟨t,Q7.mpr h,rfl⟩
end
theorem MF{W:Tab}{p:Nat}(h:p<W.length):oIx (.list (W.map Yh)) (.int (p:Int))=O (Yh (ent W p)):=by refine ZC ?_;unfold ent;rw[Qd,Qj,Qf h];rfl
theorem AG{W:Tab}{S:List Stp}(hS:∀s∈S,s.a<W.length/\s.b<W.length)(hW:∀p,(ent W p).2.length<=1000)(hl:W.length<=1000):W6 [.list (W.map Yh),.list (S.map Kp)]=O (.list ((R5 W S).map Yh)):=by
 refine Zo (Z:=[pb (.list (W.map Yh)),pb (.list (S.map Kp)),xg,xg,xg,xg,xg,xg,xg,xg]) xf ?_;unfold TK;refine Kw (ZY (OY xf (show Xh [.list (W.map Yh)]=O (W.map Yh)from rfl)) (Qa xf) xf) ?_;apply K0;apply ZV (λk Z=>∃x3 x4 x5 x6 x7 x8 x9,Z=[pb (.list (W.map Yh)),pb (.list (S.map Kp)),O (.own (((S.take k).foldl (YF W) W).map Yh)),x3,x4,x5,x6,x7,x8,x9])
 case h1=>exact ZD (U3 xf) Yi
 case h0=>exact⟨_,_,_,_,_,_,_,rfl⟩
 case hst=>
  rintro k d Z hk ⟨x3,x4,x5,x6,x7,x8,x9,rfl⟩;rw[Qd]at hk;cases hq:S[k]? with
  |none=>rw[hq]at hk;cases hk
  |some s=>
  rw[hq]at hk;cases hk;have hs:=hS s (Qr hq);have xU:S.take (k+1)=S.take k++[s]:=by rw[JI,hq];rfl
  have hfl:(S.take (k+1)).foldl (YF W) W=YF W ((S.take k).foldl (YF W) W) s:=by rw[xU,List.foldl_append];rfl
  have hTl:∀(R:List Stp)(T:Tab),(R.foldl (YF W) T).length=T.length:=λR=>by
   induction R with
   |nil=>intro T;rfl
   |cons x R ih=>intro T;rw[Ug,ih,Ai]
  generalize hT:(S.take k).foldl (YF W) W=T at hfl⊢;have vI:T.length=W.length:=by rw[←hT,hTl]
  refine⟨_,U8 (Qa xf) xf,?_⟩;unfold M7;refine Kw (V1 (U3 xf) (KO xf (Ki (U8 (Qa xf) xf) (Ki (U8 (Qa xf) xf) (Ki (U8 (Qa xf) xf) (Ki (U8 (Qa xf) xf) KP)))))) ?_;refine Kw (V1 (K2 xf (U3 xf) (MF hs.1)) (KO xf (Ki (U8 (Qa xf) xf) (Ki (U8 (Qa xf) xf) KP)))) ?_;have i0:oIx (Yh (ent T s.b)) (.int 0)=O (.int (ent T s.b).1):=ZC (j:=0) xf;apply KS
  case h1=>exact Kl (Kl (U3 xf) (U3 xf) Zu) (Kl (Oj xf (U3 xf) xf (MF (by rw[vI];exact hs.2))) Ka i0) xf
  case h2=>
   intro hh;have hh:(ent T s.b).1<(ent W s.a).1+s.g:=Qa hh;have hadd:Kf (.list ((ent W s.a).2.map Kp)) (.list [Kp s])=O (.list (((ent W s.a).2++[s]).map Kp)):=by rw[Xj (by rw[Qb];have:=hW s.a;show _+1<=_;lia),Qy];rfl
   refine ZP (Pj (YU (U4 (Kl (U3 xf) (U3 xf) Zu) (U4 (Kl (U3 xf) (Zw (U4 (U3 xf) U9) (Qa xf)) hadd) U9)) (Qa xf)) xf (U3 xf) xf ⟨Int.natCast_nonneg _,by rw[Qb,vI];have:=hs.2;lia⟩ xf) (Zp ⟨O (.pub (Kp s)),pb (.int s.a),pb (.int s.b),pb (.int s.g),pb (Xb s.w),pb (.int (ent W s.a).1),pb (.list ((ent W s.a).2.map Kp)),?_⟩);rw[hfl];unfold YF;rw[Qo hh,List.map_set];show [_,_,O (Sl.own ((T.map Yh).set ((s.b:Int)).toNat _)),_,_,_,_,_,_,_]=_;rw[QD];rfl
  case h3=>intro hh;have hh:¬(ent T s.b).1<(ent W s.a).1+s.g:=Ji hh;refine Zj (Zp ⟨O (.pub (Kp s)),pb (.int s.a),pb (.int s.b),pb (.int s.g),pb (Xb s.w),pb (.int (ent W s.a).1),pb (.list ((ent W s.a).2.map Kp)),?_⟩);rw[hfl];unfold YF;rw[Qv hh];rfl
 case hend=>rintro Z ⟨x3,x4,x5,x6,x7,x8,x9,rfl⟩;refine KW (KN (ZR rfl rfl) ?_);rw[Qb,JS];rfl
theorem Hm{n:Nat}{S:List Stp}(hS:∀s∈S,s.a<n/\s.b<n)(hn:n<=100):XH [.int (n:Nat),.list (S.map Kp)]=O (.list ((KY n S n).map Yh)):=by
 refine Zo (Z:=[pb (.int (n:Nat)),pb (.list (S.map Kp)),xg,xg]) xf ?_;unfold TJ;have hmul:KJ (.list [.tuple [.int 0,.list []]]) (.int (n:Nat))=O (.list ((KY n S 0).map Yh)):=by rw[Pe (by lia)];unfold KY;rw[JR];rfl
 refine Kw (K1 (Kl (Zw (U4 (YU (U4 Ka (U4 (Zw U9 (Qa xf)) U9)) (Qa xf)) U9) (Qa xf)) (U3 xf) hmul) (Qa xf) xf) ?_;apply K0;apply ZV (λk Z=>k<=n/\∃x3,Z=[pb (.int (n:Nat)),pb (.list (S.map Kp)),pb (.list ((KY n S k).map Yh)),x3])
 case h1=>exact VG (U4 (U3 xf) U9) (VP (by lia) (by lia))
 case h0=>exact⟨Uc _,_,rfl⟩
 case hst=>rintro k d Z hk ⟨_,x3,rfl⟩;obtain⟨rfl,hlt⟩:=Te hk;refine⟨_,U8 (Qa xf) xf,?_⟩;unfold M6;have hl:=SW hS k;have hlo:=AG (W:=KY n S k) (S:=S) (by rw[hl];exact hS) (λp=>QR ((PU hS k).1 p) (by lia)) (by rw[hl];lia);exact ZP (K1 (KD (U4 (U3 xf) (U4 (U3 xf) U9)) xf hlo) (Qa xf) xf) (Zp ⟨by lia,_,rfl⟩)
 case hend=>rintro Z ⟨_,x3,rfl⟩;refine KW (KN (U3 rfl) ?_);rw[X0,show((n:Int)-0).toNat=n by lia]
theorem Eh{xs:xk}{i j:Nat}(hij:i<=j)(hj:j<=xs.length):DL.cutD xs (O (i:Int)) (O (j:Int))=(xs.take j).drop i:=by unfold DL.cutD HT.sIx;dsimp only;rw[Qv (by lia),Qv (by lia),QD,QD,Nat.min_eq_left hj,Nat.min_eq_left (show i<=xs.length by lia),List.drop_take]
theorem kT{w:List Stp}(hl:w.length<=1000):∃d,W5 [.list (w.map Kp)]=O d/\∃r,d=.list (r.map Kp)/\((Ms w/\r=[]) ∨ ∃i j,On w i j/\r=(w.take (j+1)).drop i):=by
 refine Wt (Z:=[pb (.list (w.map Kp)),xg,xg,xg]) xf ?_;unfold TH;apply K0;apply ZV (λk Z=>(∃x1 x2 x3,Z=[pb (.list (w.map Kp)),x1,x2,x3])/\∀j'<k,∀i' ≤ j',∀s t,w[i']?=O s->w[j']?=O t->s.a≠t.b)
 case h1=>exact Xu (U4 (U3 xf) U9) Xs
 case h0=>exact⟨⟨_,_,_,rfl⟩,λj' h=>absurd h (JU _)⟩
 case hst=>
  rintro k d Z hk ⟨⟨x1,x2,x3,rfl⟩,hb⟩;obtain⟨z,hz,rfl⟩:=Xi hk;rw[Qd]at hz;cases ht:w[k]? with
  |none=>rw[ht]at hz;cases hz
  |some t=>
  rw[ht]at hz;cases hz;have xN:k<w.length:=(Qg.mp ht).1;rw[Q6];refine⟨_,KO xf (Ki (U8 (Qa xf) xf) (Ki (U8 (Qa xf) xf) KP)),?_⟩;unfold M4;apply ZV (λl Z=>(∃x3,Z=[pb (.list (w.map Kp)),pb (.int (k:Nat)),pb (Kp t),x3])/\∀i'<l,∀s,w[i']?=O s->s.a≠t.b)
  case h1=>exact VG (U4 (Kl (U3 xf) Ka Zu) U9) (VP (by lia) (by lia))
  case h0=>exact⟨⟨_,rfl⟩,λi' h=>absurd h (JU _)⟩
  case hst=>
   rintro l d Z hl2 ⟨⟨x3,rfl⟩,hc⟩;obtain⟨rfl,hlt⟩:=Te hl2;have hlk:l<=k:=by lia
   obtain⟨s,hs⟩:∃s,w[l]?=O s:=⟨_,Qf (by lia)⟩
   refine⟨_,U8 (Qa xf) xf,?_⟩;have zl:(0:Int)+(l:Int)=l:=by lia
   rw[zl];unfold M5;have il:oIx (.list (w.map Kp)) (.int (l:Int))=O (Kp s):=ZC (by rw[Qd,hs];rfl);have i0:oIx (Kp s) (.int 0)=O (.int s.a):=ZC (j:=0) xf;have i1:oIx (Kp t) (.int 1)=O (.int t.b):=ZC (j:=1) xf;apply KS
   case h1=>exact Kl (Kl (K2 xf (U3 xf) il) Ka i0) (K2 xf Ka i1) Wm
   case h2=>
    intro hh;have hh:(s.a:Int)=(t.b:Int):=Qa hh;have xK:YY (.list (w.map Kp)) (O (l:Int)) (O ((k:Int)+1))=O (.list (((w.take (k+1)).drop l).map Kp)):=by rw[VO,show((k:Int)+1)=((k+1:Nat):Int)by lia,Eh (by lia) (by rw[Qb];lia),List.map_drop,List.map_take]
    refine KN (VA (U3 xf) (Y8 (U3 xf)) (Y8 (Kl (U3 xf) Ka Zu)) xK) (RC (RC (WI ⟨_,rfl,_,rfl,.inr ⟨l,k,⟨hlk,xN,λs' t' e1 e2=>?_,hb⟩,rfl⟩⟩)));rw[hs]at e1;rw[ht]at e2;cases e1;cases e2
    lia
   case h3=>
    intro hh;have hh:¬(s.a:Int)=(t.b:Int):=Ji hh;refine Zj (Zp ⟨⟨_,rfl⟩,λi' hi' s' e=>?_⟩);rcases J6.mp hi' with hi'|rfl
    .exact hc i' hi' s' e
    .rw[hs]at e;cases e;lia
  case hend=>
   rintro Z ⟨⟨x3,rfl⟩,hc⟩;refine Zp ⟨⟨_,_,_,rfl⟩,λj' hj' i' hi' s' t' e1 e2=>?_⟩;rcases J6.mp hj' with hj'|rfl
   .exact hb j' hj' i' hi' s' t' e1 e2
   .rw[ht]at e2
    cases e2;exact hc i' (by rw[X0];lia) s' e1
 case hend=>rintro Z ⟨⟨x1,x2,x3,rfl⟩,hb⟩;refine KW (KN (Zw U9 (Qa rfl)) ⟨_,rfl,[],rfl,.inl ⟨λj hj=>hb j (by rw[YH,Qb];exact hj),rfl⟩⟩)
noncomputable def Xq(n:Nat)(s:Stp):Option (Nat×xq):=s.w.map λi=>(i,YI n s.b)
noncomputable def ZE(p:Nat×xq):D:=.tuple [.int (p.1:Nat),Kc p.2]
noncomputable def rot(b:Nat)(r:List Stp):List Stp:=r.drop b++r.take b
theorem Hg(b:Nat)(r:List Stp):(rot b r).Perm r:=by unfold rot;have:=List.perm_append_comm (l₁:=r.drop b) (l₂:=r.take b);rw[Uk]at this;exact this
theorem j8{n:Nat}{r:List Stp}(hl:r.length<=1000):∃b,b<=r.length/\((∃s,r[b]?=O s/\s.a=n)∨(b=0/\∀s∈r,s.a≠n))/\Wc [.int (n:Nat),.list (r.map Kp)]=O (.list (((rot b r).filterMap (Xq n)).map ZE)):=by
 have key:∃d,Wc [.int (n:Nat),.list (r.map Kp)]=O d/\∃b,b<=r.length/\((∃s,r[b]?=O s/\s.a=n)∨(b=0/\∀s∈r,s.a≠n))/\d=.list (((rot b r).filterMap (Xq n)).map ZE):=by
  refine Wt (Z:=[pb (.int (n:Nat)),pb (.list (r.map Kp)),xg,xg,xg,xg,xg,xg,xg,xg]) xf ?_;unfold TF;refine Kw (K1 Ka (Qa xf) xf) ?_;apply K0;apply ZV (λk Z=>∃(b:Nat)(x3 x4:Option Sl),Z=[pb (.int (n:Nat)),pb (.list (r.map Kp)),pb (.int (b:Nat)),x3,x4,xg,xg,xg,xg,xg]/\b<=r.length/\((∃s,r[b]?=O s/\s.a=n)∨(b=0/\∀s∈r.take k,s.a≠n)))
  case h1=>exact Xu (U4 (U3 xf) U9) Xs
  case h0=>exact⟨0,_,_,rfl,Uc _,.inr ⟨rfl,λs h=>by rw[J9]at h;cases h⟩⟩
  case hst=>
   rintro k d Z hk ⟨b,x3,x4,rfl,vH,hb⟩;obtain⟨z,hz,rfl⟩:=Xi hk;rw[Qd]at hz;cases ht:r[k]? with
   |none=>rw[ht]at hz;cases hz
   |some t=>
   rw[ht]at hz;cases hz;have xN:k<r.length:=(Qg.mp ht).1;rw[Q6];refine⟨_,KO xf (Ki (U8 (Qa xf) xf) (Ki (U8 (Qa xf) xf) KP)),?_⟩;unfold MZ;have i0:oIx (Kp t) (.int 0)=O (.int t.a):=ZC (j:=0) xf;apply KS
   case h1=>exact Kl (K2 xf Ka i0) (U3 xf) Wm
   case h2=>intro hh;have hh:(t.a:Int)=(n:Int):=Qa hh;exact ZP (K1 (U3 xf) (Qa xf) xf) (Zp ⟨k,_,_,rfl,by lia,.inl ⟨t,ht,by lia⟩⟩)
   case h3=>
    intro hh;have hh:¬(t.a:Int)=(n:Int):=Ji hh;refine Zj (Zp ⟨b,_,_,rfl,vH,?_⟩);rcases hb with hb|⟨hb,hc⟩
    .exact .inl hb
    .refine .inr ⟨hb,λs hs=>?_⟩
     rw[JI,ht]at hs;rcases QU.mp hs with hs|hs
     .exact hc s hs
     .rw[QZ.mp hs];lia
  case hend=>
   rintro Z ⟨b,x3,x4,rfl,vH,hb⟩;refine KW ?_;have hb':(∃s,r[b]?=O s/\s.a=n)∨(b=0/\∀s∈r,s.a≠n):=by rw[YH,Qb,JS]at hb;exact hb
   refine Kw (ZY (Wn U9 (Qa xf)) (Qa xf) xf) ?_;have c1:YY (.list (r.map Kp)) (O (b:Int)) xg=O (.list ((r.drop b).map Kp)):=by rw[VO,BC (by rw[Qb];exact vH),List.map_drop]
   have c2:YY (.list (r.map Kp)) xg (O (b:Int))=O (.list ((r.take b).map Kp)):=by rw[VO,Em (by rw[Qb];exact vH),List.map_take]
   have c3:Kf (.list ((r.drop b).map Kp)) (.list ((r.take b).map Kp))=O (.list ((rot b r).map Kp)):=by rw[Xj (by rw[Qb,Qb,Jo,QS];lia)];unfold rot;rw[Qy]
   apply K0;apply ZV (λk Z=>∃x6 x7 x8 x9,Z=[pb (.int (n:Nat)),pb (.list (r.map Kp)),pb (.int (b:Nat)),x3,x4,O (.own ((((rot b r).take k).filterMap (Xq n)).map ZE)),x6,x7,x8,x9])
   case h1=>exact ZD (Kl (VA (U3 xf) (Y8 (U3 xf)) Ka c1) (VA (U3 xf) Ka (Y8 (U3 xf)) c2) c3) Yi
   case h0=>exact⟨_,_,_,_,rfl⟩
   case hst=>
    rintro k d Z hk ⟨x6,x7,x8,x9,rfl⟩;rw[Qd]at hk;cases hq:(rot b r)[k]? with
    |none=>rw[hq]at hk;cases hk
    |some s=>
    rw[hq]at hk;cases hk;have xN:k<(rot b r).length:=(Qg.mp hq).1;have vD:(rot b r).length=r.length:=(Hg b r).length_eq;have xU:(rot b r).take (k+1)=(rot b r).take k++[s]:=by rw[JI,hq];rfl
    refine⟨_,KO xf (Ki (U8 (Qa xf) xf) (Ki (U8 (Qa xf) xf) (Ki (U8 (Qa xf) xf) (Ki (U8 (Qa xf) xf) KP)))),?_⟩;unfold M0
    have hsz:((((rot b r).take k).filterMap (Xq n)).map ZE).length<1000000:=by
     rw[Qb];have:=Jq (Xq n) ((rot b r).take k);rw[QS]at this
     lia
    cases hw:s.w with
    |none=>
     apply KS
     case h1=>exact KT (k:=λd=>!isNon d) (x:=Xb xg) (U3 xf)
     case h2=>intro hh;cases hh
     case h3=>
      intro _;refine Zj (Zp ⟨O (.pub (.int s.a)),pb (.int s.b),pb (.int s.g),pb (Xb xg),?_⟩);rw[xU,List.filterMap_append];have:[s].filterMap (Xq n)=[]:=by unfold Xq;rw[JK,hw];rfl
      rw[this,Je];rfl
    |some i=>
     apply KS
     case h1=>exact KT (k:=λd=>!isNon d) (x:=Xb (O i)) (U3 xf)
     case h3=>intro hh;cases hh
     case h2=>
      intro _
      have htest:∀Z:U0,Z[7]?=O (O (.pub (.int (s.b:Int))))->Z[0]?=O (O (.pub (.int (n:Int))))->mIf (ZA oEq 7 (UZ 0)) (U5 .none) (UZ 7) Z=.ok (Kc (YI n s.b)) Z:=λZ h7 h0=>by
       unfold YI;by_cases z:s.b=n
       .rw[Qo z]
        exact Mn (Yu h7 (U3 h0) (by rw[Wm,QT (by rw[z])])) Ka
       .rw[Qv z]
        exact Oi (Yu h7 (U3 h0) (by rw[Wm,QI (by lia)])) (U3 h7)
      refine ZP (XY xf (YU (U4 (U3 xf) (U4 (htest _ xf xf) U9)) (Qa xf)) xf hsz xf) (Zp ⟨O (.pub (.int s.a)),pb (.int s.b),pb (.int s.g),pb (Xb (O i)),?_⟩);rw[xU,List.filterMap_append];have:[s].filterMap (Xq n)=[(i,YI n s.b)]:=by unfold Xq;rw[JK,hw];rfl
      rw[this,Qy];rfl
   case hend=>rintro Z ⟨x6,x7,x8,x9,rfl⟩;refine KW (KN (ZR rfl rfl) ⟨_,rfl,b,vH,hb',?_⟩);rw[Qb,JS]
 obtain⟨d,e,b,h1,h2,rfl⟩:=key;exact⟨b,h1,h2,e⟩
theorem Nc(n:Nat):∀(R:List Stp)(d:LO),(R.filterMap (Xq n)).foldl (λd p=>d.set p.1 p.2) d=R.foldl (app n) d
 |[],d=>rfl
 |s::R,d=>by
  rw[Ug,JK];unfold Xq app;cases s.w with
  |none=>exact Nc n R d
  |some i=>exact Nc n R (d.set i (YI n s.b))
theorem AF{ws:LO}{tk:List (Nat×xq)}(h:∀p∈tk,p.1<ws.length):W9 [Kk ws,.list (tk.map ZE)]=O (Kk (tk.foldl (λd p=>d.set p.1 p.2) ws)):=by
 refine Zo (Z:=[pb (Kk ws),pb (.list (tk.map ZE)),xg,xg,xg]) xf ?_;unfold TR;refine Kw (ZY (OY xf (show Xh [Kk ws]=O (ws.map Kc)from rfl)) (Qa xf) xf) ?_
 have hlen:∀(R:List (Nat×xq))(d:LO),(R.foldl (λd p=>d.set p.1 p.2) d).length=d.length:=λR=>by
  induction R with
  |nil=>intro d;rfl
  |cons p R ih=>intro d;rw[Ug,ih,Jf]
 apply K0;apply ZV (λk Z=>∃x3 x4,Z=[pb (Kk ws),pb (.list (tk.map ZE)),O (.own (((tk.take k).foldl (λd p=>d.set p.1 p.2) ws).map Kc)),x3,x4])
 case h1=>exact ZD (U3 xf) Yi
 case h0=>exact⟨_,_,rfl⟩
 case hst=>
  rintro k d Z hk ⟨x3,x4,rfl⟩;rw[Qd]at hk;cases hq:tk[k]? with
  |none=>rw[hq]at hk;cases hk
  |some p=>
  rw[hq]at hk;cases hk;have hpl:=h p (Qr hq);have xU:tk.take (k+1)=tk.take k++[p]:=by rw[JI,hq];rfl
  refine⟨_,KO xf (Ki (U8 (Qa xf) xf) (Ki (U8 (Qa xf) xf) KP)),?_⟩;unfold MU;refine ZP (Pj (U3 xf) xf (U3 xf) xf ⟨Int.natCast_nonneg _,by rw[Qb,hlen];lia⟩ xf) (Zp ⟨O (.pub (.int (p.1:Nat))),pb (Kc p.2),?_⟩);rw[xU,List.foldl_append];show [_,_,O (Sl.own ((((tk.take k).foldl (λd p=>d.set p.1 p.2) ws).map Kc).set ((p.1:Int)).toNat (Kc p.2))),_,_]=[_,_,O (Sl.own ((((tk.take k).foldl (λd p=>d.set p.1 p.2) ws).set p.1 p.2).map Kc)),_,_];rw[QD,List.map_set]
 case hend=>rintro Z ⟨x3,x4,rfl⟩;refine KW (KN (ZR rfl rfl) ?_);rw[Qb,JS];rfl
def VY(cs:xm)(f:Int×Int->Int)(qs:LP)(ws:LO):Prop:=∀p,p<cs.length+1->(ent (KY (cs.length+1) (YQ cs f qs ws) (cs.length+1)) p).2.length≠cs.length+1
structure Rc(cs:xm)(f:Int×Int->Int)(qs:LP)(ws:LO)(r:List Stp)(b:Nat):Prop where
 rnd:∃x,Path (YQ cs f qs ws) x r x
 nd:(r.map Stp.a).Nodup
 pos:0<KE r
 bl:b<=r.length
 bat:(∃s,r[b]?=O s/\s.a=cs.length)∨(b=0/\∀s∈r,s.a≠cs.length)
noncomputable def Zx(n b:Nat)(r:List Stp):List (Nat×xq):=(rot b r).filterMap (Xq n)
theorem SL(s:Stp)(R:List Stp):KE (s::R)=s.g+KE R:=by show KE ([s]++R)=_;rw[WE,SR]
theorem AE{u v:List Stp}(h:u.Perm v):KE u=KE v:=by
 induction h with
 |nil=>rfl
 |cons x _ ih=>rw[SL,SL,ih]
 |swap x y l=>rw[SL,SL,SL,SL];lia
 |trans _ _ ih1 ih2=>rw[ih1,ih2]
theorem AD{R:List Stp}(h:∀s∈R,s.g=0):KE R=0:=by
 induction R with
 |nil=>rfl
 |cons s R ih=>
  have e:KE (s::R)=s.g+KE R:=by show KE ([s]++R)=_;rw[WE,SR]
  rw[e,h s Qk,ih λx hx=>h x (Qi _ hx)];rfl
section
variable{cs:xm}{ls:L3}{ws:LO}{V:Int->Int->Int}{qs:LP}{f:Int×Int->Int}{m:Nat}
theorem Rc.does(hp:Yr cs.length m qs)(hd:ZS cs qs m ws){r:List Stp}{b:Nat}(h:Rc cs f qs ws r b):ZS cs qs m ((Zx cs.length b r).foldl (λd p=>d.set p.1 p.2) ws)/\Ky f 0 ((Zx cs.length b r).foldl (λd p=>d.set p.1 p.2) ws)=Ky f 0 ws+KE r/\Zx cs.length b r≠[]/\∀p∈Zx cs.length b r,p.1<ws.length:=by
 obtain⟨x,hx⟩:=h.rnd;have hin:∀s∈r,IsSt cs f qs ws s:=λs hs=>Pr hp hd s (hx.mem s hs);have pr:=Hg b r;have wp:∀s∈rot b r,IsSt cs f qs ws s:=λs hs=>hin s (pr.mem_iff.mp hs);have ndR:((rot b r).map Stp.a).Nodup:=(pr.map Stp.a).nodup_iff.mpr h.nd;have pbR:((rot b r).map Stp.b).Perm ((rot b r).map Stp.a):=((pr.map Stp.b).trans (js hx)).trans (pr.map Stp.a).symm
 obtain⟨h1,h2⟩:=CM hp hd wp ndR pbR;unfold Zx;rw[Nc];refine⟨h1,by rw[h2,AE pr],λz=>?_,λp hpm=>?_⟩
 .have:KE r=0:=AD λs hs=>by
   have hw:Xq cs.length s=xg:=by have:=List.filterMap_eq_nil_iff.mp z s (pr.mem_iff.mpr hs);exact this
   cases hin s hs with
   |mv _ _ _=>cases hw
   |left _ _=>rfl
   |give _=>rfl
  have:=h.pos
  lia
 .obtain⟨s,hs,e⟩:=Jr.mp hpm
  cases wp s hs with
  |@mv i o o' hw _ _=>cases e;exact(Qg.mp hw).1
  |left _ _=>cases e
  |give _=>cases e
theorem Np(g:Good cs ls)(hm:ws.length=ls.length)(hp:Yr cs.length ws.length qs)(hd:ZS cs qs ws.length ws)(hq1:qs.length<=500):∃d,Xe [Kr cs ls,.list (qs.map (Zs V)),Kk ws]=O d/\((d=.list []/\VY cs (Kd V) qs ws) ∨ ∃r b,d=.list ((Zx cs.length b r).map ZE)/\Rc cs (Kd V) qs ws r b):=by
 refine Wt (Z:=[pb (Kr cs ls),pb (.list (qs.map (Zs V))),pb (Kk ws),xg,xg,xg]) xf ?_;unfold TD;have c6:=g.c6;have l7:=g.l7;have vc:Kt [.list (cs.map int)]=O (.int cs.length):=by rw[ZJ,Qb]
 have hS:∀s∈YQ cs (Kd V) qs ws,s.a<cs.length+1/\s.b<cs.length+1:=λs hs=>(Pr hp hd s hs).lt hp hd;have vZ:=Hm hS (by lia)
 have vM:=GR (V:=V) g hm hp hd (by lia);refine Kw (K1 (ZQ (U4 (K2 xf Ka Vs) U9) vc) (Qa xf) xf) ?_;have hadd:Kf (.int (cs.length:Int)) (.int 1)=O (.int ((cs.length+1:Nat):Int)):=by rw[Zu];rfl
 apply K0;apply ZV (λk Z=>(∃x4 x5,Z=[pb (Kr cs ls),pb (.list (qs.map (Zs V))),pb (Kk ws),pb (.int cs.length),x4,x5])/\∀p<k,(ent (KY (cs.length+1) (YQ cs (Kd V) qs ws) (cs.length+1)) p).2.length≠cs.length+1)
 case h1=>exact ZD (KD (U4 (Kl (U3 xf) Ka hadd) (U4 (KD (U4 (U3 xf) (U4 (U3 xf) (U4 (U3 xf) U9))) xf vM) U9)) xf vZ) Yi
 case h0=>exact⟨⟨_,_,rfl⟩,λp h=>absurd h (JU _)⟩
 case hst=>
  rintro k d Z hk ⟨⟨x4,x5,rfl⟩,hb⟩;rw[Qd]at hk;cases hq:(KY (cs.length+1) (YQ cs (Kd V) qs ws) (cs.length+1))[k]? with
  |none=>rw[hq]at hk;cases hk
  |some e=>
  rw[hq]at hk;cases hk;have he:ent (KY (cs.length+1) (YQ cs (Kd V) qs ws) (cs.length+1)) k=e:=by unfold ent;rw[Qj,hq];rfl
  refine⟨_,KO xf (Ki (U8 (Qa xf) xf) (Ki (U8 (Qa xf) xf) KP)),?_⟩;unfold MY;have hlw:Kt [.list (e.2.map Kp)]=O (.int e.2.length):=by rw[ZJ,Qb]
  apply KS
  case h1=>exact Kl (ZZ xf hlw) (Kl (U3 xf) Ka hadd) Wm
  case h2=>
   intro hh;have hh:((e.2.length:Nat):Int)=((cs.length+1:Nat):Int):=Qa hh;have hlen:e.2.length=cs.length+1:=by lia
   obtain⟨d,hrw,r,rfl,hr⟩:=kT (w:=e.2) (by lia);have wd:=RG hS (cs.length+1) k;rw[he]at wd;obtain⟨q,vE⟩:=wd.1.path;rcases hr with ⟨hno,rfl⟩|⟨i,j,hra,rfl⟩
   .exact absurd hno (CN hS vE (by lia) (Nat.succ_pos _))
   .have hlr:((e.2.take (j+1)).drop i).length<=1000:=by rw[Jo,QS];lia
    obtain⟨b,vH,hbat,hway⟩:=j8 (n:=cs.length) hlr;have hrg:=jt hS (Nat.succ_pos _) (p:=k) (by rw[he];exact hlen) (by rw[he];exact hra);rw[he]at hrg;obtain⟨x,hx,hgp⟩:=hrg;exact KN (KD (U4 (U3 xf) (U4 (KD (U4 (U3 xf) U9) xf hrw) U9)) xf hway) (RC (WI ⟨_,rfl,.inr ⟨_,b,rfl,⟨⟨x,hx⟩,jZ vE hra,hgp,vH,hbat⟩⟩⟩))
  case h3=>
   intro hh;have hh:¬((e.2.length:Nat):Int)=((cs.length+1:Nat):Int):=Ji hh;refine Zj (Zp ⟨⟨_,_,rfl⟩,λp hpk=>?_⟩);rcases J6.mp hpk with hpk|rfl
   .exact hb p hpk
   .rw[he];lia
 case hend=>rintro Z ⟨⟨x4,x5,rfl⟩,hb⟩;refine KW (KN (Zw U9 (Qa rfl)) ⟨_,rfl,.inl ⟨rfl,λp hpn=>hb p ?_⟩⟩);rw[Qb,SW hS];exact hpn
theorem ME{M:Int}(vU:0<=M)(hM:∀q∈qs,f q<=M):∀(ws:LO)(k:Nat),(∀(i:Nat) t,ws[i]?=O (O t)->(((k+i:Nat):Int),t)∈qs)->Ky f k ws<=ws.length*M
 |[],k,_=>by show(0:Int)<=((0:Nat):Int)*M;rw[show(((0:Nat)):Int)=0 from rfl,Int.zero_mul];exact QY _
 |o::ws,k,h=>by
  have ih:=ME vU hM ws (k+1) λi t e=>by have:=h (i+1) t (by simpa using e);rw[show k+1+i=k+(i+1)by lia];exact this
  have h0:Kv f k o<=M:=by
   cases o with
   |none=>exact vU
   |some t=>exact hM _ (by have:=h 0 t xf;rw[Ur]at this;exact this)
  rw[QC];show Kv f k o+Ky f (k+1) ws<=_;rw[show(((ws.length+1:Nat)):Int)=(ws.length:Int)+1 by lia,Int.add_mul,Int.one_mul]
  lia
theorem Hl(g:Good cs ls)(hm:m=ls.length)(hp:Yr cs.length m qs)(hq1:qs.length<=500){M:Int}(vU:0<=M)(hM:∀q∈qs,Kd V q<=M):∀(N:Nat)(ws:LO)(d:D),ZS cs qs m ws->((d=.list []/\VY cs (Kd V) qs ws) ∨ ∃r b,d=.list ((Zx cs.length b r).map ZE)/\Rc cs (Kd V) qs ws r b) ->
  (m*M-Ky (Kd V) 0 ws<N)->∃vj,ZS cs qs m vj/\VY cs (Kd V) qs vj/\Xl (SE (UZ 3)) Ph N [pb (Kr cs ls),pb (.list (qs.map (Zs V))),pb (Kk ws),pb d]=.nx [pb (Kr cs ls),pb (.list (qs.map (Zs V))),pb (Kk vj),pb (.list [])]
 |0,ws,d,hd,_,hN=>by have:=ME vU hM ws 0 (λi t e=>by rw[Q6];exact hd.wish i t e);rw[hd.len]at this;exact absurd hN (by lia)
 |N+1,ws,d,hd,hg,hN=>by
  rcases hg with ⟨rfl,hst⟩|⟨r,b,rfl,hgr⟩
  .refine⟨ws,hd,hst,?_⟩
   unfold Xl;rw[PH (ds:=[]) (U3 xf)];rfl
  .obtain⟨h1,h2,h3,h4⟩:=hgr.does hp hd
   generalize hws':(Zx cs.length b r).foldl (λd p=>d.set p.1 p.2) ws=vj at h1 h2;have xH:=AF h4;rw[hws']at xH;obtain⟨d',hgw,hg'⟩:=Np (V:=V) (ws:=vj) g (by rw[h1.len,hm]) (by rw[h1.len];exact hp) (by rw[h1.len];exact h1) hq1;obtain⟨ws2,k1,k2,k3⟩:=Hl g hm hp hq1 vU hM N vj d' h1 hg' (by have:=hgr.pos;lia);refine⟨ws2,k1,k2,?_⟩;unfold Xl;rw[PH (ds:=(Zx cs.length b r).map ZE) (U3 xf)]
   have hne:(!((Zx cs.length b r).map ZE).isEmpty)=xi:=by
    cases hw:Zx cs.length b r with
    |nil=>exact absurd hw h3
    |cons _ _=>rfl
   dsimp only;rw[Qo hne];have hb:Ho Ph [pb (Kr cs ls),pb (.list (qs.map (Zs V))),pb (Kk ws),pb (.list ((Zx cs.length b r).map ZE))] (λo=>o=.nx [pb (Kr cs ls),pb (.list (qs.map (Zs V))),pb (Kk vj),pb d']):=by unfold Ph;refine Kw (K1 (KD (U4 (U3 xf) (U4 (U3 xf) U9)) xf xH) (Qa xf) xf) ?_;exact ZP (K1 (KD (U4 (U3 xf) (U4 (U3 xf) (U4 (U3 xf) U9))) xf hgw) (Qa xf) xf) xf
   rw[hb.out];exact k3
theorem jr(g:Good cs ls)(hp:Yr cs.length ls.length qs)(hq1:qs.length<=500){M:Int}(vU:0<=M)(hM:∀q∈qs,Kd V q<=M)(hF:ls.length*M<10 ^ 60):∃d,W4 [Kr cs ls,.list (qs.map (Zs V))]=O d/\∃ws,d=Kk ws/\ZS cs qs ls.length ws/\VY cs (Kd V) qs ws:=by
 refine Wt (Z:=[pb (Kr cs ls),pb (.list (qs.map (Zs V))),xg,xg]) xf ?_;unfold TC;have l7:=g.l7;have xC:Kt [.list (ls.map K3)]=O (.int (ls.length:Nat)):=by rw[ZJ,Qb]
 let ws0:LO:=UL ls.length xg
 have hmul:KJ (.list [.none]) (.int (ls.length:Nat))=O (Kk ws0):=by rw[Pe (by lia)];show _=O (UM ((UL ls.length xg).map Kc));rw[JR];rfl
 have hd0:ZS cs qs ls.length ws0:=⟨by show(UL _ _).length=_;rw[QF],(λi t h=>by
  have h:(UL ls.length (none:xq))[i]?=O (O t):=h;rw[QA]at h;split at h
  .cases h
  .cases h),λk c e=>by
  have h0:ws0.count (O (k:Int))=0:=List.count_eq_zero.mpr λh=>by cases (Uf.mp h).2
  rw[h0];have:=g.c7 c (Qr e)
  show(0:Int)<=c
  lia⟩
 refine Kw (K1 (Kl (Zw (U4 Ka U9) (Qa xf)) (ZQ (U4 (K2 xf Ka Wj) U9) xC) hmul) (Qa xf) xf) ?_;obtain⟨d',hgw,hg'⟩:=Np (V:=V) (ws:=ws0) g hd0.len (by rw[hd0.len];exact hp) (by rw[hd0.len];exact hd0) hq1;refine Kw (K1 (KD (U4 (U3 xf) (U4 (U3 xf) (U4 (U3 xf) U9))) xf hgw) (Qa xf) xf) ?_
 have h0:∀(n k:Nat),Ky (Kd V) k (UL n xg)=0:=λn=>by
  induction n with
  |zero=>intro k;rfl
  |succ n ih=>intro k;rw[Q0];show 0+Ky (Kd V) (k+1) (UL n xg)=0;rw[ih];rfl
 have hfu:ls.length*M-Ky (Kd V) 0 ws0<(Wg:Nat):=by
  have e:Ky (Kd V) 0 ws0=0:=h0 _ _;have e2:((Wg:Nat):Int)=10 ^ 60:=by unfold Wg;rfl
  rw[e,e2]
  lia
 obtain⟨vj,k1,k2,k3⟩:=Hl g xf hp hq1 vU hM Wg ws0 d' hd0 hg' hfu;refine Kw k3 ?_;exact KN (U3 xf) ⟨_,rfl,vj,rfl,k1,k2⟩
end
section
variable{cs:xm}{ls:L3}{as ps:xm}
theorem MD(g:Good cs ls):(KH 0 ls).length<=42:=by rw[(RJ ls 0).length_eq];exact Po g
end
section
variable{cs:xm}{ls:L3}
def Rb(cs:xm)(ls:L3)(j:Nat)(d:D):Prop:=∃ws:LO,d=Kk ws/\ws.length=j/\(∀(i:Nat) t rs,ws[i]?=O (O t)->ls[i]?=O rs->t∈rs.flatten)/\∀(k:Nat) c,cs[k]?=O c->((ws.count (O (k:Int)):Nat):Int)<=c
theorem Hk{ws:LO}{o:xq}{rs:List xm}(hi:ls[ws.length]?=O rs)(h1:∀(i:Nat) t rs,ws[i]?=O (O t)->ls[i]?=O rs->t∈rs.flatten)(h2:∀(k:Nat) c,cs[k]?=O c->((ws.count (O (k:Int)):Nat):Int)<=c)(ho:∀t,o=O t->t∈rs.flatten)(hc:∀(k:Nat) c,o=O (k:Int)->cs[k]?=O c->((ws.count (O (k:Int)):Nat):Int)<c):Rb cs ls (ws.length+1) (.list (ws.map Kc++[Kc o])):=by
 refine⟨ws++[o],by unfold Kk;rw[Qy];rfl,by rw[Qm];rfl,qb h1 hi ho,λk c e=>?_⟩;rw[List.count_append,List.count_singleton];split
 .rename_i z
  have:=hc k c (by simpa using z) e
  lia
 .have:=h2 k c e
  lia
end
section
variable{cs:xm}{ls:L3}
theorem OO:∀{a b:LO},a.map Kc=b.map Kc->a=b
 |[],[],_=>rfl
 |[],_::_,h=>by cases h
 |_::_,[],h=>by cases h
 |x::a,y::b,h=>by
  rw[Qu,Qu,List.cons.injEq]at h;rw[OO h.2];cases x with
  |none=>cases y with
   |none=>rfl
   |some _=>cases h.1
  |some _=>cases y with
   |none=>cases h.1
   |some _=>cases h.1;rfl
abbrev Ra(cs:xm)(ls:L3)(j:Nat)(ws:LO):Prop:=ws.length=j/\(∀(i:Nat) t rs,ws[i]?=O (O t)->ls[i]?=O rs->t∈rs.flatten)/\∀(k:Nat) c,cs[k]?=O c->((ws.count (O (k:Int)):Nat):Int)<=c
abbrev Md(cs:xm)(ls:L3)(j:Nat)(ds:xk)(a:Nat)(es:xk):Prop:=∀a'<a,∀ws,ds[a']?=O (Kk ws)->∀o,Ra cs ls (j+1) (ws++[o])->Kk (ws++[o])∈es
abbrev Fv(cs:xm)(ls:L3)(j:Nat)(Z:U0):Prop:=∃(s1 x2 x3 x4 x5:Option Sl)(ds:xk),Z=[pb (Kr cs ls),s1,x2,x3,x4,x5]/\(s1=O (.pub (.list ds))∨s1=O (.own ds))/\ds.length<=4 ^ j/\(∀d∈ds,Rb cs ls j d)/\∀ws,Ra cs ls j ws->Kk ws∈ds
abbrev NN(cs:xm)(ls:L3)(j:Nat)(ds:xk)(a:Nat)(Z:U0):Prop:=∃(es:xk)(y4 y5:Option Sl),Z=[pb (Kr cs ls),pb (.list ds),pb (.int j),O (.own es),y4,y5]/\es.length<=4*a/\(∀d∈es,Rb cs ls (j+1) d)/\Md cs ls j ds a es
abbrev NM(cs:xm)(ls:L3)(j:Nat)(ds:xk)(ws th:LO)(a b:Nat)(Z:U0):Prop:=∃(es:xk)(y5:Option Sl),Z=[pb (Kr cs ls),pb (.list ds),pb (.int j),O (.own es),pb (Kk ws),y5]/\es.length<=4*a+b/\(∀d∈es,Rb cs ls (j+1) d)/\Md cs ls j ds a es/\∀b'<b,∀u,th[b']?=O u->Ra cs ls (j+1) (ws++[u])->Kk (ws++[u])∈es
theorem AC{ws:LO}{o:xq}{j:Nat}(h:Ra cs ls (j+1) (ws++[o])):Ra cs ls j ws:=by
 obtain⟨h1,h2,h3⟩:=h;rw[Qm]at h1;refine⟨by simpa using h1,λi t rs e er=>?_,λk c e=>?_⟩
 .have hi:=(Qg.mp e).1
  exact h2 i t rs (by rw[Qw hi];exact e) er
 .have:=h3 k c e
  rw[List.count_append]at this
  lia
theorem CI(g:Good cs ls)(hn:cs.length<4)(hm:ls.length<=4):∃r,WT [Kr cs ls]=O r/\∃ds,r=.list ds/\ds.length<=256/\(∀d∈ds,∃ws,d=Kk ws/\Deal cs ls ws)/\∀ws,Deal cs ls ws->Kk ws∈ds:=by
 refine Wt (Z:=[pb (Kr cs ls),xg,xg,xg,xg,xg]) xf ?_;unfold Tn;refine Kw (ZY (Wn (U4 (Zw U9 (Qa xf)) U9) (Qa xf)) (Qa xf) xf) ?_
 let S0:Option Sl:=O (.pub (Kr cs ls))
 apply K0;apply ZV (Fv cs ls)
 case h1=>exact VG (U4 (ZQ (U4 (K2 xf Ka Wj) U9) ZJ) U9) (VP (by rw[Qb];lia) (by lia))
 case h0=>
  refine⟨_,xg,xg,xg,xg,[.list []],rfl,.inr xf,Qs _,λd hd=>?_,λws hw=>?_⟩
  .rw[QZ.mp hd]
   exact⟨[],rfl,rfl,λi t rs e=>by simp at e,λk c e=>by have:=g.c7 c (List.mem_of_getElem? e);simp;lia⟩
  .rw[List.length_eq_zero_iff.mp hw.1]
   exact QZ.mpr xf
 case hst=>
  rintro j d Z hj ⟨s1,x2,x3,x4,x5,ds,rfl,hs1,h4,hp,hall⟩;obtain⟨rfl,xX⟩:=Te hj;rw[Qb]at xX;have wo:j<ls.length:=by lia
  have h16:4 ^ j<=64:=by
   have:j=0∨j=1∨j=2∨j=3:=by lia
   rcases this with rfl|rfl|rfl|rfl<;>decide
  have hls:ls[j]?=O ls[j]:=Qf wo;have gr:=g.rk _ (JP wo);have hfl:=OS gr;refine⟨_,U8 (Qa xf) xf,?_⟩;unfold MQ;rw[Uq]
  let S2:Option Sl:=O (.pub (.int j))
  refine Kw (Z1:=[S0,s1,S2,O (.own []),x4,x5]) (ZY (Wn U9 (Qa xf)) (Qa xf) xf) ?_
  let S1:Option Sl:=O (.pub (.list ds))
  have hv:UZ 1 [S0,s1,S2,O (.own []),x4,x5]=.ok (.list ds) [S0,S1,S2,O (.own []),x4,x5]:=by
   rcases hs1 with rfl|rfl
   .exact U3 xf
   .exact ZR xf xf
  apply K0;apply ZV (NN cs ls j ds)
  case h1=>exact ZD hv Yi
  case h0=>exact⟨[],x4,x5,rfl,Qs _,(λd h=>by cases h),λa' h=>absurd h (JU _)⟩
  case hst=>
   rintro a d Z ha ⟨es,y4,y5,rfl,he4,hep,vR⟩;have hal:a<ds.length:=(Qg.mp ha).1;obtain⟨ws,rfl,xL,hw1,wf⟩:=hp d (Qr ha);refine⟨_,U8 (Qa xf) xf,?_⟩;unfold MR
   let S4:Option Sl:=O (.pub (Kk ws))
   obtain⟨th,vp⟩:∃th:LO,th=none::(YR ls[j].flatten).map O:=⟨_,rfl⟩
   have vL:th.length<=4:=by rw[vp,QC,Qb,(X1 _).length_eq];lia
   have hit:Kf (.list [.none]) (.list ((YR ls[j].flatten).map int))=O (.list (th.map Kc)):=by rw[Xj (by rw[Qb,(X1 _).length_eq];show 1+_<=_;lia),vp];show _=O (UM (.none::((YR ls[j].flatten).map O).map Kc));rw[QW];rfl
   have hw:=qc (cs:=cs) hls (by lia);apply ZV (NM cs ls j ds ws th a)
   case h1=>exact ZD (Kl (Zw (U4 Ka U9) (Qa xf)) (KD (U4 (U3 xf) (U4 (U3 xf) U9)) xf hw) hit) Yi
   case h0=>exact⟨es,y5,rfl,he4,hep,vR,λb' h=>absurd h (JU _)⟩
   case hst=>
    rintro b d Z hb ⟨fs,z5,rfl,hf4,hfp,hfh,wu⟩;rw[Qd]at hb;cases hz:th[b]? with
    |none=>rw[hz]at hb;cases hb
    |some u=>
    rw[hz]at hb;cases hb;have vH:b<th.length:=(Qg.mp hz).1;refine⟨_,U8 (Qa xf) xf,?_⟩;unfold MS;generalize hQ:Vw (NN cs ls j ds (a+1)) _=Q
    have wB:∀hg:Rb cs ls (j+1) (.list (ws.map Kc++[Kc u])),Ho (ZG 3 (U6 Kf (UZ 4) (Kx (U2 (UZ 5) (U1))))) [S0,S1,S2,O (.own fs),S4,pb (Kc u)] (Vw (NM cs ls j ds ws th a (b+1)) Q):=by
     intro hg;refine ZP (XY xf (Kl (U3 xf) (Zw (U4 (U3 xf) U9) (Qa xf)) (Xj (x:=ws.map Kc) (by rw[Qb];show _+1<=_;lia))) xf (by lia) xf) (Zp ⟨fs++[.list (ws.map Kc++[Kc u])],pb (Kc u),rfl,by rw[Qm];show _+1<=_;lia,λx hx=>?_,λa' h vs hv o ho=>Q9 _ (hfh a' h vs hv o ho),λb' h v hv hpv=>?_⟩)
     .rcases QU.mp hx with h|h
      .exact hfp x h
      .rw[QZ.mp h];exact hg
     .by_cases wz:b'=b
      .subst wz
       rw[hz]at hv;cases hv;refine QH _ (QZ.mpr ?_);unfold Kk;rw[Qy];rfl
      .exact Q9 _ (wu b' (by lia) v hv hpv)
    cases u with
    |none=>
     refine KS (b:=xi) (Z1:=[S0,S1,S2,O (.own fs),S4,O (.pub .none)]) (Ex (KT (k:=isNon) (x:=PyData.none) (U3 xf))) (λ_=>wB ?_) λz=>by cases z
     have:=Hk (o:=xg) (rs:=ls[j]) (by rw[xL];exact hls) hw1 wf (λt e=>by cases e) (λk c e=>by cases e);rw[xL]at this;exact this
    |some t=>
     have htm:t∈ls[j].flatten:=by
      have hm:=Qr hz;rw[vp]at hm;rcases QL.mp hm with h|h
      .cases h
      .obtain⟨t',ht',e⟩:=Qp.mp h
       cases e;exact(X1 _).mem_iff.mp ht'
     have htn:=gr.flat t htm;obtain⟨k,rfl⟩:∃k:Nat,t=k:=⟨t.toNat,by lia⟩
     have xN:k<cs.length:=by lia
     have hct:oIx (.list (cs.map int)) (.int (k:Int))=O (.int (cs.getD k 0)):=ON xN;have hcg:cs[k]?=O (cs.getD k 0):=by rw[Qj,Qf xN];rfl
     refine KS (b:=decide (((ws.count (O (k:Int)):Nat):Int)<cs.getD k 0)) (Z1:=[S0,S1,S2,O (.own fs),S4,pb (.int k)]) (XR (KT (k:=isNon) (x:=int k) (U3 xf)) (Kl (Ly (U3 xf) (U4 (U3 xf) U9) Gn) (Kl (K2 xf Ka Vs) (U3 xf) hct) xf)) (λhh=>wB ?_) λhh=>?_
     .have hlt:((ws.count (O (k:Int)):Nat):Int)<cs.getD k 0:=Qa hh
      have:=Hk (cs:=cs) (o:=O (k:Int)) (rs:=ls[j]) (by rw[xL];exact hls) hw1 wf (λt' e=>by cases e;exact htm) (λk' c e ec=>by
       have e2:k=k':=by injection e with e;lia
       subst e2;rw[hcg]at ec;cases ec;exact hlt)
      rw[xL]at this;exact this
     .refine Zj (Zp ⟨fs,pb (.int k),rfl,by lia,hfp,hfh,λb' h v hv hpv=>?_⟩)
      by_cases wz:b'=b
      .subst wz
       rw[hz]at hv;cases hv;have h1:=hpv.2.2 k _ hcg;rw[List.count_append,List.count_singleton]at h1;have h2:=Ji hh;rw[if_pos (by simp)]at h1
       lia
      .exact wu b' (by lia) v hv hpv
   case hend=>
    rintro Z ⟨fs,z5,rfl,hf4,hfp,hfh,wu⟩;rw[Qb]at hf4 wu;refine Zp ⟨fs,_,_,rfl,by lia,hfp,λa' h vs hv o ho=>?_⟩;by_cases haa:a'=a
    .subst haa
     rw[ha]at hv;have e:ws=vs:=OO (by injection hv with hv;exact(PyData.list.injEq _ _).mp hv);subst e
     have hom:o∈th:=by
      rw[vp];cases o with
      |none=>exact Qk
      |some t=>have:=ho.2.1 ws.length t ls[j] (by rw[Qt (Qs _),Nat.sub_self];rfl) (by rw[xL];exact hls);exact Qi _ (List.mem_map_of_mem ((X1 _).mem_iff.mpr this))
     obtain⟨b',hb',e⟩:=Um.mp hom;exact wu b' hb' o (by rw[Qf hb',e]) ho
    .exact hfh a' (by lia) vs hv o ho
  case hend=>
   rintro Z ⟨es,y4,y5,rfl,he4,hep,vR⟩;refine KW (ZP (K1 (ZR rfl rfl) (Qa rfl) rfl) (Zp ⟨_,_,_,_,_,es,rfl,.inl rfl,?_,hep,λvs hv=>?_⟩))
   .rw[Nat.pow_succ]
    lia
   .rcases List.eq_nil_or_concat vs with rfl|⟨ws,o,rfl⟩
    .have:=hv.1;cases this
    .rw[List.concat_eq_append]at hv⊢
     obtain⟨a',ha',e⟩:=Um.mp (hall ws (AC hv));exact vR a' ha' ws (by rw[Qf ha',e]) o hv
 case hend=>
  rintro Z ⟨s1,x2,x3,x4,x5,ds,rfl,hs1,h4,hp,hall⟩;rw[X0,Qb,show((ls.length:Int)-0).toNat=ls.length by lia]at h4 hp hall
  have h64:4 ^ ls.length<=256:=by
   have:=g.l1;have:ls.length=1∨ls.length=2∨ls.length=3∨ls.length=4:=by lia
   rcases this with e|e|e|e<;>rw[e]<;>decide
  have fin:∃d,(Out.rt (.list ds))=.rt d/\∃ds,d=.list ds/\ds.length<=256/\(∀d∈ds,∃ws,d=Kk ws/\Deal cs ls ws)/\∀ws,Deal cs ls ws->Kk ws∈ds:=⟨_,rfl,ds,rfl,by lia,(λd hd=>by obtain⟨ws,e,h1,h2,h3⟩:=hp d hd;exact⟨ws,e,⟨h1,h2,h3⟩⟩),λws dw=>hall ws ⟨dw.len,dw.wish,dw.cop⟩⟩
  rcases hs1 with rfl|rfl
  .exact KW (KN (U3 xf) fin)
  .exact KW (KN (ZR xf xf) fin)
end
theorem Hf{f:Int×Int->Int}{ps:xm}:∀(ws:LO)(as:xm)(k:Nat),as.length=ws.length->(∀a∈as,0<=a)->(∀(i:Nat) t,ws[i]?=O (O t)->f (((k+i:Nat):Int),t)<=as.getD i 0+ps.getD t.toNat 0)->Ky f k ws<=as.sum+pz ps ws
 |[],[],k,_,_,_=>by show(0:Int)<=0+0;lia
 |o::ws,a::as,k,hl,ha,h=>by
  have ih:=Hf (f:=f) (ps:=ps) ws as (k+1) (by simpa using hl) (λx hx=>ha x (List.mem_cons_of_mem _ hx)) λi t e=>by have:=h (i+1) t (by simpa using e);rw[show k+1+i=k+(i+1)by lia];simpa using this
  have h0:=ha a Qk;rw[Jd];cases o with
  |none=>
   show 0+Ky f (k+1) ws<=a+as.sum+(0+pz ps ws)
   lia
  |some t=>
   have h1:=h 0 t xf;have h1:f ((k:Int),t)<=a+ps.getD t.toNat 0:=by simpa using h1
   show f ((k:Int),t)+Ky f (k+1) ws<=a+as.sum+(ps.getD t.toNat 0+pz ps ws)
   lia
 |[],_::_,_,hl,_,_=>by cases hl
 |_::_,[],_,hl,_,_=>by cases hl
section
variable{cs:xm}{ls:L3}{ws:LO}{qs:LP}{f:Int×Int->Int}{m:Nat}{as ps:xm}
theorem AB(hp:Yr cs.length m qs)(hd:ZS cs qs m ws)(ok:OkP cs.length m (λa b=>f (a,b)) qs 1 as ps):Ky f 0 ws<=Rj cs as ps:=by
 have h1:=Hf (f:=f) (ps:=ps) ws as 0 (by rw[ok.la,hd.len]) ok.aa λi t e=>by have:=ok.le _ (hd.wish i t e);rw[Q6];have e1:((i:Int)).toNat=i:=QD i;rw[Int.one_mul]at this;dsimp only at this;rw[e1]at this;exact this
 have vL:∀t,O t∈ws->0<=t/\t<cs.length:=λt ht=>by obtain⟨i,hi⟩:=List.mem_iff_getElem?.mp ht;have:=hp.lo _ (hd.wish i t hi);exact⟨this.2.2.1,this.2.2.2⟩
 rw[Nd ws vL]at h1;unfold Rj;rw[Gg _ _ ok.lp]
 have h2:Zm cs.length (λk=>((ws.count (O (k:Int)):Nat):Int)*ps.getD k 0)<=Zm cs.length λk=>cs.getD k 0*ps.getD k 0:=Pc _ λk hk=>by
  have hc:cs[k]?=O (cs.getD k 0):=by rw[Qj,Qf hk];rfl
  have hk2:0<=ps.getD k 0:=by rw[Qj,Qf (by rw[ok.lp];exact hk)];exact ok.pp _ (JP _)
  exact Jt (hd.cop k _ hc) hk2
 lia
theorem Ge(hp:Yr cs.length m qs)(hd:ZS cs qs m ws)(st:VY cs f qs ws){us:LO}(hu:ZS cs qs m us):Ky f 0 us<=Ky f 0 ws:=by obtain⟨ok,e⟩:=CJ hp hd (Pr hp hd) (Ac hp hd) (V:=λp=>(ent (KY (cs.length+1) (YQ cs f qs ws) (cs.length+1)) p).1) (λ_=>rfl) st;have:=AB hp hu ok;rw[e]at this;exact this
end
section
variable{cs:xm}{ls:L3}{ws:LO}{qs:LP}{V:Int->Int->Int}
noncomputable def prW(cs:xm)(f:Int×Int->Int)(qs:LP)(ws:LO)(p:Nat):Int:=(ent (KY (cs.length+1) (YQ cs f qs ws) (cs.length+1)) p).1
theorem AA(g:Good cs ls)(hp:Yr cs.length ls.length qs)(hd:ZS cs qs ls.length ws)(hq1:qs.length<=500):W3 [Kr cs ls,.list (qs.map (Zs V)),Kk ws]=O (.list (((UK cs.length).map (prW cs (Kd V) qs ws)).map int)):=by
 refine Zo (Z:=[pb (Kr cs ls),pb (.list (qs.map (Zs V))),pb (Kk ws),xg,xg]) xf ?_;unfold TB;have c6:=g.c6;have hS:∀s∈YQ cs (Kd V) qs ws,s.a<cs.length+1/\s.b<cs.length+1:=λs hs=>(Pr hp hd s hs).lt hp hd;have vc:Kt [.list (cs.map int)]=O (.int cs.length):=by rw[ZJ,Qb]
 have has:Xf [Kr cs ls,.list (qs.map (Zs V)),Kk ws]=O (.list ((YQ cs (Kd V) qs ws).map Kp)):=GR g hd.len (by rw[hd.len];exact hp) (by rw[hd.len];exact hd) (by lia);have vZ:=Hm hS (by lia);generalize hT:KY (cs.length+1) (YQ cs (Kd V) qs ws) (cs.length+1)=T at vZ;have hTl:T.length=cs.length+1:=by rw[←hT];exact SW hS _
 refine Kw (K1 (ZQ (U4 (K2 xf Ka Vs) U9) vc) (Qa xf) xf) ?_;refine Kw (K1 (KD (U4 (Kl (U3 xf) Ka Zu) (U4 (KD (U4 (U3 xf) (U4 (U3 xf) (U4 (U3 xf) U9))) xf has) U9)) xf vZ) (Qa xf) xf) ?_
 have hcd:DL.cutD (T.map Yh) xg (O (cs.length:Int))=(T.take cs.length).map Yh:=by
  have h2:HT.sIx (T.map Yh).length (T.map Yh).length (O (cs.length:Int))=cs.length:=by
   rw[Qb,hTl];unfold HT.sIx;simp
   lia
  unfold DL.cutD;rw[h2,show HT.sIx (T.map Yh).length 0 xg=0 from rfl,List.drop_zero,Nat.sub_zero,List.map_take]
 have xK:YY (.list (T.map Yh)) xg (O (cs.length:Int))=O (.list ((T.take cs.length).map Yh)):=by rw[VO,hcd]
 have hc:Zk (gT 2 (gNC (gN 5) (gNC (gN 6) (gN0)))) (U5 xi) (UZ 5) ((T.take cs.length).map Yh) (Kz [pb (Kr cs ls),pb (.list (qs.map (Zs V))),pb (Kk ws),pb (.int cs.length),pb (.list (T.map Yh))]++UL 2 xg) []=O ([]++((UK cs.length).map (prW cs (Kd V) qs ws)).map int):=by
  refine Xo (λZ=>∃x y,Z=[pb (Kr cs ls),pb (.list (qs.map (Zs V))),pb (Kk ws),pb (.int cs.length),pb (.list (T.map Yh)),x,y]) _ _ _ _ ?_ ?_ ⟨xg,xg,rfl⟩ ?_
  .rw[Qb,Qb,Qb,QS,Qq];lia
  .rintro i d e hd' he Z ⟨x,y,rfl⟩
   rw[Qd,Qd]at he
   have xD:i<cs.length:=by
    have:=(Qg.mp hd').1;rw[Qb,QS]at this
    lia
   rw[Q3 xD]at he;cases he;rw[Qd,List.getElem?_take_of_lt xD,Qf (by lia)]at hd';cases hd';have hv:prW cs (Kd V) qs ws i=T[i].1:=by unfold prW ent;rw[hT,Qj,Qf (by lia)];rfl
   rw[hv];exact⟨_,KO xf (Ki (U8 (Qa xf) xf) (Ki (U8 (Qa xf) xf) KP)),rfl,U3 xf,_,_,rfl⟩
  .rw[QG,Qb,QS];lia
 exact KN (KT (Yj (ZD (VA (U3 xf) Ka (Y8 (U3 xf)) xK) Yi) hc)) xf
theorem EY{n m:Nat}(hp:Yr n m qs)(hm:m<=1000)(P:Nat->Int):W0 [.int (m:Nat),.list (qs.map (Zs V)),.list (((UK n).map P).map int)]=O (.list (((UK m).map λi:Nat=>ZO (Kd V) P qs (i:Int)).map int)):=by
 refine Zo (Z:=[pb (.int (m:Nat)),pb (.list (qs.map (Zs V))),pb (.list (((UK n).map P).map int)),xg,xg,xg,xg]) xf ?_;unfold Tz;refine Kw (ZY (OE (n:=m) (Zw (U4 Ka U9) (Qa xf)) (U3 xf) hm) (Qa xf) xf) ?_;apply K0;apply ZV (λk Z=>∃x4 x5 x6,Z=[pb (.int (m:Nat)),pb (.list (qs.map (Zs V))),pb (.list (((UK n).map P).map int)),O (.own (((UK m).map λi:Nat=>ZO (Kd V) P (qs.take k) (i:Int)).map int)),x4,x5,x6])
 case h1=>exact ZD (U3 xf) Yi
 case h0=>
  refine⟨xg,xg,xg,?_⟩
  have e:(UL m (int 0))=((UK m).map λi:Nat=>ZO (Kd V) P (qs.take 0) (i:Int)).map int:=by
   rw[QW];apply List.ext_getElem
   .rw[QF,Qb,Qq]
   .intro i h1 h2
    rw[List.getElem_replicate,JQ];rfl
  rw[←e];rfl
 case hst=>
  rintro k d Z hk ⟨x4,x5,x6,rfl⟩;rw[Qd]at hk;cases hq:qs[k]? with
  |none=>rw[hq]at hk;cases hk
  |some q=>
  rw[hq]at hk;cases hk;have hb:=hp.lo q (Qr hq);obtain⟨⟨a,ha⟩,⟨t,ht⟩⟩:(∃a:Nat,q.1=a)/\∃t:Nat,q.2=t:=⟨⟨q.1.toNat,by lia⟩,⟨q.2.toNat,by lia⟩⟩
  have ham:a<m:=by lia
  have htn:t<n:=by lia
  refine⟨_,KO xf (Ki (U8 (Qa xf) xf) (Ki (U8 (Qa xf) xf) (Ki (U8 (Qa xf) xf) KP))),?_⟩;unfold Lc;have h1:oIx (.list (((UK m).map λi:Nat=>ZO (Kd V) P (qs.take k) (i:Int)).map int)) (.int q.1)=O (.int (ZO (Kd V) P (qs.take k) (a:Int))):=by rw[ha];exact ZC (by rw[Qd,Qd,Q3 ham];rfl)
  have h2:oIx (.list (((UK n).map P).map int)) (.int q.2)=O (.int (P t)):=by rw[ht];exact ZC (by rw[Qd,Qd,Q3 htn];rfl)
  refine ZP (Pj (ZQ (U4 (Oj xf (U3 xf) xf h1) (U4 (Kl (U3 xf) (K2 xf (U3 xf) h2) Y4) U9)) ML) xf (U3 xf) xf ⟨hb.1,by rw[Qb,Qb,Qq];exact hb.2.1⟩ xf) (Zp ⟨O (.pub (.int q.1)),pb (.int q.2),pb (.int (V q.1 q.2)),?_⟩);have e:∀i:Nat,ZO (Kd V) P (qs.take (k+1)) (i:Int)=if q.1=(i:Int)then max (ZO (Kd V) P (qs.take k) (i:Int)) (Kd V q-P q.2.toNat)else ZO (Kd V) P (qs.take k) (i:Int):=λi=>by unfold ZO;rw[List.take_add_one,hq,List.foldl_append];rfl
  have e2:((((UK m).map λi:Nat=>ZO (Kd V) P (qs.take k) (i:Int)).map int).set q.1.toNat (.int (if V q.1 q.2-P t > ZO (Kd V) P (qs.take k) (a:Int)then V q.1 q.2-P t else ZO (Kd V) P (qs.take k) (a:Int))))=((UK m).map λi:Nat=>ZO (Kd V) P (qs.take (k+1)) (i:Int)).map int:=by
   apply List.ext_getElem
   .rw[Jf,Qb,Qb,Qb,Qb]
   .intro i h1 h2
    have hi:i<m:=by rw[Qb,Qb,Qq]at h2;exact h2
    rw[List.getElem_set,JQ,JQ,JQ,JQ,Ud,e];by_cases hia:a=i
    .subst hia
     rw[Qo (by lia),Qo ha,show q.2.toNat=t by lia]
     congr 1
     show _=max _ (V q.1 q.2-P t)
     split<;>lia
    .rw[Qv (by lia),Qv (by lia)]
  rw[←e2];rfl
 case hend=>rintro Z ⟨x4,x5,x6,rfl⟩;refine KW (KN (ZR rfl rfl) ?_);rw[Qb,JS]
noncomputable abbrev Sj(m:Nat)(f:Int×Int->Int)(P:Nat->Int)(qs:LP):xm:=(UK m).map λi:Nat=>ZO f P qs (i:Int)
theorem GQ(g:Good cs ls)(hp:Yr cs.length ls.length qs)(hd:ZS cs qs ls.length ws)(hq1:qs.length<=500):XG [Kr cs ls,.list (qs.map (Zs V)),Kk ws]=O (WK 1 (Sj ls.length (Kd V) (prW cs (Kd V) qs ws) qs) ((UK cs.length).map (prW cs (Kd V) qs ws))):=by
 refine Zo (Z:=[pb (Kr cs ls),pb (.list (qs.map (Zs V))),pb (Kk ws),xg]) xf ?_;unfold Tx;have l7:=g.l7;have xC:Kt [.list (ls.map K3)]=O (.int ls.length):=by rw[ZJ,Qb]
 refine Kw (K1 (KD (U4 (U3 xf) (U4 (U3 xf) (U4 (U3 xf) U9))) xf (AA g hp hd hq1)) (Qa xf) xf) ?_;exact KN (YU (U4 Ka (U4 (KD (U4 (ZQ (U4 (K2 xf Ka Wj) U9) xC) (U4 (U3 xf) (U4 (U3 xf) U9))) xf (EY hp (by omega) _)) (U4 (U3 xf) U9))) (Qa xf)) xf
theorem SV(g:Good cs ls):Yr cs.length ls.length (KH 0 ls) where
 nd:=Gh ls 0 λrs hr=>(g.rk rs hr).once
 lo:=λq hq=>by have:=E1 g q hq;exact⟨this.1.1,this.1.2,this.2.1,this.2.2⟩
theorem xb{o:Ord}{old:xA}{ts:xm}(g:Good cs ls)(ga:Yz cs.length ls.length old ts):∃ws,WZ [Kr cs ls,KR o old ts]=O (.tuple [Kk ws,WK 1 (Sj ls.length (Kd (K8 ls o old ts)) (prW cs (Kd (K8 ls o old ts)) (KH 0 ls) ws) (KH 0 ls)) ((UK cs.length).map (prW cs (Kd (K8 ls o old ts)) (KH 0 ls) ws))])/\ZS cs (KH 0 ls) ls.length ws/\VY cs (Kd (K8 ls o old ts)) (KH 0 ls) ws:=by have hq:=MD g;have l7:=g.l7;obtain⟨d,hb,ws,rfl,hd,hst⟩:=jr (V:=K8 ls o old ts) g (SV g) (by omega) (M:=18446744073709551616) (by decide) (λq hq=>Int.le_of_lt (CO g ga hq).2) (by omega);refine⟨ws,?_,hd,hst⟩;refine Zo (Z:=[pb (Kr cs ls),pb (KR o old ts),xg,xg]) xf ?_;unfold Tw;refine Kw (K1 (KD (U4 (U3 xf) (U4 (U3 xf) U9)) xf (GJ g ga)) (Qa xf) xf) ?_;refine Kw (K1 (KD (U4 (U3 xf) (U4 (U3 xf) U9)) xf hb) (Qa xf) xf) ?_;exact KN (YU (U4 (U3 xf) (U4 (KD (U4 (U3 xf) (U4 (U3 xf) (U4 (U3 xf) U9))) xf (GQ g (SV g) hd (by omega))) U9)) (Qa xf)) xf
end
section
variable{cs:xm}{ls:L3}{ws:LO}
theorem jX{o:Ord}{old:xA}{ts:xm}(g:Good cs ls)(ga:Yz cs.length ls.length old ts)(hd:ZS cs (KH 0 ls) ls.length ws):∃d,WY [Kr cs ls,KR o old ts,Kk ws]=O d/\((d=.tuple [.str "best", WK 1 (Sj ls.length (Kd (K8 ls o old ts)) (prW cs (Kd (K8 ls o old ts)) (KH 0 ls) ws) (KH 0 ls)) ((UK cs.length).map (prW cs (Kd (K8 ls o old ts)) (KH 0 ls) ws))]/\VY cs (Kd (K8 ls o old ts)) (KH 0 ls) ws) ∨ ∃r b,d=.tuple [.str "way", .list ((Zx cs.length b r).map ZE)]/\Rc cs (Kd (K8 ls o old ts)) (KH 0 ls) ws r b):=by
 have hq:=MD g;have hp:=SV g;obtain⟨d,hw,wy⟩:=Np (V:=K8 ls o old ts) g hd.len (by rw[hd.len];exact hp) (by rw[hd.len];exact hd) (by omega);refine Wt (Z:=[pb (Kr cs ls),pb (KR o old ts),pb (Kk ws),xg,xg]) rfl ?_;unfold Tv;refine Kw (K1 (KD (U4 (U3 rfl) (U4 (U3 rfl) U9)) rfl (GJ g ga)) (Qa rfl) rfl) ?_;refine Kw (K1 (KD (U4 (U3 rfl) (U4 (U3 rfl) (U4 (U3 rfl) U9))) rfl hw) (Qa rfl) rfl) ?_;apply K0;rcases wy with ⟨rfl,hst⟩|⟨r,b,rfl,hg⟩
 .refine KS (b:=xj) (Z1:=[pb (Kr cs ls),pb (KR o old ts),pb (Kk ws),pb (.list ((KH 0 ls).map (Zs (K8 ls o old ts)))),pb (.list [])]) (PH (ds:=[]) (U3 xf)) (λz=>by cases z) λ_=>Zj (KW ?_)
  exact KN (YU (U4 Ka (U4 (KD (U4 (U3 xf) (U4 (U3 xf) (U4 (U3 xf) U9))) xf (GQ g hp hd (by omega))) U9)) (Qa xf)) ⟨_,rfl,.inl ⟨rfl,hst⟩⟩
 .have hne:=(hg.does hp hd).2.2.1
  refine KS (b:=xi) (Z1:=[pb (Kr cs ls),pb (KR o old ts),pb (Kk ws),pb (.list ((KH 0 ls).map (Zs (K8 ls o old ts)))),pb (.list ((Zx cs.length b r).map ZE))]) ?_ (λ_=>?_) (λz=>by cases z)
  .refine(PH (ds:=(Zx cs.length b r).map ZE) (U3 xf)).trans ?_
   cases hwr:Zx cs.length b r with
   |nil=>exact absurd hwr hne
   |cons x xs=>rfl
  .exact KN (YU (U4 Ka (U4 (U3 xf) U9)) (Qa xf)) (WI ⟨_,rfl,.inr ⟨r,b,rfl,hg⟩⟩)
end
section
variable{cs:xm}{ls:L3}{ws:LO}{o:Ord}{old:xA}{ts:xm}
theorem Hj(h:ZS cs (KH 0 ls) ls.length ws):Deal cs ls ws where
 len:=h.len
 wish:=λi t rs hw hrs=>by
  obtain⟨i',rs',h1,h2,h3⟩:=VM (h.wish i t hw);have h2:(i:Int)=((0+i':Nat):Int):=h2;have hii:i=i':=by lia
  subst hii;rw[hrs]at h1;cases h1;exact h3
 cop:=h.cop
theorem MC(ls:L3):∀(ws:LO)(l2:L3)(k:Nat),(∀(j:Nat) rs,l2[j]?=O rs->ls.getD (k+j) []=rs)->ws.length=l2.length->Ky (Kd (K8 ls o old ts)) k ws=KU (KM (Zr ls o old ts) k l2 ws)
 |[],[],_,_,_=>rfl
 |[],_::_,_,_,h=>by cases h
 |_::_,[],_,_,h=>by cases h
 |x::ws,rs::l2,k,hj,hl=>by
  have ih:=MC ls ws l2 (k+1) (λj r h=>by rw[show k+1+j=k+(j+1)by lia];exact hj (j+1) r h) (by simpa using hl);show Kv _ k x+Ky _ (k+1) ws=KU (x.map (Zr ls o old ts k rs)::KM _ (k+1) l2 ws);rw[Tb,ih]
  congr 1
  cases x with
  |none=>rfl
  |some t=>show K8 ls o old ts (k:Int) t=Zr ls o old ts k rs t;unfold K8;rw[QD,show ls.getD k []=rs from hj 0 rs xf]
end
section
variable{cs:xm}{ls:L3}{o:Ord}{old:xA}{ts:xm}{ws:LO}
theorem Pq(du:Deal cs ls ws):ZS cs (KH 0 ls) ls.length ws:=⟨du.len,λi t h=>by
 have xD:i<ls.length:=by have:=(Qg.mp h).1;have:=du.len;lia
 have hrs:ls[i]?=O ls[i]:=Qf xD;have:=LZ (k:=0) hrs (du.wish i t _ h hrs);rwa[Q6]at this,du.cop⟩
end
theorem PQ{α:Type}{s:D->U0->xu}{t:M Bool}{g:M D}(f:α->D)(p:α->Bool)(e:α->D)(I:U0->Prop):∀(xs:List α)(Z:U0)(es:xk),(∀a∈xs,∀Z,I Z->∃Z1,s (f a) Z=O Z1/\t Z1=.ok (p a) Z1/\(p a=xi->g Z1=.ok (e a) Z1)/\I (Kz Z1))->I Z->es.length+xs.length<=1000000->Zk s t g (xs.map f) Z es=O (es++(xs.filter p).map e)
 |[],Z,es,_,_,_=>by rw[List.map_nil,Zk];simp
 |a::xs,Z,es,h,h0,hl=>by
  rw[QC]at hl;obtain⟨Z1,h1,h2,h3,h4⟩:=h a Qk Z h0;have h':=λb hb=>h b (Qi _ hb);rw[Qu,Zk,h1];dsimp only;rw[h2];dsimp only
  cases c:p a with
  |true=>rw[Qo xf,h3 c];dsimp only;rw[Qo (by lia),PQ f p e I xs _ _ h' h4 (by rw[Qm,Jb];lia),List.filter_cons_of_pos c,Ja];rfl
  |false=>rw[if_neg (by decide),PQ f p e I xs _ _ h' h4 (by lia),List.filter_cons_of_neg (by rw[c];simp)]
section
variable{cs:xm}{ls:L3}{ws:LO}{qs:LP}{V:Int->Int->Int}{T:List Stp}{n m:Nat}{P:Nat->Int}
theorem Pp:∀(us vs:LO),PyData.eqvAll (us.map Kc) (vs.map Kc)=decide (us=vs)
 |[],[]=>rfl
 |[],_::_=>by simp[PyData.eqvAll]
 |_::_,[]=>by simp[PyData.eqvAll]
 |u::us,v::vs=>by
  show(US (Kc u) (Kc v)&&PyData.eqvAll (us.map Kc) (vs.map Kc))=_
  have e:US (Kc u) (Kc v)=decide (u=v):=by
   cases u with
   |none=>cases v<;>simp[Kc,US]
   |some a=>
    cases v with
    |none=>simp[Kc,US]
    |some b=>by_cases h:a=b<;>simp[Kc,US,h]
  rw[Pp us vs,e];by_cases h1:u=v<;>by_cases h2:us=vs<;>simp[h1,h2]
theorem CH(us:LO)(L:List LO):oIn (Kk us) (.list (L.map Kk))=O (decide (us∈L)):=by
 have hlay:UQ (L.map Kk)=xi:=VJ λx hx=>by obtain⟨y,_,rfl⟩:=Qp.mp hx;exact RA y
 have hd:=L4 us
 show(if(Kk us).canLay0=xi/\UQ (L.map Kk)=xi/\(Kk us).depth<=60 then O ((L.map Kk).any λy=>US y (Kk us))else xg)=_
 rw[Qo ⟨RA us,hlay,by lia⟩]
 congr 1
 rw[JN,List.any_eq_true,Q8];constructor
 .rintro⟨y,hy,e⟩
  obtain⟨v,hv,rfl⟩:=Qp.mp hy;have e:PyData.eqvAll (v.map Kc) (us.map Kc)=xi:=e;rw[Pp]at e;rw[←Qa e];exact hv
 .intro h
  refine⟨Kk us,Qp.mpr ⟨us,h,rfl⟩,?_⟩;show PyData.eqvAll (us.map Kc) (us.map Kc)=xi;rw[Pp];simp
end
theorem Az{d:Nat->Int}{m:Nat}:∀(n:Nat),(∀k,k<m->d k=0)->m<n->d m≠0->∀r,fnz ((UK n).map d++r)=d m:=λn hz hm hd r=>by
 obtain⟨j,rfl⟩:∃j,n=m+1+j:=⟨n-(m+1),by omega⟩
 rw[List.range_add,J4,Qy,Qy,Ja,Ja]
 have key:∀l:xx,(∀k∈l,d k=0)->∀s,fnz (l.map d++s)=fnz s:=λl=>by
  induction l with
  |nil=>exact λ_ s=>rfl
  |cons a l ih=>
   intro h s
   show(if d a=0 then fnz (l.map d++s)else d a)=fnz s
   rw[Qo (h a Qk)];exact ih (λk hk=>h k (Qi _ hk)) s
 rw[key _ λk hk=>hz k (Q7.mp hk)];show fnz (d m::_)=_;unfold fnz;rw[Qv hd]
theorem EX{d:Nat->Int}{m:Nat}:∀(n:Nat),(∀k,m<k->k<n->d k=0)->m<n->d m≠0->fnz ((UK n).reverse.map d)=d m:=λn=>by
 induction n with
 |zero=>intro _ h;omega
 |succ n ih=>
  intro hz hm hd;rw[J4,List.reverse_append,Qy];show fnz (d n::_)=_;unfold fnz;by_cases h:m=n
  .subst h
   rw[Qv hd]
  .rw[Qo (hz n (by omega) (by omega))]
   exact ih (λk h1 h2=>hz k h1 (by omega)) (by omega) hd
noncomputable def cB(r:Nat)(l:xx):Nat:=(l.filter λx=>decide (x<r)).length
theorem Ol(r:Nat):∀l:xx,cB (r+1) l=cB r l+l.count r
 |[]=>rfl
 |x::l=>by
  have ih:=Ol r l;unfold cB at ih⊢;rw[JB];by_cases h1:x<r
  .rw[List.filter_cons_of_pos (by simp;omega),List.filter_cons_of_pos (by simp[h1]),List.length_cons,List.length_cons,ih,if_neg (by simp;omega)]
   omega
  .by_cases h2:x=r
   .rw[List.filter_cons_of_pos (by simp;omega),List.filter_cons_of_neg (by simp;omega),List.length_cons,ih,if_pos (by simp[h2])]
    omega
   .rw[List.filter_cons_of_neg (by simp;omega),List.filter_cons_of_neg (by simp;omega),ih,if_neg (by simp[h2])]
    omega
theorem Mc{r:Nat}{l:xx}(h:∀x∈l,x<r):cB r l=l.length:=by unfold cB;rw[J8.mpr λx hx=>QT (h x hx)]
theorem SD(r x:Nat)(l:xx):cB r (x::l)=(if x<r then 1 else 0)+cB r l:=by
 unfold cB;by_cases h:x<r
 .rw[List.filter_cons_of_pos (by simp[h]),if_pos h,List.length_cons];omega
 .rw[List.filter_cons_of_neg (by simp;omega),if_neg h];omega
theorem P0(r:Nat):∀(p q:xx),p.length=q.length->(∀(i x y:Nat),p[i]?=O x->q[i]?=O y->x<=y)->cB r q<=cB r p
 |[],[],_,_=>Qs _
 |[],_::_,h,_=>by cases h
 |_::_,[],h,_=>by cases h
 |x::p,y::q,hl,h=>by
  have ih:=P0 r p q (by simpa using hl) λi a b e1 e2=>h (i+1) a b (by simpa using e1) (by simpa using e2)
  have h0:=h 0 x y xf xf;rw[SD,SD]
  split<;>split<;>omega
theorem NL:∀(p q:xx),p.length=q.length->(∀(i x y:Nat),p[i]?=O x->q[i]?=O y->x<=y)->p≠q->∃r,r∈p/\cB (r+1) q<cB (r+1) p
 |[],[],_,_,h=>absurd xf h
 |[],_::_,h,_,_=>by cases h
 |_::_,[],h,_,_=>by cases h
 |x::p,y::q,hl,h,hne=>by
  have hl':p.length=q.length:=by simpa using hl
  have h':∀(i a b:Nat),p[i]?=O a->q[i]?=O b->a<=b:=λi a b e1 e2=>h (i+1) a b (by simpa using e1) (by simpa using e2)
  have h0:=h 0 x y xf xf;by_cases hxy:x=y
  .subst hxy
   obtain⟨r,hr,hlt⟩:=NL p q hl' h' λe=>hne (by rw[e])
   exact⟨r,Qi _ hr,by rw[SD,SD];omega⟩
  .refine⟨x,Qk,?_⟩
   have:=P0 (x+1) p q hl' h';rw[SD,SD,Qv (by omega),Qo (by omega)];omega
theorem He{D:Nat->Int}(h0:∀r,0<=D r):∀(n:Nat),(∃r,r<=n/\0<D r)->∃m,m<=n/\0<D m/\∀k,k<m->D k=0
 |0,⟨r,hr,h⟩=>⟨r,hr,h,λk hk=>by omega⟩
 |n+1,⟨r,hr,h⟩=>by
  by_cases hx:∃r,r<=n/\0<D r
  .obtain⟨m,h1,h2,h3⟩:=He h0 n hx
   exact⟨m,by omega,h2,h3⟩
  .refine⟨r,hr,h,λk hk=>?_⟩
   have:=h0 k;have:¬0<D k:=λz=>hx ⟨k,by omega,z⟩
   omega
theorem MB{D:Nat->Int}(h0:∀r,0<=D r):∀(n:Nat),(∃r,r<=n/\0<D r)->∃m,m<=n/\0<D m/\∀k,m<k->k<=n->D k=0
 |0,⟨r,hr,h⟩=>⟨r,hr,h,λk h1 h2=>by omega⟩
 |n+1,⟨r,hr,h⟩=>by
  by_cases hz:0<D (n+1)
  .exact⟨n+1,Qs _,hz,λk h1 h2=>by omega⟩
  .obtain⟨m,h1,h2,h3⟩:=MB h0 n ⟨r,by
    have:r≠n+1:=λe=>hz (e ▸ h)
    omega,h⟩
   refine⟨m,by omega,h2,λk k1 k2=>?_⟩;have:=h0 (n+1);by_cases hk:k=n+1
   .subst hk;omega
   .exact h3 k k1 (by omega)
theorem jW{L:Nat}(o:Ord){p q:xx}(hl:p.length=q.length)(hpq:∀(i x y:Nat),p[i]?=O x->q[i]?=O y->x<=y)(hne:p≠q)(hp:∀x∈p,x<=L)(hq:∀x∈q,x<=L):0<fnz (Wh o (Ks (L+1) p) (Ks (L+1) q)):=by
 let D:Nat->Int:=λr=>(cB r p:Int)-(cB r q:Int)
 have h0:∀r,0<=D r:=λr=>by have:=P0 r p q hl hpq;show 0<=(cB r p:Int)-(cB r q:Int);omega
 have hd:∀r,((p.count r:Nat):Int)-((q.count r:Nat):Int)=D (r+1)-D r:=λr=>by show _=((cB (r+1) p:Int)-(cB (r+1) q:Int))-((cB r p:Int)-(cB r q:Int));rw[Ol,Ol];omega
 have hD0:D 0=0:=by
  have:∀l:xx,cB 0 l=0:=λl=>by unfold cB;rw[List.length_eq_zero_iff,List.filter_eq_nil_iff];intro x _;simp
  show(cB 0 p:Int)-(cB 0 q:Int)=0
  rw[this,this];omega
 have hDL:D (L+1)=0:=by
  show(cB (L+1) p:Int)-(cB (L+1) q:Int)=0
  rw[Mc λx hx=>Nat.lt_succ_of_le (hp x hx),Mc λx hx=>Nat.lt_succ_of_le (hq x hx)];omega
 obtain⟨r,hr,hlt⟩:=NL p q hl hpq hne
 have hex:∃r,r<=L/\0<D r:=by
  have h1:0<D (r+1):=by show 0<(cB (r+1) p:Int)-(cB (r+1) q:Int);omega
  have:=hp r hr;refine⟨r+1,?_,h1⟩;have:r+1≠L+1:=λe=>by rw[e]at h1;omega
  omega
 have hm:KB (Ks (L+1) p) (Ks (L+1) q)=(UK (L+1)).map λk=>((p.count k:Nat):Int)-((q.count k:Nat):Int):=by
  unfold KB Ks;rw[List.zip_map,QW];apply List.ext_getElem
  .simp
  .intro i h1 h2
   simp
 obtain⟨m,m1,m2,m3⟩:=He h0 L hex;have hm0:m≠0:=λe=>by subst e;omega
 obtain⟨a,rfl⟩:∃a,m=a+1:=⟨m-1,by omega⟩
 have ve:∀s,fnz ((UK (L+1)).map (λk=>((p.count k:Nat):Int)-((q.count k:Nat):Int))++s)=D (a+1):=λs=>by
  have ha:((p.count a:Nat):Int)-((q.count a:Nat):Int)=D (a+1):=by rw[hd a,m3 a (by omega)];omega
  rw[Az (m:=a) (L+1) (λk hk=>by rw[hd k,m3 k (by omega),m3 (k+1) (by omega)];omega) (by omega) (by rw[ha];omega),ha]
 cases o with
 |firsts=>show 0<fnz (KB _ _);rw[hm];have:=ve [];rw[Je]at this;rw[this];exact m2
 |full=>
  show 0<fnz (((KB _ _).map λx=>-x).drop ((KB _ _).length-1)++KB _ _);rw[hm,Qb,Qq,JY];have e:(((UK (L+1)).map λk=>((p.count k:Nat):Int)-((q.count k:Nat):Int)).map λx=>-x).drop L=[-(((p.count L:Nat):Int)-((q.count L:Nat):Int))]:=by rw[List.range_succ,List.map_append,List.map_append,List.drop_append_of_le_length (by simp),List.drop_of_length_le (by simp)];rfl
  rw[e];show 0<fnz (_::_);unfold fnz;split
  .have:=ve []
   rw[Je]at this;rw[←this]at m2;exact m2
  .rename_i hz
   have:=hd L;have:=h0 L;omega
 |lasts=>
  show 0<fnz (((KB _ _).map λx=>-x).reverse);obtain⟨b,b1,b2,b3⟩:=MB h0 L hex
  have hb:((p.count b:Nat):Int)-((q.count b:Nat):Int) = - D b:=by
   have:D (b+1)=0:=by
    by_cases z:b=L
    .rw[z];exact hDL
    .exact b3 (b+1) (by omega) (by omega)
   rw[hd b,this];omega
  have e:((KB (Ks (L+1) p) (Ks (L+1) q)).map λx=>-x).reverse=(UK (L+1)).reverse.map λk=>-(((p.count k:Nat):Int)-((q.count k:Nat):Int)):=by rw[hm,QW,←List.map_reverse];rfl
  rw[e,EX (m:=b) (L+1) (λk k1 k2=>by
   have h1:D k=0:=b3 k k1 (by omega)
   have h2:D (k+1)=0:=by
    by_cases z:k=L
    .rw[z];exact hDL
    .exact b3 (k+1) (by omega) (by omega)
   rw[hd k,h1,h2]
   omega) (by omega) (by rw[hb];omega),hb]
  omega
section
variable{cs:xm}{ls:L3}{ws us:LO}{o:Ord}{old:xA}{ts:xm}
noncomputable def plN(ls:L3)(ws:LO):xx:=(Kg ls ws).map (plc (lng ls))
noncomputable def plJ(ls:L3)(ws:LO):xm:=(plN ls ws).map λx:Nat=>(x:Int)+1
theorem Ay(g:Good cs ls){i:Nat}{rs:List xm}{x:xq}(hi:ls[i]?=O rs)(hw:∀t,x=O t->t∈rs.flatten):XF [Kr cs ls,.int i,Kc x]=O (.int (((plc (lng ls) (rg rs x):Nat):Int)+1)):=by
 refine Zo (Z:=[pb (Kr cs ls),pb (.int i),pb (Kc x)]) xf ?_;unfold Tj;apply K0;cases x with
 |none=>
  refine KS (b:=xi) (Z1:=[pb (Kr cs ls),pb (.int i),O (.pub .none)]) (KT (k:=isNon) (x:=PyData.none) (U3 xf)) (λ_=>?_) λz=>by cases z
  exact KN (Kl (KD (U4 (U3 xf) U9) xf (NB g)) Ka Zu) (WI xf)
 |some t=>
  refine KS (b:=xj) (Z1:=[pb (Kr cs ls),pb (.int i),pb (.int t)]) (KT (k:=isNon) (x:=int t) (U3 xf)) (λz=>by cases z) λ_=>Zj (KW ?_)
  refine KN (KD (U4 (U3 xf) (U4 (U3 xf) (U4 (U3 xf) U9))) xf (NC hi t)) ?_;have h0:=RE (hw t xf)
  have e:((plc (lng ls) (rg rs (O t)):Nat):Int)+1=((KZ t rs:Nat):Int):=by
   show((plc (lng ls) ((KZ t rs:Nat):Int):Nat):Int)+1=_
   unfold plc;rw[Qv (by lia)]
   lia
  rw[e]
theorem EW{f g:M D}{Z Z1 Z2:U0}(h1:f Z=.ok (.bool xi) Z1)(h2:g Z1=.ok (.bool xj) Z2):XV f g Z=.ok (.bool xj) Z2:=by unfold XV;exact K4 h1 h2
theorem EV{f g:M D}{Z Z1:U0}(h1:f Z=.ok (.bool xj) Z1):XV f g Z=.ok (.bool xj) Z1:=by unfold XV;exact K4 h1 xf
theorem Hd{xs ys:xm}:oNe (.list (xs.map int)) (.list (ys.map int))=O (!decide (xs=ys)):=by
 have lay:∀zs:xm,PyData.canLay0 (.list (zs.map int))=xi:=λzs=>VJ λx hx=>by obtain⟨t,_,rfl⟩:=Qp.mp hx;rfl
 have dep:∀zs:xm,UR (.list (zs.map int))<=1:=λzs=>Rv (n:=0) (SN λx hx=>by obtain⟨t,_,rfl⟩:=List.mem_map.mp hx;simp[UR])
 unfold oNe;rw[Qo ⟨lay xs,lay ys,by have:=dep xs;lia⟩]
 congr 2
 simp only[US,Pu]
theorem P9(dl:Deal cs ls ws):(plN ls ws).length=ls.length:=by unfold plN;rw[Qb];exact Pt dl.len
theorem NK:∀x∈plN ls ws,x<=lng ls:=λx hx=>by
 obtain⟨r,hr,rfl⟩:=Qp.mp hx;have:=VD r hr;unfold plc
 split<;>lia
theorem MA(g:Good cs ls)(dl:Deal cs ls ws)(b c:D):Zk (gT 2 (gNC (gN 5) (gNC (gN 6) (gN0)))) (U5 xi) (Kb 3 XF (U2 (UZ 0) (U2 (UZ 5) (U2 (UZ 6) (U1))))) (Yv 0 (ws.map Kc)) [pb (Kr cs ls),pb b,pb c,xg,xg,xg,xg] []=O ([]++(plJ ls ws).map int):=by
 have l7:=g.l7;have hl:=dl.len;refine Xo (λZ=>∃x y,Z=[pb (Kr cs ls),pb b,pb c,xg,xg,x,y]) _ _ _ _ (by unfold plJ;rw[Qb,Qb,P9 dl,YH,Qb];exact hl.symm) ?_ ⟨xg,xg,rfl⟩ (by rw[YH,Qb,QG];lia);rintro i d e hd he Z ⟨x,y,rfl⟩;obtain⟨z,hz,rfl⟩:=Xi hd;rw[Qd]at hz;cases hw:ws[i]? with
 |none=>rw[hw]at hz;cases hz
 |some u=>
 rw[hw]at hz;cases hz;have xD:i<ws.length:=(Qg.mp hw).1;have hrs:ls[i]?=O ls[i]:=Qf (by lia);have hv:(plJ ls ws)[i]?=O (((plc (lng ls) (rg ls[i] u):Nat):Int)+1):=by unfold plJ plN Kg;rw[Qd,Qd,Ui,hrs,hw];rfl
 rw[Qd,hv]at he;cases he;rw[Q6];exact⟨_,KO xf (Ki (U8 (Qa xf) xf) (Ki (U8 (Qa xf) xf) KP)),rfl,KD (U4 (U3 xf) (U4 (U3 xf) (U4 (U3 xf) U9))) xf (Ay (x:=u) g hrs λt e=>dl.wish i t _ (by rw[hw,e]) hrs),_,_,rfl⟩
theorem CG(g:Good cs ls)(d1:Deal cs ls us)(d2:Deal cs ls ws)(ga:Yz cs.length ls.length old ts)(h:KU (KM (Zr ls o old ts) 0 ls us)<=KU (KM (Zr ls o old ts) 0 ls ws)):X9 [Kr cs ls,Kk us,Kk ws]=O (.bool xj):=by
 have l7:=g.l7;refine Zo (Z:=[pb (Kr cs ls),pb (Kk us),pb (Kk ws),xg,xg]) xf ?_;unfold Ti;have hc1:=MA g d1 (Kk us) (Kk ws);have hc2:=MA g d2 (Kk us) (Kk ws);refine Kw (ZY (Yj (Xu (U4 (U3 xf) U9) Xs) hc1) (Qa xf) xf) ?_;refine Kw (ZY (Yj (Xu (U4 (U3 xf) U9) Xs) hc2) (Qa xf) xf) ?_;rw[Jn,Jn];have hne:=Hd (xs:=plJ ls us) (ys:=plJ ls ws);by_cases he:plJ ls us=plJ ls ws
 .rw[QT he]at hne
  exact KN (EV (KT (Pv (ZR xf xf) xf hne))) xf
 .rw[QI he]at hne
  have hl1:=P9 d1;have hl2:=P9 d2
  have hall:(List.zipWith (λa b:Int=>decide (a<=b)) (plJ ls us) (plJ ls ws)).all id=xj:=by
   refine Bool.eq_false_iff.mpr λha=>?_;have hb:=Hs (o:=o) g d1 d2 ga;rw[QI (by lia)]at hb
   have vS:=jW (L:=lng ls) o (p:=plN ls us) (q:=plN ls ws) (by rw[hl1,hl2]) (λi x y e1 e2=>by
    have hm:decide (((x:Int)+1)<=((y:Int)+1))∈List.zipWith (λa b:Int=>decide (a<=b)) (plJ ls us) (plJ ls ws):=Qr (i:=i) (by
     unfold plJ;rw[Ui,Qd,Qd,e1,e2]
     rfl)
    have:=Qa (Jp.mp ha _ hm)
    lia) (λe=>he (by unfold plJ;rw[e])) NK NK
   unfold plN at vS;rw[Nl VD,Nl VD]at vS;unfold X8 at hb;rw[Qv (by lia),QT vS]at hb;cases hb
  have hz:Z6 ((plJ ls us).map int) ((plJ ls ws).map int)=((plJ ls us).zip (plJ ls ws)).map λp=>.tuple [.int p.1,.int p.2]:=by unfold Z6;rw[List.zip_map,QW];rfl
  have hc:Zk (gT 2 (gNC (gN 5) (gNC (gN 6) (gN0)))) (U5 xi) (Ke UN (ZA (oIB λi j=>decide (i<=j)) 5 (UZ 6))) (Z6 ((plJ ls us).map int) ((plJ ls ws).map int)) (Kz [pb (Kr cs ls),pb (Kk us),pb (Kk ws),pb (.list ((plJ ls us).map int)),pb (.list ((plJ ls ws).map int))]++UL 2 xg) []=O ([]++(List.zipWith (λa b:Int=>decide (a<=b)) (plJ ls us) (plJ ls ws)).map UN):=by
   rw[hz];refine Xo (λZ=>∃x y,Z=[pb (Kr cs ls),pb (Kk us),pb (Kk ws),pb (.list ((plJ ls us).map int)),pb (.list ((plJ ls ws).map int)),x,y]) _ _ _ _ (by rw[Qb,Qb,Us,JT]) ?_ ⟨xg,xg,rfl⟩ (by rw[QG,Qb,JT];unfold plJ;rw[Qb,Qb,hl1,hl2];lia);rintro i d e hd hee Z ⟨x,y,rfl⟩;rw[Qd]at hd hee;cases hp:((plJ ls us).zip (plJ ls ws))[i]? with
   |none=>rw[hp]at hd;cases hd
   |some q=>
   rw[hp]at hd;cases hd;have hp2:(List.zipWith (λa b:Int=>decide (a<=b)) (plJ ls us) (plJ ls ws))[i]?=O (decide (q.1<=q.2)):=by have:=List.getElem?_zip_eq_some.mp hp;rw[Ui,this.1,this.2]
   rw[hp2]at hee;cases hee;exact⟨_,KO xf (Ki (U8 (Qa xf) xf) (Ki (U8 (Qa xf) xf) KP)),rfl,KT (Yu xf (U3 xf) xf),_,_,rfl⟩
  refine KN (EW (KT (Pv (ZR xf xf) xf hne)) (ZQ (U4 (KT (Yj (Mm (U4 (U3 xf) (U4 (ZR xf xf) U9)) xf) hc)) U9) (show Yq [.list ([]++_)]=O (.bool xj)by rw[Jn,MK,hall]))) xf
end
theorem Hc{cs:xm}{ls:L3}:∀(ds:xk),(∀d∈ds,∃ws,d=Kk ws/\Deal cs ls ws)->∃L:List LO,ds=L.map Kk/\∀ws∈L,Deal cs ls ws
 |[],_=>⟨[],rfl,λ_ h=>by cases h⟩
 |d::ds,h=>by
  obtain⟨ws,rfl,dw⟩:=h d Qk;obtain⟨L,rfl,hL⟩:=Hc ds λx hx=>h x (Qi _ hx)
  exact⟨ws::L,rfl,λx hx=>(QL.mp hx).elim (λe=>e ▸ dw) (hL x)⟩
theorem CF{xs ys:xm}:oEq (.list (xs.map int)) (.list (ys.map int))=O (decide (xs=ys)):=by
 have lay:∀zs:xm,PyData.canLay0 (.list (zs.map int))=xi:=λzs=>VJ λx hx=>by obtain⟨t,_,rfl⟩:=Qp.mp hx;rfl
 have dep:∀zs:xm,UR (.list (zs.map int))<=1:=λzs=>Rv (n:=0) (SN λx hx=>by obtain⟨t,_,rfl⟩:=List.mem_map.mp hx;simp[UR])
 unfold oEq;rw[Qo ⟨lay xs,lay ys,by have:=dep xs;lia⟩]
 congr 1
 simp only[US,Pu]
theorem Hb:∀{xs ys:xm},HT.Z7 xs ys=xj->HT.Z7 ys xs=xj->xs=ys
 |[],[],_,_=>rfl
 |[],_::_,h,_=>by cases h
 |_::_,[],_,h=>by cases h
 |x::xs,y::ys,h1,h2=>by
  rw[HT.Nz]at h1 h2;by_cases e:x=y
  .subst e
   rw[Qo xf]at h1 h2;rw[Hb h1 h2]
  .rw[Qv e]at h1
   rw[Qv (Ne.symm e)]at h2;simp only[decide_eq_false_iff_not]at h1 h2
   lia
theorem No{α:Type}{K:α->xm}{W:α->Int}{P:α->Prop}(hk:∀u v,P u->P v->HT.Z7 (K u) (K v)=decide (W u<W v)):∀(us:List α)(b:α),P b->(∀u∈us,P u)->∃u,(u=b∨u∈us)/\P u/\Wv (K b) (us.map K)=K u/\W b<=W u/\∀v∈us,W v<=W u
 |[],b,hb,_=>⟨b,.inl xf,hb,rfl,QY _,λ_ h=>by cases h⟩
 |p::us,b,hb,h=>by
  have hp:=h p Qk;have h':=λu hu=>h u (Qi _ hu)
  by_cases c:W b<W p
  .obtain⟨u,h1,h2,h3,h4,h5⟩:=No hk us p hp h'
   refine⟨u,.inr (h1.elim (λe=>e ▸ Qk) (Qi _)),h2,?_,by lia,λv hv=>?_⟩
   .rw[Qu]
    unfold Wv;rw[Qo (by rw[hk b p hb hp,QT c])];exact h3
   .rcases QL.mp hv with rfl|hv
    .exact h4
    .exact h5 v hv
  .obtain⟨u,h1,h2,h3,h4,h5⟩:=No hk us b hb h'
   refine⟨u,h1.imp id (Qi _),h2,?_,h4,λv hv=>?_⟩
   .rw[Qu]
    unfold Wv;rw[Qv (by rw[hk b p hb hp,QI c];decide)];exact h3
   .rcases QL.mp hv with rfl|hv
    .lia
    .exact h5 v hv
theorem Ha(us vs:LO):US (Kk us) (Kk vs)=decide (us=vs):=by show PyData.eqvAll (us.map Kc) (vs.map Kc)=_;rw[Pp]
theorem jV{us:LO}{L:List LO}(h:us∈L)(hl:L.length<=256):∃j:Nat,VE (.list (L.map Kk)) (Kk us)=O (.int (j:Nat))/\L[j]?=O us:=by
 have hlay:UQ (L.map Kk)=xi:=VJ λx hx=>by obtain⟨y,_,rfl⟩:=Qp.mp hx;exact RA y
 have hd:=L4 us;have hj:((L.map Kk).findIdx λy=>US y (Kk us))<(L.map Kk).length:=List.findIdx_lt_length_of_exists ⟨Kk us,Qp.mpr ⟨us,h,rfl⟩,by rw[Ha];exact QT xf⟩;refine⟨(L.map Kk).findIdx λy=>US y (Kk us),?_,?_⟩
 .unfold VE
  dsimp only;rw[Qo ⟨⟨RA us,hlay,by lia⟩,hj,by rw[Qb];lia⟩]
 .have h1:=List.findIdx_getElem (w:=hj)
  rw[Qb]at hj;rw[JQ,Ha]at h1;rw[Qf hj,Qa h1]
theorem CD:∀ns:xm,ns.length<=63->WS [.list (ns.map int)]=O (.bool xi):=by
 intro ns hns;refine Zo (Z:=[pb (.list (ns.map int)),xg,xg,xg,xg,xg,xg,xg,xg,xg,xg]) xf ?_;unfold Th;obtain⟨r,hr,cs,ls,rfl,g,hT,hA,_⟩:=kI 3 4 3 (ns:=ns) (by lia) 1;have l7:=g.l7;have c6:=g.c6;obtain⟨v0,hv0⟩:=PY ns 0 (by lia);obtain⟨v5,hv5⟩:=PY ns 5 (by lia);obtain⟨r,ha,o,old,ts,rfl,ga⟩:=B9 g v0 5;obtain⟨r,hall,ds,rfl,hdl,hds,wt⟩:=CI g (by lia) (by lia);obtain⟨L0,rfl,v7⟩:=Hc ds hds;rw[Qb]at hdl;have hin:∀us,Deal cs ls us->us∈L0:=λus du=>by obtain⟨v,hv,e⟩:=Qp.mp (wt us du);injection e with e;rw[←OO e];exact hv
 let S0:Option Sl:=O (.pub (.list (ns.map int)))
 let S1:Option Sl:=O (.pub (Kr cs ls))
 let S2:Option Sl:=O (.pub (KR o old ts))
 let S3:Option Sl:=O (.pub (.list (L0.map Kk)))
 let K:LO->xm:=λus=>YX o (KF (lng ls) (Kg ls us))++[(Zl old us:Int)]++ts.map (Zi ls us)
 let W:LO->Int:=λus=>KU (KM (Zr ls o old ts) 0 ls us)
 have hk:∀u v,Deal cs ls u->Deal cs ls v->HT.Z7 (K u) (K v)=decide (W u<W v):=λu v du dv=>(B3 (o:=o) g dv du ga).trans (Hs (o:=o) g dv du ga);refine Kw (Z1:=[S0,S1,xg,xg,xg,xg,xg,xg,xg,xg,xg]) (K1 (KD (U4 (U3 xf) (U4 Ka (U4 Ka (U4 Ka (U4 Ka U9))))) xf hr) (Qa xf) xf) ?_;refine Kw (Z1:=[S0,S1,S2,xg,xg,xg,xg,xg,xg,xg,xg]) (K1 (KD (U4 (U3 xf) (U4 (KD (U4 (U3 xf) (U4 Ka U9)) xf hv0) (U4 Ka U9))) xf ha) (Qa xf) xf) ?_;refine Kw (Z1:=[S0,S1,S2,S3,xg,xg,xg,xg,xg,xg,xg]) (K1 (KD (U4 (U3 xf) U9) xf hall) (Qa xf) xf) ?_
 let kD:LO->D:=λus=>.list ((K us).map int)
 have hc:Zk (gN 11) (U5 xi) (Kb 3 Wa (U2 (UZ 1) (U2 (UZ 2) (U2 (UZ 11) (U1))))) (L0.map Kk) (Kz [S0,S1,S2,S3,xg,xg,xg,xg,xg,xg,xg]++UL 1 xg) []=O (L0.map kD):=by refine(PQ Kk (λ_=>xi) kD (λZ=>∃x,Z=[S0,S1,S2,S3,xg,xg,xg,xg,xg,xg,xg,x]) L0 _ [] ?_ ⟨xg,rfl⟩ (by rw[QG];lia)).trans (by rw[Jn,J8.mpr (λ_ _=>rfl)]);rintro us hu Z ⟨x,rfl⟩;exact⟨_,U8 (Qa xf) xf,rfl,λ_=>KD (U4 (U3 xf) (U4 (U3 xf) (U4 (U3 xf) U9))) xf (Ei g (v7 us hu) ga),_,rfl⟩
 refine Kw (Z1:=[S0,S1,S2,S3,O (.own (L0.map kD)),xg,xg,xg,xg,xg,xg]) (ZY (Yj (ZD (U3 xf) Yi) hc) (Qa xf) xf) ?_;obtain⟨ws,hbd,hdq,hst⟩:=xb (o:=o) g ga;have dl:=Hj hdq;have tg:∀us,Deal cs ls us->Ky (Kd (K8 ls o old ts)) 0 us=W us:=λus du=>MC ls us ls 0 (λj rs h=>by rw[Q6,Qj,h];rfl) du.len
 have most:∀us,Deal cs ls us->W us<=W ws:=λus du=>by have:=Ge (SV g) hdq hst (Pq du);rw[tg us du,tg ws dl]at this;exact this
 have keys:∀u v,Deal cs ls u->Deal cs ls v->(K u=K v ↔ W u=W v):=λu v du dv=>by
  constructor
  .intro e
   have h1:=hk u v du dv;have h2:=hk v u dv du;have h3:=hk v v dv dv;rw[e,h3]at h1;rw[e,h3]at h2;have h1:=decide_eq_decide.mp h1;have h2:=decide_eq_decide.mp h2
   lia
  .intro e
   refine Hb ?_ ?_
   .rw[hk u v du dv];exact QI (by lia)
   .rw[hk v u dv du];exact QI (by lia)
 let S4:Option Sl:=O (.pub (.list (L0.map kD)))
 let S5:Option Sl:=O (.pub (kD ws))
 have vO:V0 [.list (L0.map kD)]=O (kD ws):=by
  have hw:=hin ws dl;cases hL:L0 with
  |nil=>rw[hL]at hw;cases hw
  |cons b us=>
  rw[hL]at hw v7;obtain⟨u,h1,h2,h3,h4,h5⟩:=No hk us b (v7 b Qk) λu hu=>v7 u (Qi _ hu)
  have e:(b::us).map kD=(K b::us.map K).map λr=>UM (r.map int):=by rw[Qu,Qu,QW];rfl
  rw[e,AS,h3]
  have hle:W ws<=W u:=by
   rcases QL.mp hw with rfl|hw
   .exact h4
   .exact h5 ws hw
  rw[(keys u ws h2 dl).mpr (by have:=most u h2;lia)]
 refine Kw (Z1:=[S0,S1,S2,S3,S4,S5,xg,xg,xg,xg,xg]) (K1 (ZQ (U4 (ZR xf xf) U9) vO) (Qa xf) xf) ?_;generalize hpd:WK 1 _ _=pd at hbd
 let S6:Option Sl:=O (.pub (.tuple [Kk ws,pd]))
 refine Kw (Z1:=[S0,S1,S2,S3,S4,S5,S6,xg,xg,xg,xg]) (K1 (KD (U4 (KD (U4 (U3 xf) U9) xf (My g)) (U4 (U3 xf) U9)) xf hbd) (Qa xf) xf) ?_;have hix:oIx (.tuple [Kk ws,pd]) (.int 0)=O (Kk ws):=ZC (j:=0) xf;have hnin:Y9 (Kk ws) (.list (L0.map Kk))=O xj:=by unfold Y9;rw[CH,QT (hin ws dl)];rfl
 apply K0;refine KS (b:=xj) (Z1:=[S0,S1,S2,S3,S4,S5,S6,xg,xg,xg,xg]) (XR (Wu (U3 xf) xf) (XR (Kl (ZZ xf (show Kt [.tuple [Kk ws,pd]]=O (.int 2)from rfl)) Ka (by rw[Rw];rfl)) (Kl (K2 xf Ka hix) (U3 xf) hnin))) (λz=>by cases z) λ_=>Zj (KW ?_)
 obtain⟨j,hj1,vQ⟩:=jV (hin ws dl) hdl;have kix:∀{j:Nat}{u:LO},L0[j]?=O u->oIx (.list (L0.map kD)) (.int (j:Nat))=O (kD u):=λ{j u} h=>ZC (j:=j) (by rw[Qd,h];rfl)
 have kne:∀u v,oNe (kD u) (kD v)=O (!decide (K u=K v)):=λu v=>Hd;apply K0;refine KS (b:=xj) (Z1:=[S0,S1,S2,S3,S4,S5,S6,xg,xg,xg,xg]) (Kl (K2 xf (AQ (U3 xf) (U4 (K2 xf Ka hix) U9) hj1) (kix vQ)) (U3 xf) (by rw[kne,QT xf];rfl)) (λz=>by cases z) λ_=>Zj (KW ?_)
 have hc2:Zk (gN 11) (Yg (Kb 3 X9 (U2 (UZ 1) (U2 (UZ 11) (U2 (Kj 6 (U5 (.int 0))) (U1)))))) (UZ 11) (L0.map Kk) (Kz [S0,S1,S2,S3,S4,S5,S6,xg,xg,xg,xg]++UL 1 xg) []=O []:=by refine(PQ Kk (λ_=>xj) Kk (λZ=>∃x,Z=[S0,S1,S2,S3,S4,S5,S6,xg,xg,xg,xg,x]) L0 _ [] ?_ ⟨xg,rfl⟩ (by rw[QG];lia)).trans (by rw[Jn,List.filter_eq_nil_iff.mpr (λ_ _ h=>by cases h)];rfl);rintro us hu Z ⟨x,rfl⟩;have du:=v7 us hu;exact⟨_,U8 (Qa xf) xf,WJ (KD (U4 (U3 xf) (U4 (U3 xf) (U4 (K2 xf Ka hix) U9))) xf (CG (o:=o) g du dl ga (most us du))),(λz=>by cases z),_,rfl⟩
 apply K0;refine KS (b:=xj) (Z1:=[S0,S1,S2,S3,S4,S5,S6,xg,xg,xg,xg]) (Kl (KT (Yj (ZD (U3 xf) Yi) hc2)) (Zw U9 (Qa xf)) (by decide +kernel)) (λz=>by cases z) λ_=>Zj (KW ?_)
 apply K0;apply ZV (λ_ Z=>∃y7 y8 y9 y10,Z=[S0,S1,S2,S3,S4,S5,S6,y7,y8,y9,y10])
 case h1=>exact Xu (U4 (Kl (Zw (U4 (KD (U4 (U3 xf) (U4 Ka U9)) xf hv5) U9) (Qa xf)) (VA (U3 xf) (Y8 Ka) (Y8 Ka) VO) (Aj (by lia))) U9) Xs
 case h0=>exact⟨_,_,_,_,rfl⟩
 case hst=>
  rintro i d Z hi ⟨y7,y8,y9,y10,rfl⟩;obtain⟨x,hx,rfl⟩:=Xi hi;obtain⟨c,rfl⟩:=Ak hx;rw[Q6];refine⟨_,KO xf (Ki (U8 (Qa xf) xf) (Ki (U8 (Qa xf) xf) KP)),?_⟩;unfold MN;have hpos:0<L0.length:=J7.mpr (List.ne_nil_of_mem (hin ws dl));obtain⟨r,hn,dg,rfl,ww,hdb⟩:=PZ c (31+(i:Int)) (sizes:=[(L0.length:Int)]) (λx hx=>by rw[List.mem_singleton.mp hx];lia) (by simp);have hdg:dg[0]?=O (dg[0]'(by rw[ww];simp)):=List.getElem?_eq_getElem _;generalize dg[0]'(by rw[ww];simp)=d0 at hdg;obtain⟨b1,b2⟩:=hdb 0 d0 _ hdg xf;obtain⟨k,rfl⟩:=Int.eq_ofNat_of_zero_le b1;have xN:k<L0.length:=by lia
  obtain⟨us,hus⟩:∃us,L0[k]?=O us:=⟨_,Qf xN⟩
  have du:=v7 us (Qr hus);have i0:oIx (.list (dg.map int)) (.int 0)=O (.int (k:Nat)):=ZC (j:=0) (by rw[Qd,hdg];rfl);have six:oIx (.list (L0.map Kk)) (.int (k:Nat))=O (Kk us):=ZC (j:=k) (by rw[Qd,hus];rfl);have hlen:Kt [.list (L0.map Kk)]=O (.int L0.length):=by rw[ZJ,Qb]
  let S7:Option Sl:=O (.pub (.int (i:Nat)))
  let S8:Option Sl:=O (.pub (.int c))
  let S9:Option Sl:=O (.pub (.int (k:Nat)))
  refine Kw (Z1:=[S0,S1,S2,S3,S4,S5,S6,S7,S8,S9,y10]) (K1 (Kl (KD (U4 (U3 xf) (U4 (Kl Ka (U3 xf) Zu) (U4 (Zw (U4 (ZZ xf hlen) U9) (Qa xf)) U9))) xf hn) Ka i0) (Qa xf) xf) ?_;obtain⟨d,hb,h⟩:=jX (o:=o) g ga (Pq du);refine Kw (Z1:=[S0,S1,S2,S3,S4,S5,S6,S7,S8,S9,pb d]) (K1 (KD (U4 (KD (U4 (U3 xf) U9) xf (My g)) (U4 (U3 xf) (U4 (KT (K4 (U4 (K2 xf (U3 xf) six) U9) (Yl (show Xh [Kk us]=O (us.map Kc)from rfl)))) U9))) xf hb) (Qa xf) xf) ?_
  have fin:∀(s:Str)(x:D)(t:Bool),d=.tuple [.str s,x]->decide (K us=K ws)=t->s=(if t=xi then "best" else "way")->Ho (U7 (sIf (mOr (Zd (Yg (Ke (λd=>.bool (Ze d "tuple")) (UZ 10)))) (U6 oNe (Zv 10) (U5 (.int 2))))
    (Kh (U5 (.bool xj)))
    (sNx))
    (sIf (U6 oNe (Kj 10 (U5 (.int 0))) (U6 oIx (Kx (U2 (U5 (.str "way")) (U2 (U5 (.str "best")) (U1)))) (Zt Wx (U2 (Ke UN (U6 oEq (Kj 4 (UZ 9)) (UZ 5))) (U1)))))
    (Kh (U5 (.bool xj)))
    (sNx))) [S0,S1,S2,S3,S4,S5,S6,S7,S8,S9,pb d] (λr=>r=.nx [S0,S1,S2,S3,S4,S5,S6,S7,S8,S9,pb d]):=λs x t e ht es=>by
   subst e;have heq:oEq (kD us) (kD ws)=O t:=by rw[CF,ht]
   apply K0;refine KS (b:=xj) (Z1:=[S0,S1,S2,S3,S4,S5,S6,S7,S8,S9,pb (.tuple [.str s,x])]) (XR (Wu (U3 xf) xf) (Kl (ZZ xf (show Kt [.tuple [.str s,x]]=O (.int 2)from rfl)) Ka (by rw[Rw];rfl))) (λz=>by cases z) λ_=>Zj (KW ?_)
   cases t with
   |true=>subst es;exact KS (b:=xj) (Kl (K2 xf Ka (show oIx (.tuple [.str "best", x]) (.int 0)=O (.str "best")from rfl)) (Kl (Zw (U4 Ka (U4 Ka U9)) (Qa xf)) (ZQ (U4 (KT (Kl (K2 xf (U3 xf) (kix hus)) (U3 xf) heq)) U9) (show Wx [.bool xi]=O (.int 1)from rfl)) (show oIx (.list [.str "way", .str "best"]) (.int 1)=O (.str "best")from rfl)) (by decide +kernel)) (λz=>by cases z) λ_=>Zj xf
   |false=>subst es;exact KS (b:=xj) (Kl (K2 xf Ka (show oIx (.tuple [.str "way", x]) (.int 0)=O (.str "way")from rfl)) (Kl (Zw (U4 Ka (U4 Ka U9)) (Qa xf)) (ZQ (U4 (KT (Kl (K2 xf (U3 xf) (kix hus)) (U3 xf) heq)) U9) (show Wx [.bool xj]=O (.int 0)from rfl)) (show oIx (.list [.str "way", .str "best"]) (.int 0)=O (.str "way")from rfl)) (by decide +kernel)) (λz=>by cases z) λ_=>Zj xf
  rcases h with ⟨e,hs2⟩|⟨r,b,e,hg⟩
  .have hK:K us=K ws:=by
    refine(keys us ws du dl).mpr ?_;have h1:=Ge (SV g) (Pq du) hs2 hdq;rw[tg us du,tg ws dl]at h1;have h2:=most us du
    lia
   refine Pk (fin _ _ xi e (QT hK) xf) λr hr=>?_;subst hr;exact Zp ⟨_,_,_,_,rfl⟩
  .obtain⟨hdq2,htot, -, -⟩:=hg.does (SV g) (Pq du)
   have dl2:=Hj hdq2;have hpos:=hg.pos;rw[tg us du,tg _ dl2]at htot;have h2:=most _ dl2
   have hK:¬K us=K ws:=λz=>by
    have h1:=(keys us ws du dl).mp z
    lia
   refine Pk (fin _ _ xj e (QI hK) xf) λr hr=>?_;subst hr;exact Zp ⟨_,_,_,_,rfl⟩
 case hend=>rintro Z ⟨y7,y8,y9,y10,rfl⟩;exact KW (KN Ka rfl)
end W
open PySem PySem.W PyProof.Rows
set_option maxRecDepth 100000 in
set_option maxHeartbeats 0 in
theorem PySem.Challenge.cw_wishdeal_k42_best_of_all_small_holds : PySem.Challenge.rw_wishdeal_k42_best_of_all_small.Holds := by
 w_on;o_law
 refine holds_open (q:=W.q0) (loose:=[]) (Xt:=λs=>xlAt W.q0 [] s&&recOk [] s) (XP:=XL W.q0 []) (Yf:=Hook.obs .none) (Ya:=Hook.val .none) (YP:=Hook.says .none) (N:=4926) (d:=W.d_by) (kwd:=[])
  W.EH (Hook.of .none) (Hook.keeps .none) (λs e=>xl_of s (Bool.and_eq_true_iff.mp e).1) XL.keeps (by rfl) (by rfl) (by rfl)
  (λs e=>recFacts_of (Bool.and_eq_true_iff.mp e).2) (by rfl) (by assumption) (by decide +kernel) ⟨rfl,rfl,rfl,rfl,rfl,by decide +kernel⟩ ?hw (W.walk W.CD)
 case hw=>w_witness2


import PyProof.Rows.All
import Wide.All
import OpenK.AllK
import Wide.FinOn
import Lean
import PyProof.EqAt
import PyProof.EqKinds
import PyProof.TupleCall
import PyProof.EnumMake
import PyProof.ZipIter
import PyProof.ExcClass2
import PyProof.ExcInit
import PyProof.ExcBaseAll.ValueError
import PyProof.FString2
import PyProof.ExcArgsOwn
import PyProof.InstStoreFacts
import ObjForm.Fk.InstStore
import ObjForm.Fk.InstLoad
import PyProof.StationsW
import PyProof.RulesAs
import PyProof.NsDelKeeps
import OpenK.KMore
import PyProof.IsiBase
import OpenK.KNot
import PyProof.Rows.RuleN_isinstance
import PyProof.NeData
import PyProof.P3In
import PyProof.StrWalks
import PyProof.ConsumeWalk
import PyProof.SliceStr2
import PyProof.MeetsStr
import KE.KItem
import KE.KUnpack
import KE.KRevSl
import PyProof.Rows.SetFrom
import PyProof.SetRoads
import PyProof.Rows.Range3
import PyProof.CallType
import PyProof.Rows.CallKwBuiltin
import PyProof.Rows.MinMaxN
import PyProof.SumWalkG
import PyProof.Rows.SeqMore
import PyProof.Rows.SortWalk
import PyProof.Rows.SumAny
import PyProof.Rows.SeqMore2
import KE.KSortTup
import PyProof.Rows.SortShellK
import PyProof.ReprRoads
import PyProof.ReprBulk
import PyProof.CallFns
import PyProof.NeKinds
import PyProof.Rows.StrJoinMade
import PyProof.StrCalls
import KE.KIntText
import PyProof.ReprDict
import PyProof.DictIter
import PyProof.Rows.DictUnroll
import PyProof.MeetsStr2
import PyProof.Rows.StrNews
import PyProof.StrLawsChain
import PyProof.Rows.StrItems
import PyProof.SeqRoads2
import PySem.Challenge.RW_wishdeal_k29_partings
set_option compiler.extract_closed false
set_option Elab.async false
set_option linter.all false
set_option maxRecDepth 100000
set_option maxHeartbeats 4000000
open Option renaming some→O,none→C4
open Bool renaming true→C5,false→C6
theorem C3.{u}{α:Sort u}{a:α}:a=a:=rfl
abbrev C8:=List Int
abbrev Bc:=List Nat
abbrev Bf:=Option Int
abbrev Bi:=Option Bool
abbrev Bj:=Option Nat
theorem Qa:type_of% @of_decide_eq_true:=@of_decide_eq_true
theorem Qq:type_of% @if_pos:=@if_pos
theorem QE:type_of% @if_neg:=@if_neg
theorem QG:type_of% @decide_eq_false:=@decide_eq_false
theorem QU:type_of% @decide_eq_true:=@decide_eq_true
theorem Jh:type_of% @decide_eq_true_eq:=@decide_eq_true_eq
theorem JA:type_of% @of_decide_eq_false:=@of_decide_eq_false
theorem JM:type_of% @congrArg:=@congrArg
open List renaming getElem?_eq_getElem→Qb,length_map→Qd,getElem?_set_ne→Qf,getElem?_eq_some_iff→Qg,mem_cons_self→Qh,getElem?_map→Qj,length_append→Qk,mem_cons_of_mem→Qm,getElem?_append_left→Qn,mem_append_right→Qr,getElem?_append_right→Qs,mem_of_getElem?→Qt,mem_singleton→Qw,mem_map→Qx,length_cons→Qz,getElem?_replicate→QA,map_cons→QC,getElem?_set_self→QD,mem_append→QF,length_set→QH,mem_append_left→QI,map_append→QK,size_toArray→QL,mem_cons→QM,flatten_cons→QN,lookup_cons→QR,append_nil→QS,length_replicate→QT,length_range→QW,mem_range→QX,append_assoc→QY,all_eq_true→QZ,nodup_append→Q1,getD_eq_getElem?_getD→Q2,zip_cons_cons→Q3,length_singleton→Q4,length_nil→Q6,map_map→Q7,replicate_succ→Ja,nil_append→Jb,getElem_mem→Jc,getElem?_eq_none→Jd,mem_iff_getElem?→Je,contains_iff_mem→Jj,mem_filter→Jk,pairwise_cons→Jl,drop_eq_getElem_cons→Jq,length_filter_le→Jr,length_take→Jt,nodup_cons→Jx,getLast?_eq_getElem?→JC,filter_map→JD,flatten_append→JF,getElem?_cons_succ→JG,drop_eq_nil_of_le→JI,head?_eq_getElem?→JL,take_zero→JO,nodup_nil→JP,mem_of_getLast?→JQ,mem_flatten→JS,filterMap_cons→JT,length_pos_iff→JV,any_cons→JW,map_nil→J4,all_map→J5,map_id'→J6,all_cons→J7,range→Uj,replicate→Uk,Pairwise→Uv
open PySem renaming wpAny_bind→Qe,wpAny_pure→Qp,wpAny_loadPart_at→QJ,wpAny_mono→QP,wpAny_truthy_bool→Q5,mem_of_lookup→Q9,wpAny_isSubtype_exc→Jg,wpAny_passesOwn→Ji,Value→J9,Shared→Ua,Program→Ub,Addr→Uc,FuncData→Ud,Expr→Ue,sizeLine→Uf,wpAny→Ug,starEach→Uh,compareOp→Ui,assignEach→Ux,foldedSetIterable→Uy
open PySem.Heap renaming lt_size→Qi,get?_push_of_some→Ql,get?_push_size→QB
open Nat renaming le_refl→Qo,lt_of_lt_of_le→Qv,le_trans→Qy,ne_of_lt→QO,le_of_not_lt→Q0,lt_irrefl→Ju,le_succ→Jy,ne_of_gt→JE,zero_add→JH,lt_of_le_of_lt→JJ,zero_le→JN,le_of_lt→J0
open Option.some renaming inj→Qu
open Bool renaming and_eq_true→QQ,false_ne_true→Js,false_eq_true→JK,eq_iff_iff→JX
open Array renaming getD_eq_getD_getElem?→Q8,getElem?_eq_getElem→JB,length_toList→JU
open Int renaming toNat_natCast→Jf,le_refl→Jz,le_antisymm→JY,not_lt→J8
open PySem.W.Fast renaming te1987589406359920131→Jm
open PySem.F renaming plainAttrs_list→Jn,slot_list_append→Jv,type_list_append→Jw
open PyProof.Rows renaming callWith_type1→Jo
open PySem.W renaming kia_one→Jp
open Option renaming getD_some→JR
open Array.Perm renaming refl→JZ
open PySem.PyData renaming list→Ul,bool→Um,str→Uo,strOk→Up,canLayAll0→Uq,depth→Ur,eqv→Us,shown→Uw
open PySem.PassesOwn renaming never→Ut
open PySem.Str renaming ofString→Uu
abbrev C9:=List J9
abbrev Ba:=List Ue
abbrev Bd:=Option J9
abbrev Be:=List Uc
abbrev Bk:=Option Uc
abbrev L3:=List (List C8)
abbrev LO:=List Bf
abbrev LP:=List (Int×Int)
open PySem.W (Frag)
open PySem.PyData (int)
open List (replicate)
namespace DL
open PySem PySem.Spec PySem.W PyProof.Rows
def topRunT(tb:String->Option Builtin)(p:Ub)(w:World)(m:Nat)(ann:Bd):Nat->SharedT->Thread->Option SharedT
 |0,_,_=>C4
 |n+1,s,t=>match through t,stepOk m ann t with
  |true,_=>O s
  |false,C6=>C4
  |false,C5=>match stepT (denote tb) p w s t with
   |some x=>topRunT tb p w m ann n x.1 x.2
   |none=>C4
theorem Nr{tb:String->Option Builtin}{p:Ub}{w:World}{m:Nat}{ann:Bd}:∀{n:Nat}{s s':SharedT}{t:Thread},topRunT tb p w m ann n s t=O s'->topRun tb p w m ann n s.abs t=O s'.abs
 |0,_,_,_,h=>by cases h
 |n+1,s,s',t,h=>by
  rw[topRunT]at h;rw[topRun];cases ht:through t with
  |true=>rw[ht]at h;cases h;rfl
  |false=>
   rw[ht]at h;cases hk:stepOk m ann t with
   |false=>rw[hk]at h;cases h
   |true=>
    rw[hk]at h;dsimp only at h⊢;cases hs:stepT (denote tb) p w s t with
    |none=>rw[hs]at h;cases h
    |some x=>rw[hs]at h;rw[stepT_spec hs];exact Nr h
def btOf(l:List Obj):BT:=(l.foldl (λ(x:BT×Nat) o=>(x.1.ins x.2 o,x.2+1)) (.nil,0)).1
noncomputable def T0 (w:World) (os:OsState):SharedT:=⟨btOf (boot_heap w.params).objs.toList,11,(boot_heap w.params).life,#[],boot_drawn,boot_toks,os⟩
theorem EI(w:World)(os:OsState):(T0 w os).abs=⟨boot_heap w.params,#[],boot_drawn,boot_toks,os⟩:=by kernel_rfl
theorem D7(w:World):((boot_heap w.params).isNs mainGlobals&&(#[]:Array GenState).size==0,(boot_heap w.params).objs.size,(boot_heap w.params).nsMap mainGlobals "__annotations__")=(C5,11,O (.ref 6)):=by kernel_rfl
noncomputable abbrev NZ (p q:Ub) (loose:List Str) (Xt:Ua->Bool) (w:World) (t:SharedT):=
 ((staticsOk (importedModules p.main.body) (boot_heap w.params) t.abs.heap&&namesBound p t.abs.heap&&gensDone t.abs&&laidKept (boot_heap w.params) t.abs.heap),openSeen q loose (importedModules p.main.body) Xt C5 t.abs)
theorem Ft{p q:Ub}{loose:List Str}{Xt:Ua->Bool}{N M:Nat}(e:opening p=plainProg p.main.scope.names)(hN:Nat.ble 600 N=C5)(f:∀s,fenceModules? p s=O s)(le:Nat.ble M N=C5)
  (run:∀(w:World)(os:OsState),(topRunT treeTable p w 11 (O (.ref 6)) M (T0 w os) (topStub p)).map (NZ p q loose Xt w)=O (C5,openGood q loose)):LeftO p q loose Xt (Hook.obs .none) (Hook.val .none) N:=λw=>by
 obtain⟨⟨h,gs,d,k,os⟩,e0,e'⟩:=Option.map_eq_some_iff.mp (boot_open e hN f w);have e':(h,gs,d,k)=(boot_heap w.params,#[],boot_drawn,boot_toks):=e';obtain⟨rfl,rfl,rfl,rfl⟩:h=boot_heap w.params/\gs=#[]/\d=boot_drawn/\k=boot_toks:=by simpa only[Prod.mk.injEq]using e'
 obtain⟨t,ht,l⟩:=Option.map_eq_some_iff.mp (run w os);have hr:=Nr ht;rw[EI]at hr;have r:=topRun_mono (N-M) _ _ _ _ hr;rw[show M+(N-M)=N by have:=Nat.le_of_ble_eq_true le;lia]at r;obtain⟨l1,l2⟩:=Prod.mk.inj l;have z:=D7 w;obtain⟨z1,z2,z3⟩:_/\_/\_:=by simpa only[Prod.mk.injEq]using z
 have tf:topFrom treeTable p w N ⟨boot_heap w.params,#[],boot_drawn,boot_toks,os⟩=O t.abs:=by
  unfold topFrom;dsimp only;rw[z1,z2,z3,r]
  show(match staticsOk (importedModules p.main.body) (boot_heap w.params) t.abs.heap&&namesBound p t.abs.heap&&gensDone t.abs&&laidKept (boot_heap w.params) t.abs.heap with|true=>O t.abs|false=>C4)=_
  rw[l1]
 unfold openEnds;rw[e0]
 show(topFrom treeTable p w N _).map _=_
 rw[tf];exact JM O (Prod.ext l2 C3)
end DL
open PySem in
lay_quick PySem.Challenge.pw_wishdeal_k29_partings DL.topRunT PySem.W.openGood PySem.W.staticsOk PySem.W.namesBound PySem.W.laidKept PySem.W.xlAt
namespace W
open PySem PySem.Spec DL
noncomputable abbrev p0:Ub:=PySem.Challenge.pw_wishdeal_k29_partings
noncomputable def Ym:Bc:=[1,2,4,5,7,8,9,10,11,12,13,14,15,17,18,19,20,22,23,24,25,26,27,28,29,30]
noncomputable def ixL:Bc:=[4,5,11,12,13,14,15,17,18,19,20,22,23,24,25,26,27,28,29,30]
noncomputable abbrev q0:Ub:=PySem.W.view p0 Ym
theorem NY:∀(w:World)(os:OsState),(PySem.W.Fast.tw10708255244068714335 PySem.W.Fast.tw14364793385576792824 PySem.W.Fast.tw2145434415902404324 w 11 (O (.ref 6)) 1248 (T0 w os) (PySem.W.topStub PySem.W.Fast.tw2145434415902404324)).map (λt=>((PySem.W.Fast.tw13471830651028734593 (PySem.W.Fast.tw5923862056798008813 (Program.main PySem.W.Fast.tw2145434415902404324).body) (PySem.W.boot_heap w.params) t.abs.heap&&PySem.W.Fast.tw4683006035507612052 PySem.W.Fast.tw2145434415902404324 t.abs.heap&&PySem.W.gensDone t.abs&&PySem.W.Fast.tw16898566250750103049 (PySem.W.boot_heap w.params) t.abs.heap),PySem.W.Fast.tw4187177175401517315 (PySem.W.view PySem.W.Fast.tw2145434415902404324 Ym) [] (PySem.W.Fast.tw5923862056798008813 (Program.main PySem.W.Fast.tw2145434415902404324).body) (λs=>PySem.W.Fast.tw4757257242682413121 (PySem.W.view PySem.W.Fast.tw2145434415902404324 Ym) [] s&&PySem.W.recOk [] s) C5 t.abs))=O (C5,PySem.W.Fast.tw3486900944545009338 (PySem.W.view PySem.W.Fast.tw2145434415902404324 Ym) []):=by intro w os;kernel_rfl
theorem NX:PySem.W.LeftO p0 q0 [] (λs=>PySem.W.xlAt q0 [] s&&PySem.W.recOk [] s) (PySem.W.Hook.obs .none) (PySem.W.Hook.val .none) 2396:=by
 refine Ft (M:=1248) (by kernel_rfl) C3 (λs=>by kernel_rfl) C3 λw os=>?_
 have h:=NY w os;rw[←PySem.W.Fast.te10708255244068714335,←PySem.W.Fast.te14364793385576792824,←PySem.W.Fast.te4187177175401517315,←PySem.W.Fast.te5923862056798008813,←PySem.W.Fast.te13471830651028734593,←PySem.W.Fast.te4683006035507612052,←PySem.W.Fast.te16898566250750103049,←PySem.W.Fast.te4757257242682413121,←PySem.W.Fast.te3486900944545009338,←PySem.W.Fast.te2145434415902404324]at h;exact h
end W
namespace L2
open PySem PySem.Spec PyProof.Rows
abbrev Key:=Sum Int Str
abbrev Bh:=List Key
noncomputable def WE:Key->J9->Bool
 |.inl k,v=>Value.isInt k v
 |.inr x,v=>Value.isStrOf x v
noncomputable def keyH(w:World):Key->Int
 |.inl k=>hashInt k
 |.inr x=>hashStr w x
theorem Y3:∀{k:Key}{v:J9},WE k v=C5->(∃i t,k=Sum.inl i/\v=Value.int i t)∨(∃x t,k=Sum.inr x/\v=Value.str x t)
 |.inl i,v,h=>by obtain⟨t,e⟩:=Value.isInt_shape (k:=i) (v:=v) h;exact .inl ⟨i,t,rfl,e⟩
 |.inr x,v,h=>by obtain⟨t,e⟩:=Value.isStrOf_shape (x:=x) (v:=v) h;exact .inr ⟨x,t,rfl,e⟩
theorem D6(i:Int)(t:Tok):WE (.inl i) (.int i t)=C5:=by simp[WE,Value.isInt]
theorem D5(x:Str)(t:Tok):WE (.inr x) (.str x t)=C5:=by simp[WE,Value.isStrOf]
theorem LF(a b:Int):decide ((Sum.inl a:Key)=Sum.inl b)=(a==b):=by
 by_cases e:a=b
 .subst e;simp
 .have h:¬(Sum.inl a:Key)=Sum.inl b:=λq=>e (Sum.inl.inj q)
  rw[QG h];exact(beq_eq_false_iff_ne.mpr e).symm
theorem LD(a b:Str):decide ((Sum.inr a:Key)=Sum.inr b)=decide (a=b):=by
 by_cases e:a=b
 .subst e;simp
 .have h:¬(Sum.inr a:Key)=Sum.inr b:=λq=>e (Sum.inr.inj q)
  rw[QG h,QG e]
theorem Hu(a:Int)(b:Str):decide ((Sum.inl a:Key)=Sum.inr b)=C6:=QG (λq=>nomatch q)
theorem Ht(a:Str)(b:Int):decide ((Sum.inr a:Key)=Sum.inl b)=C6:=QG (λq=>nomatch q)
noncomputable def ZD(prog:Ub)(w:World):PySem.KeyKind prog w Key where
 is:=WE
 hash:=keyH w
 inj:=λv a b ha hb=>by
  rcases Y3 ha with ⟨i,t,rfl,rfl⟩|⟨x,t,rfl,rfl⟩
  .rcases Y3 hb with ⟨j,u,rfl,e⟩|⟨y,u,rfl,e⟩
   .injection e with e1 _;rw[e1]
   .exact nomatch e
  .rcases Y3 hb with ⟨j,u,rfl,e⟩|⟨y,u,rfl,e⟩
   .exact nomatch e
   .injection e with e1 _;rw[e1]
 byValue:=λk v h=>by rcases Y3 h with ⟨i,t,rfl,rfl⟩|⟨x,t,rfl,rfl⟩<;>rfl
 pyHash:=λhv h=>by
  rcases Y3 hv with ⟨i,t,rfl,rfl⟩|⟨x,t,rfl,rfl⟩
  .exact wpAny_pyHash_int h
  .exact wpAny_pyHash_str h
 eqBool:=λhu hv h=>by
  rcases Y3 hu with ⟨i,t,rfl,rfl⟩|⟨x,t,rfl,rfl⟩
  .rcases Y3 hv with ⟨j,u,rfl,rfl⟩|⟨y,u,rfl,rfl⟩
   .rw[LF]at h;exact wpAny_eqBool_int h
   .rw[Hu]at h;exact SeqAt.EqAt.int_str i t y u _ _ _ _ h
  .rcases Y3 hv with ⟨j,u,rfl,rfl⟩|⟨y,u,rfl,rfl⟩
   .rw[Ht]at h;exact SeqAt.EqAt.str_int x t j u _ _ _ _ h
   .rw[LD]at h;exact wpAny_eqBool_str h
 «strs»:=λk x t v h=>by
  rcases Y3 h with ⟨i,u,rfl,e⟩|⟨y,u,rfl,e⟩
  .exact nomatch e
  .injection e with e1 _
   subst e1;cases v<;>rfl
theorem CB(prog:Ub)(w:World)(i:Int)(t:Tok):(ZD prog w).is (.inl i) (.int i t)=C5:=D6 i t
theorem CA(prog:Ub)(w:World)(x:Str)(t:Tok):(ZD prog w).is (.inr x) (.str x t)=C5:=D5 x t
inductive V where
 |non|bl (b:Bool)|int (i:Int)|str (x:Str)|byt (b:Array UInt8)|flt (b:UInt64)|ref (a:Uc)|ty (n:String)
 deriving DecidableEq
noncomputable def RelV:V->J9->Prop
 |.non,u=>u=Value.none
 |.bl b,u=>u=Value.bool b
 |.int i,u=>∃t,u=Value.int i t
 |.str x,u=>∃t,u=Value.str x t
 |.byt b,u=>∃t,u=Value.bytes b t
 |.flt b,u=>∃t,u=Value.float b t
 |.ref a,u=>u=Value.ref a
 |.ty n,u=>u=Value.type n
noncomputable abbrev Vals:List V->C9->Prop:=Paired RelV
theorem Vals.length{xs:List V}{us:C9}(r:Vals xs us):xs.length=us.length:=Paired.length r
theorem Vals.get:∀{xs:List V}{us:C9}{i:Nat}{x:V},Vals xs us->xs[i]?=O x->∃u,us[i]?=O u/\RelV x u
 |_,_,_,_,.nil,e=>by simp at e
 |_,_,0,_,.cons r _,e=>by simp at e;subst e;exact⟨_,rfl,r⟩
 |_,_,i+1,x,.cons _ t,e=>by obtain⟨u,h1,h2⟩:=Vals.get (i:=i) (x:=x) t (by simpa using e);exact⟨u,by simpa using h1,h2⟩
theorem Vals.set{x:V}{u:J9}(r:RelV x u):∀{xs:List V}{us:C9}(i:Nat),Vals xs us->Vals (xs.set i x) (us.set i u)
 |_,_,_,.nil=>.nil
 |_,_,0,.cons _ t=>.cons r t
 |_,_,i+1,.cons q t=>.cons q (Vals.set r i t)
theorem Vals.append:∀{xs ys:List V}{us ws:C9},Vals xs us->Vals ys ws->Vals (xs++ys) (us++ws)
 |_,_,_,_,.nil,s=>s
 |_,_,_,_,.cons r t,s=>.cons r (Vals.append t s)
theorem Vals.take:∀{xs:List V}{us:C9}(n:Nat),Vals xs us->Vals (xs.take n) (us.take n)
 |_,_,0,_=>.nil
 |_,_,_+1,.nil=>.nil
 |_,_,n+1,.cons r t=>.cons r (Vals.take n t)
theorem Vals.drop:∀{xs:List V}{us:C9}(n:Nat),Vals xs us->Vals (xs.drop n) (us.drop n)
 |_,_,0,r=>r
 |_,_,_+1,.nil=>.nil
 |_,_,n+1,.cons _ t=>Vals.drop n t
noncomputable def RelO:Option V->Bd->Prop
 |some v,O u=>RelV v u
 |none,C4=>True
 |_,_=>False
noncomputable def KV{κ:Type}:List (κ×V)->List (κ×J9)->Prop:=Paired λ(p:κ×V) (q:κ×J9)=>p.1=q.1/\RelV p.2 q.2
noncomputable def kV:Key->V
 |.inl i=>.int i
 |.inr x=>.str x
inductive HO where
  |lst (xs:List V)
  |tup (xs:List V)
  |dK (kvs:List (Key×V))|dT (kvs:List (Bh×V))
  |set (S:Int->Bool) (n:Nat)
  |ins (C dx:Uc) (fs:List (Str×V))
  |own (x:Uc)
  |xd (fs:List (Str×V))
  |met (f x:Uc)
  |rng (lo hi:Int)
  |frz (o:Obj) (u:HO)
  |tbl (ps:Array J9)
  |ext (φ:Heap->Prop)
abbrev Hp:=Uc->Option HO
noncomputable def upd(H:Hp)(a:Uc)(o:HO):Hp:=λb=>if b=a then O o else H b
theorem Kd{H:Hp}{a:Uc}{o:HO}:upd H a o a=O o:=by unfold upd;rw[Qq C3]
theorem US{H:Hp}{a b:Uc}{o:HO}(h:b≠a):upd H a o b=H b:=by unfold upd;rw[QE h]
theorem NW{H:Hp}{a b:Uc}{o u:HO}(h:H a=O o)(h':H b=O u)(d:o≠u):a≠b:=by intro e;subst e;rw[h]at h';exact d (Qu h')
theorem KO{H:Hp}{a b:Uc}{o:HO}(h:H a=O o)(h':H b=C4):a≠b:=by intro e;subst e;rw[h]at h';cases h'
section
variable(P:Ub)(w:World)
noncomputable def Ku(H:Hp)(h:Heap)(a:Uc):HO->Prop
 |.lst xs=>xs.length<=Uf/\∃(its:C9)(n:Nat),Vals xs its/\h.get? a=O {cls:=.type "list", data:=.seq its.toArray n}
 |.tup xs=>xs.length<=Uf/\∃its:C9,Vals xs its/\IsTup h a its.toArray
 |.dK kvs=>kvs.length<=Uf/\(a==sysModules)=C6/\∃vs,KV kvs vs/\h.DictOf (ZD P w) a vs
 |.dT kvs=>kvs.length<=Uf/\(a==sysModules)=C6/\∃xs:List (Bh×Uc×J9),
   Paired (λ(p:Bh×V) (q:Bh×Uc×J9)=>p.1=q.1/\H q.2.1=O (.tup (p.1.map kV))/\RelV p.2 q.2.2) kvs xs /\
   ∃o es ep,h.get? a=O o/\o.ExactDict/\o.data=.dict es ep/\es.toList=xs.map (entryOfKey (tupleKind (ZD P w)))/\(xs.map (·.1)).Nodup
 |.set S n=>h.SetOf (intKind P w) a S n
 |.ins C dx fs=>H dx=O (.own a)/\fs.length<=1000/\dx≠a/\h.get? a=O (PySem.W.instObj C dx) /\
   ∃mA,h.Ns1 dx mA/\(∀f,RelO (fs.lookup f) (mA f))/\PySem.Within mA (fs.map (·.1))
 |.own _=>∃o,h.get? a=O o
 |.xd fs=>∃mA,h.Ns1 a mA/\∀f,RelO (fs.lookup f) (mA f)
 |.rng lo hi=>∃t u v,h.get? a=O {cls:=.type "range", data:=.fields #[.int lo t,.int hi u,.int 1 v]}
 |.frz o u=>h.get? a=O o/\Ku H h a u
 |.tbl ps=>h.get? a=O {cls:=.none,data:=.fields ps}
 |.met f x=>h.get? a=O (PySem.W.methodObj (.ref f) (.ref x))
 |.ext φ=>φ h/\(∃o,h.get? a=O o)/\∀h1 h2:Heap,φ h1->(∀o,h1.get? a=O o->h2.get? a=O o)->φ h2
def HOk(H:Hp)(h:Heap):Prop:=∀a o,H a=O o->Ku P w H h a o
end
section
variable{P:Ub}{w:World}{H H':Hp}{h h':Heap}{a:Uc}{o:HO}
theorem Ku.lt(x:Ku P w H h a o):a<h.objs.size:=by
 cases o with
 |lst xs=>obtain⟨_,_,_,_,e⟩:=x;exact Qi e
 |tup xs=>obtain⟨_,_,_,p⟩:=x;exact p.lt
 |dK kvs=>obtain⟨_,_,_,_,o,_,_,e,_⟩:=x;exact Qi e
 |dT kvs=>obtain⟨_,_,_,_,o,_,_,e,_⟩:=x;exact Qi e
 |set S n=>obtain⟨o,_,_,_,e,_⟩:=x;exact Qi e
 |ins C dx fs=>obtain⟨_,_,_,e,_⟩:=x;exact Qi e
 |own y=>obtain⟨_,e⟩:=x;exact Qi e
 |xd fs=>obtain⟨_,⟨_,_,_,e,_⟩,_⟩:=x;exact Qi e
 |rng lo hi=>obtain⟨_,_,_,e⟩:=x;exact Qi e
 |frz ob u=>obtain⟨e,_⟩:=x;exact Qi e
 |tbl ps=>exact Qi (show h.get? a=O _ from x)
 |met f y=>exact Qi (show h.get? a=O _ from x)
 |ext φ=>obtain⟨_,⟨_,e⟩,_⟩:=x;exact Qi e
theorem Paired.mapP{α β:Type}{F G:α->β->Prop}:∀{l₁:List α}{l₂:List β},Paired F l₁ l₂->(∀a b,F a b->G a b)->Paired G l₁ l₂
 |_,_,.nil,_=>.nil
 |_,_,.cons r t,f=>.cons (f _ _ r) (Paired.mapP t f)
theorem Ku.stay(x:Ku P w H h a o)(k:∀b u,(b=a∨H b=O (.own a))->h.get? b=O u->h'.get? b=O u)
  (ho:∀b,H b=O (.own a)->H' b=O (.own a)) (ht:∀b xs,H b=O (.tup xs)->H' b=O (.tup xs)):Ku P w H' h' a o:=by
 induction o with
 |lst xs=>obtain⟨z,its,n,r,e⟩:=x;exact⟨z,its,n,r,k _ _ (.inl C3) e⟩
 |tup xs=>obtain⟨z,its,r,ob,e,c⟩:=x;exact⟨z,its,r,ob,k _ _ (.inl C3) e,c⟩
 |dK kvs=>obtain⟨z,y,vs,r,ob,es,ep,e,c⟩:=x;exact⟨z,y,vs,r,ob,es,ep,k _ _ (.inl C3) e,c⟩
 |dT kvs=>obtain⟨z,y,xs,r,ob,es,ep,e,c⟩:=x;exact⟨z,y,xs,Paired.mapP r λp q z=>⟨z.1,ht _ _ z.2.1,z.2.2⟩,ob,es,ep,k _ _ (.inl C3) e,c⟩
 |set S n=>obtain⟨ob,es,ep,t,e,c⟩:=x;exact⟨ob,es,ep,t,k _ _ (.inl C3) e,c⟩
 |ins C dx fs=>obtain⟨d,z,ne,e,mA,⟨od,es,ep,e2,c⟩,r⟩:=x;exact⟨ho _ d,z,ne,k _ _ (.inl C3) e,mA,⟨od,es,ep,k _ _ (.inr d) e2,c⟩,r⟩
 |own y=>obtain⟨ob,e⟩:=x;exact⟨ob,k _ _ (.inl C3) e⟩
 |xd fs=>obtain⟨mA,⟨od,es,ep,e,c⟩,r⟩:=x;exact⟨mA,⟨od,es,ep,k _ _ (.inl C3) e,c⟩,r⟩
 |rng lo hi=>obtain⟨t,u,v,e⟩:=x;exact⟨t,u,v,k _ _ (.inl C3) e⟩
 |frz ob u ih=>obtain⟨e,q⟩:=x;exact⟨k _ _ (.inl C3) e,ih q⟩
 |tbl ps=>have e:h.get? a=O {cls:=.none,data:=.fields ps}:=x;show h'.get? a=O {cls:=.none,data:=.fields ps};exact k a _ (.inl C3) e
 |met f y=>have e:h.get? a=O (PySem.W.methodObj (.ref f) (.ref y)):=x;show h'.get? a=O (PySem.W.methodObj (.ref f) (.ref y));exact k a _ (.inl C3) e
 |ext φ=>obtain⟨p,⟨o,e⟩,st⟩:=x;exact⟨st _ _ p λo q=>k _ _ (.inl C3) q,⟨o,k _ _ (.inl C3) e⟩,st⟩
theorem HOk.lt(x:HOk P w H h)(e:H a=O o):a<h.objs.size:=(x a o e).lt
theorem HOk.fresh(x:HOk P w H h)(e:h.objs.size<=a):H a=C4:=by
 cases q:H a with
 |none=>rfl
 |some u=>exact absurd (Qv (x.lt q) e) (Ju _)
theorem HOk.kept(x:HOk P w H h)(k:∀b u,h.get? b=O u->h'.get? b=O u):HOk P w H h':=λa o e=>
 (x a o e).stay (λb u _ q=>k b u q) (λ_ q=>q) λ_ _ q=>q
theorem HOk.laid(x:HOk P w H h)(k:∀b u,h.get? b=O u->h'.get? b=O u)(hp:h.objs.size<=a)(new:Ku P w (upd H a o) h' a o):HOk P w (upd H a o) h':=λb u e=>by
 have hn:=x.fresh hp;by_cases hb:b=a
 .subst hb;rw[Kd]at e;cases e;exact new
 .rw[US hb]at e
  exact(x b u e).stay (λc v _ q=>k c v q) (λc q=>by rw[US (KO q hn)];exact q) λc xs q=>by rw[US (KO q hn)];exact q
end
def Rd(H:Hp)(a:Uc)(u:HO):Prop:=H a=O u ∨ ∃o,H a=O (.frz o u)
theorem Rd.ok{P:Ub}{w:World}{H:Hp}{h:Heap}{a:Uc}{u:HO}(r:Rd H a u)(x:HOk P w H h):Ku P w H h a u:=by
 rcases r with r|⟨o,r⟩
 .exact x a u r
 .obtain⟨_,q⟩:=x a _ r
  exact q
noncomputable def Mut:Option HO->Prop
 |some (.lst _)=>True
 |some (.dK _)=>True
 |some (.dT _)=>True
 |some (.set _ _)=>True
 |some (.ins _ _ _)=>True
 |some (.ext _)=>True
 |_=>False
section
variable{P:Ub}{w:World}{H:Hp}{h h':Heap}{x e:Uc}{o':HO}
theorem HOk.write(ok:HOk P w H h)(mu:Mut (H x))(he:e=x∨H e=O (.own x))(k:∀b u,b≠e->h.get? b=O u->h'.get? b=O u)(Ad:∃u,h'.get? e=O u)
  (new:Ku P w (upd H x o') h' x o'):HOk P w (upd H x o') h':=λb u q=>by
 have nown:∀c y,H c=O (.own y)->c≠x:=λc y r z=>by subst z;rw[r]at mu;exact mu
 have ntup:∀c xs,H c=O (.tup xs)->c≠x:=λc xs r z=>by subst z;rw[r]at mu;exact mu
 by_cases hb:b=x
 .subst hb;rw[Kd]at q;cases q;exact new
 .rw[US hb]at q
  by_cases BF:b=e
  .have q':H b=O (.own x):=by
    rcases he with z|z
    .exact absurd (BF.trans z) hb
    .rw[BF];exact z
   rw[q]at q';cases q';obtain⟨v,hv⟩:=Ad;exact⟨v,by rw[BF];exact hv⟩
  .refine(ok b u q).stay (λc v hc r=>k c v ?_ r) (λc r=>by rw[US (nown c b r)];exact r) λc xs r=>by rw[US (ntup c xs r)];exact r
   rcases hc with rfl|hc
   .exact BF
   .rintro rfl
    rcases he with z|z
    .exact nown c b hc z
    .rw[hc]at z;cases z;exact hb C3
end
structure Un(fs ex:Be)(H H':Hp)(h h':Heap):Prop where
 keep:∀b o,h.get? b=O o->H b=C4->b∉fs->b∉ex->h'.get? b=O o
 slot:∀b o,h.get? b=O o->H b=C4->b∈fs->b∉ex->∃sl,h'.get? b=O {o with slots:=sl}
 free:∀b o,h.get? b=O o->H b=C4->b∉ex->H' b=C4
 there:∀b o,h.get? b=O o->b∉ex->∃o',h'.get? b=O o'
 tups:∀b xs,H b=O (.tup xs)->H' b=O (.tup xs)
 frzs:∀b o u,H b=O (.frz o u)->H' b=O (.frz o u)
 tbls:∀b ps,H b=O (.tbl ps)->∃more,H' b=O (.tbl (ps++more))
section
variable{fs fs' ex ex':Be}{H H1 H2:Hp}{h h1 h2 h':Heap}{a x e:Uc}{o:HO}
theorem Un.any(u:Un fs ex H H1 h h1){b:Uc}{ob:Obj}(q:h.get? b=O ob)(n:H b=C4)(hx:b∉ex):∃sl,h1.get? b=O {ob with slots:=sl}:=by
 by_cases hb:b∈fs
 .exact u.slot b ob q n hb hx
 .exact⟨ob.slots,u.keep b ob q n hb hx⟩
theorem Un.kept(k:∀b u,h.get? b=O u->h'.get? b=O u):Un fs ex H H h h':=
 ⟨λb ob q _ _ _=>k b ob q,λb ob q _ _ _=>⟨ob.slots,k b ob q⟩,λ_ _ _ n _=>n,λb ob q _=>⟨ob,k b ob q⟩,λ_ _ q=>q,λ_ _ _ q=>q,λ_ ps q=>⟨#[],by rw[q];simp⟩⟩
theorem Un.refl:Un fs ex H H h h:=Un.kept λ_ _ q=>q
theorem Un.laid(k:∀b u,h.get? b=O u->h'.get? b=O u)(hp:h.objs.size<=a)(hn:H a=C4):Un fs ex H (upd H a o) h h' where
 keep:=λb u q _ _ _=>k b u q
 slot:=λb u q _ _ _=>⟨u.slots,k b u q⟩
 free:=λb u q n _=>by rw[US (QO (Qv (Qi q) hp))];exact n
 there:=λb u q _=>⟨u,k b u q⟩
 tups:=λb xs q=>by rw[US (KO q hn)];exact q
 frzs:=λb u xs q=>by rw[US (KO q hn)];exact q
 tbls:=λb ps q=>⟨#[],by rw[US (KO q hn),q];simp⟩
theorem Un.write(mu:Mut (H x))(he:e=x∨H e=O (.own x))(k:∀b u,b≠e->h.get? b=O u->h'.get? b=O u)(Ad:∃u,h'.get? e=O u):Un fs ex H (upd H x o) h h':=by
 have hx:∀b,H b=C4->b≠x:=λb n z=>by subst z;rw[n]at mu;exact mu
 have hb:∀b,H b=C4->b≠e:=λb n z=>by
  subst z;rcases he with r|r
  .exact hx b n r
  .rw[n]at r;cases r
 have hm:∀b u,H b=O u->¬Mut (O u)->b≠x:=λb u q nm z=>by subst z;rw[q]at mu;exact nm mu
 refine⟨λb u q n _ _=>k b u (hb b n) q,λb u q n _ _=>⟨u.slots,k b u (hb b n) q⟩,λb u q n _=>by rw[US (hx b n)];exact n,λb u q _=>?_,
  λb xs q=>by rw[US (hm b _ q λz=>z)];exact q,λb u xs q=>by rw[US (hm b _ q λz=>z)];exact q,λb ps q=>⟨#[],by rw[US (hm b _ q λz=>z),q];simp⟩⟩
 by_cases BF:b=e
 .subst BF;exact Ad
 .exact⟨u,k b u BF q⟩
end
noncomputable def trk(h:Heap)(H:Hp):Be:=(Uj h.objs.size).filter λa=>(H a).isSome
noncomputable def Zh(h:Heap)(H:Hp):Heap:=PySem.W.hideAll h (trk h H)
theorem D4(h:Heap)(H:Hp):(Zh h H).objs.size=h.objs.size:=PySem.W.hideAll_size _ _
theorem EH{h:Heap}{H:Hp}{b:Uc}{o:Obj}(e:h.get? b=O o)(n:H b=C4):(Zh h H).get? b=O o:=
 PySem.W.hideAll_get _ e λhm=>by have q:(H b).isSome=C5:=(Jk.mp hm).2;rw[n]at q;simp at q
theorem Fs{h:Heap}{H:Hp}{b:Uc}{o:Obj}(e:(Zh h H).get? b=O o):h.get? b=O o/\H b=C4:=by
 have e':h.get? b=O o:=PySem.W.of_hideAll (trk h H) e;refine⟨e',?_⟩;cases q:H b with
 |none=>rfl
 |some x=>have hm:b∈trk h H:=List.mem_filter.mpr ⟨List.mem_range.mpr (Heap.lt_size e'),by simp[q]⟩;have z:(Zh h H).get? b=C4:=PySem.W.hideAll_none (trk h H) hm;rw[z]at e;cases e
structure Mod(K:Frag)(mg:Str->Bd)(base:Heap):Prop where
 kin:K.In base
 glob:base.Ns mainGlobals mg
 blt:∃mb,base.Ns builtinsNs mb/\∀x:Str,x ≠ "__name__" -> mb x=bootBuiltins x
 nolimit:base.NoLimit
structure Cx where
 prog:Ub
 w:World
 K:Frag
 mg:Str->Bd
 base:Heap
 A:Around
 N:List Str
 s₀:Ua
 H₀:Hp
 env:Env
 outer:List Env
 stack:List Env
 ex:Be
 fn:Str->Bool
 calm:Bool
 pn:List (Uc×Obj)
 xe:J9->Ua->Prop
noncomputable def frs(l:List Env):Be:=l.filterMap (·.frame)
noncomputable abbrev Cx.fs(X:Cx):Be:=frs X.outer
def Vis(sc:Scope)(x:Str):Prop:=sc.names.lookup x=O .local∨sc.names.lookup x=O .cell∨sc.names.lookup x=O .free
def Loc(sc:Scope)(x:Str):Prop:=sc.names.lookup x=O .local∨sc.names.lookup x=O .cell
def Look(env:Env)(h:Heap)(m:Str->Bd)(x:Str)(u:J9):Prop:=
 (env.kindOf x=O .local/\m x=O u)∨((env.kindOf x=O .cell∨env.kindOf x=O .free)/\∃c,env.cells.lookup x=O c/\h.IsCell c (O u))
structure Cx.Ok(X:Cx):Prop where
 mod:Mod X.K X.mg X.base
 kind:X.env.scope.kind=.function
 glob:X.env.globals=mainGlobals
 blt:X.env.builtins=builtinsNs
 above:X.s₀.heap.objs.size<=X.env.locals
 inj:∀x y c,X.env.cells.lookup x=O c->X.env.cells.lookup y=O c->x=y
 has:∀x,(X.env.kindOf x=O .cell∨X.env.kindOf x=O .free)->∃c,X.env.cells.lookup x=O c
 cab:∀x c,X.fn x=C5->X.env.cells.lookup x=O c->X.s₀.heap.objs.size<=c
 hd:X.calm=C5->X.A.handled=C4
 frames:X.A.frames=O X.stack
 stk:X.stack=X.outer∨(X.stack=X.env::X.outer/\X.env.frame=O X.env.locals)
 exf:∀b∈X.ex,b≠X.env.locals/\∀x c,X.env.cells.lookup x=O c->c≠b
 bs:∀b o,X.base.get? b=O o->X.s₀.heap.get? b=O o/\X.H₀ b=C4
 bsz:X.base.objs.size<=X.s₀.heap.objs.size
 noex:∀b o,X.base.get? b=O o->b∉X.ex
 exfs:∀b∈X.ex,b∉X.fs
 funs:X.s₀.heap.FunFrames X.base X.outer
 frf:∀b∈X.fs,X.H₀ b=C4
structure Inv(X:Cx)(pins:List (Uc×Obj))(σ:List (Option V))(H:Hp)(s:Ua):Prop where
 ok:X.Ok
 os:s.os=X.s₀.os
 bare:AllBare s.gens
 base:Un X.fs X.ex X.H₀ H X.s₀.heap s.heap
 loc:∃m,s.heap.Ns X.env.locals m/\∀(i:Nat)(x:Str)(v:V),X.N[i]?=O x->σ[i]?=O (O v)->Vis X.env.scope x->∃u,RelV v u/\Look X.env s.heap m x u
 cell:∀x c,X.env.cells.lookup x=O c->∃v,s.heap.IsCell c v
 free:H X.env.locals=C4
 freeC:∀x c,X.env.cells.lookup x=O c->H c=C4
 pin:∀p∈X.pn++pins,s.heap.get? p.1=O p.2/\H p.1=C4/\p.1≠X.env.locals/\p.1∉X.fs/\∀v,p.2.data≠.cell v
 hok:HOk X.prog X.w H s.heap
 len:σ.length=X.N.length
section
variable{X:Cx}{pins:List (Uc×Obj)}{σ:List (Option V)}{H H':Hp}{s:Ua}{h':Heap}
theorem Cx.Ok.nofr(ok:X.Ok){b:Uc}{o:Obj}(e:X.base.get? b=O o):b∉X.fs:=λhb=>by have:=(ok.funs.mem hb).1;rw[e]at this;cases this
theorem Inv.bs(I:Inv X pins σ H s):∀b o,X.base.get? b=O o->s.heap.get? b=O o/\H b=C4:=λb o e=>
 ⟨I.base.keep b o (I.ok.bs b o e).1 (I.ok.bs b o e).2 (I.ok.nofr e) (I.ok.noex b o e),I.base.free b o (I.ok.bs b o e).1 (I.ok.bs b o e).2 (I.ok.noex b o e)⟩
theorem Inv.bk(I:Inv X pins σ H s):∀b o,X.base.get? b=O o->s.heap.get? b=O o:=λb o e=>(I.bs b o e).1
theorem Inv.mod(I:Inv X pins σ H s):Mod X.K X.mg X.base:=I.ok.mod
theorem Inv.kIn(I:Inv X pins σ H s):X.K.In s.heap:=I.ok.mod.kin.keeps I.bk
theorem Inv.lt(I:Inv X pins σ H s):X.env.locals<s.heap.objs.size:=let ⟨_,hn,_⟩:=I.loc;hn.lt
theorem Inv.sz(I:Inv X pins σ H s):X.s₀.heap.objs.size<=s.heap.objs.size:=Qy I.ok.above (J0 I.lt)
theorem Inv.nofs(I:Inv X pins σ H s){a:Uc}(h:s.heap.objs.size<=a):a∉X.fs:=λhb=>by obtain⟨_,o,ho,_⟩:=I.ok.funs.mem hb;exact absurd (Qv (Qi ho) (Qy I.sz h)) (Ju _)
theorem Inv.cne(I:Inv X pins σ H s):∀x c,X.env.cells.lookup x=O c->c≠X.env.locals:=λx c e z=>by obtain⟨v,o,ho,hd⟩:=I.cell x c e;obtain⟨m,⟨o',es,ep,ho',hd',_⟩,_⟩:=I.loc;rw[z,ho']at ho;cases ho;rw[hd']at hd;cases hd
theorem Inv.funs(I:Inv X pins σ H s):s.heap.FunFrames X.base X.outer:=by
 have all:∀(l:List Env),(∀b∈frs l,b∈X.fs)->X.s₀.heap.FunFrames X.base l->s.heap.FunFrames X.base l:=by
  intro l;induction l with
  |nil=>intro _ _;trivial
  |cons env r ih=>
   intro hs hl;obtain⟨hk,⟨L,o,hf,hn,ho,hd⟩,hr⟩:=hl;have hL:L∈X.fs:=hs L (by unfold frs;rw[JT,hf];exact Qh);obtain⟨sl,e⟩:=I.base.slot L o ho (I.ok.frf L hL) hL λz=>I.ok.exfs L z hL
   exact⟨hk,⟨L,_,hf,hn,e,hd⟩,ih (λb hb=>hs b (by unfold frs;rw[JT,hf];exact Qm _ hb)) hr⟩
 exact all X.outer (λ_ hb=>hb) I.ok.funs
theorem Inv.stack(I:Inv X pins σ H s):s.heap.FunFrames X.base X.stack:=by
 rcases I.ok.stk with e|⟨e,hf⟩
 .rw[e];exact I.funs
 .rw[e]
  obtain⟨m,hn,_⟩:=I.loc;refine .cons (by rw[I.ok.kind];decide) hf hn ?_ I.funs;exact Heap.get?_none_of_le (Qy I.ok.bsz I.ok.above)
theorem Inv.stkSub(I:Inv X pins σ H s):∀b∈frs X.stack,b∈X.env.locals::X.fs:=λb hb=>by
 rcases I.ok.stk with e|⟨e,hf⟩
 .rw[e]at hb;exact Qm _ hb
 .rw[e]at hb
  unfold frs at hb;rw[JT,hf]at hb;exact hb
theorem Inv.stkFree(I:Inv X pins σ H s):∀b∈frs X.stack,H b=C4:=λb hb=>by
 rcases QM.mp (I.stkSub b hb)with e|hb
 .rw[e];exact I.free
 .obtain⟨_,o,ho,_⟩:=I.ok.funs.mem hb
  exact I.base.free b o ho (I.ok.frf b hb) λz=>I.ok.exfs b z hb
theorem Inv.step{g':Array GenState}{t':Nat}{d':Drawn}{ch:Be}(I:Inv X pins σ H s)
  (hch:∀b∈ch,(b∈X.ex∨X.s₀.heap.objs.size<=b)/\b≠X.env.locals/\(∀x c,X.env.cells.lookup x=O c->c≠b)/\∀p∈X.pn++pins,p.1≠b)
  (keep:∀b o,b≠X.env.locals->b∉X.fs->b∉ch->s.heap.get? b=O o->H b=C4->h'.get? b=O o)
  (slot:∀b o,b≠X.env.locals->b∈X.fs->b∉ch->s.heap.get? b=O o->H b=C4->∃sl,h'.get? b=O {o with slots:=sl}) (free:∀b o,b∉ch->s.heap.get? b=O o->H b=C4->H' b=C4)
  (there:∀b o,b∉ch->s.heap.get? b=O o->∃o',h'.get? b=O o')
  (tups:∀b xs,H b=O (.tup xs)->H' b=O (.tup xs)) (frzs:∀b o u,H b=O (.frz o u)->H' b=O (.frz o u)) (tbls:∀b ps,H b=O (.tbl ps)->∃more,H' b=O (.tbl (ps++more)))
  (ns:∀m,s.heap.Ns X.env.locals m->h'.Ns X.env.locals m) (hok:HOk X.prog X.w H' h') (hg:AllBare g') :
  Inv X pins σ H' {s with heap:=h',gens:=g',drawn:=d',toks:=t'}:=by
 have neL:∀b o,X.s₀.heap.get? b=O o->b≠X.env.locals:=λb o e=>QO (Qv (Qi e) I.ok.above)
 have neC:∀b o,X.s₀.heap.get? b=O o->b∉X.ex->b∉ch:=λb o e hx hb=>by
  rcases(hch b hb).1 with z|z
  .exact hx z
  .exact absurd (Qv (Qi e) z) (Ju _)
 have cellK:∀x c,X.env.cells.lookup x=O c->∀v,s.heap.IsCell c v->h'.IsCell c v:=λx c e v ⟨o,ho,hd⟩=>by
  have nch:c∉ch:=λz=>(hch c z).2.2.1 x c e C3
  by_cases hc:c∈X.fs
  .obtain⟨sl,q⟩:=slot c o (I.cne x c e) hc nch ho (I.freeC x c e)
   exact⟨_,q,hd⟩
  .exact⟨o,keep c o (I.cne x c e) hc nch ho (I.freeC x c e),hd⟩
 refine⟨I.ok,I.os,hg,⟨λb o e n hb hx=>?_,λb o e n hb hx=>?_,λb o e n hx=>?_,λb o e hx=>?_,λb xs e=>tups b xs (I.base.tups b xs e),λb o xs e=>frzs b o xs (I.base.frzs b o xs e),λb ps e=>?_⟩,?_,λx c e=>?_,?_,λx c e=>?_,λp hp=>?_,hok,I.len⟩
 .exact keep b o (neL b o e) hb (neC b o e hx) (I.base.keep b o e n hb hx) (I.base.free b o e n hx)
 .obtain⟨sl,e1⟩:=I.base.slot b o e n hb hx
  obtain⟨Bs,e2⟩:=slot b _ (neL b o e) hb (neC b o e hx) e1 (I.base.free b o e n hx);exact⟨Bs,e2⟩
 .obtain⟨o',e1⟩:=I.base.there b o e hx
  exact free b o' (neC b o e hx) e1 (I.base.free b o e n hx)
 .obtain⟨o',e1⟩:=I.base.there b o e hx
  exact there b o' (neC b o e hx) e1
 .obtain⟨m1,e1⟩:=I.base.tbls b ps e
  obtain⟨m2,e2⟩:=tbls b _ e1;exact⟨m1++m2,by rw[e2,Array.append_assoc]⟩
 .obtain⟨m,hn,hl⟩:=I.loc
  refine⟨m,ns m hn,λi x v e1 e2 e3=>?_⟩;obtain⟨u,r,l⟩:=hl i x v e1 e2 e3;refine⟨u,r,?_⟩;rcases l with l|⟨k,c,e,z⟩
  .exact .inl l
  .exact .inr ⟨k,c,e,cellK x c e _ z⟩
 .obtain⟨v,z⟩:=I.cell x c e
  exact⟨v,cellK x c e v z⟩
 .obtain⟨m,⟨o,_,_,ho,_⟩,_⟩:=I.loc
  exact free _ o (λz=>(hch _ z).2.1 C3) ho I.free
 .obtain⟨v,o,ho,hd⟩:=I.cell x c e
  exact free c o (λz=>(hch c z).2.2.1 x c e C3) ho (I.freeC x c e)
 .obtain⟨e,n,ne,nf,d⟩:=I.pin p hp
  have nch:p.1∉ch:=λz=>(hch p.1 z).2.2.2 p hp C3
  exact⟨keep p.1 p.2 ne nf nch e n,free p.1 p.2 nch e n,ne,nf,d⟩
theorem Inv.un{t':Nat}(I:Inv X pins σ H s)(u:Un X.fs [] H H' s.heap h')(hok:HOk X.prog X.w H' h'):Inv X pins σ H' {s with heap:=h',toks:=t'}:=by obtain⟨m,⟨o,es,ep,ho,r⟩,_⟩:=id I.loc;obtain⟨sl,hL⟩:=u.any ho I.free (by simp);exact I.step (g':=s.gens) (d':=s.drawn) (ch:=[]) (λ_ z=>nomatch z) (λb o _ hb _ e n=>u.keep b o e n hb (by simp)) (λb o _ hb _ e n=>u.slot b o e n hb (by simp)) (λb o _ e n=>u.free b o e n (by simp)) (λb o _ e=>u.there b o e (by simp)) u.tups u.frzs u.tbls (λm' hm=>by obtain⟨o',es',ep',ho',r'⟩:=hm;rw[ho]at ho';cases ho';exact⟨_,es',ep',hL,r'⟩) hok I.bare
theorem Inv.call{g':Array GenState}{t':Nat}{d':Drawn}{ch:Be}(I:Inv X pins σ H s)(u:Un (frs X.stack) ch H H' s.heap h')(hok:HOk X.prog X.w H' h')(hg:AllBare g')
  (hch:∀b∈ch,(b∈X.ex∨X.s₀.heap.objs.size<=b)/\b≠X.env.locals/\(∀x c,X.env.cells.lookup x=O c->c≠b)/\∀p∈X.pn++pins,p.1≠b) :
  Inv X pins σ H' {s with heap:=h',gens:=g',drawn:=d',toks:=t'}:=by
 obtain⟨m,⟨o,es,ep,ho,r⟩,_⟩:=id I.loc;obtain⟨sl,hL⟩:=u.any ho I.free λz=>(hch _ z).2.1 C3
 exact I.step (ch:=ch) hch (λb o hL hb hc e n=>u.keep b o e n (λz=>(QM.mp (I.stkSub b z)).elim hL hb) hc) (λb o _ _ hc e n=>u.any e n hc) (λb o hc e n=>u.free b o e n hc) (λb o hc e=>u.there b o e hc) u.tups u.frzs u.tbls (λm' hm=>by obtain⟨o',es',ep',ho',r'⟩:=hm;rw[ho]at ho';cases ho';exact⟨_,es',ep',hL,r'⟩) hok hg
theorem Inv.turned{t':Nat}{it:Uc}(I:Inv X pins σ H s)(k:∀b o,b≠it->s.heap.get? b=O o->h'.get? b=O o)(hn:H it=C4)(hL:it≠X.env.locals)
  (h1:it∈X.ex∨X.s₀.heap.objs.size<=it) (h2:∀x c,X.env.cells.lookup x=O c->c≠it) (h3:∀p∈X.pn++pins,p.1≠it):Inv X pins σ H {s with heap:=h',toks:=t'}:=by
 have nit:∀b u,H b=O u->b≠it:=λb u e z=>by rw[z,hn]at e;cases e
 refine I.step (g':=s.gens) (d':=s.drawn) (ch:=[it]) (λb hb=>?_) (λb o _ _ hc e _=>k b o (λz=>hc (by simp[z])) e) (λb o _ _ hc e _=>⟨o.slots,k b o (λz=>hc (by simp[z])) e⟩) (λ_ _ _ _ n=>n)
  (λb o hc e=>⟨o,k b o (λz=>hc (by simp[z])) e⟩) (λ_ _ e=>e) (λ_ _ _ e=>e) (λb ps e=>⟨#[],by rw[e];simp⟩) (λm hm=>?_) (λb u e=>?_) I.bare
 .have e:b=it:=by simpa using hb
  subst e;exact⟨h1,hL,h2,h3⟩
 .obtain⟨o,es,ep,ho,r⟩:=hm
  exact⟨o,es,ep,k _ o (Ne.symm hL) ho,r⟩
 .refine(I.hok b u e).stay (λc v hc q=>k c v ?_ q) (λ_ q=>q) λ_ _ q=>q
  rcases hc with z|z
  .rw[z];exact nit b u e
  .exact nit c _ z
theorem Inv.tok(I:Inv X pins σ H s)(t:Nat):Inv X pins σ H {s with toks:=t}:=I.un (h':=s.heap) (t':=t) Un.refl I.hok
theorem Inv.kept{t':Nat}(I:Inv X pins σ H s)(k:∀b u,s.heap.get? b=O u->h'.get? b=O u):Inv X pins σ H {s with heap:=h',toks:=t'}:=I.un (Un.kept k) (I.hok.kept k)
theorem Inv.laid{a:Uc}{o:HO}{t':Nat}(I:Inv X pins σ H s)(k:∀b u,s.heap.get? b=O u->h'.get? b=O u)(hp:s.heap.objs.size<=a)(new:Ku X.prog X.w (upd H a o) h' a o) :
  Inv X pins σ (upd H a o) {s with heap:=h',toks:=t'}:=I.un (Un.laid k hp (I.hok.fresh hp)) (I.hok.laid k hp new)
theorem Inv.write{x e:Uc}{o:HO}{t':Nat}(I:Inv X pins σ H s)(mu:Mut (H x))(he:e=x∨H e=O (.own x))(k:∀b u,b≠e->s.heap.get? b=O u->h'.get? b=O u)(Ad:∃u,h'.get? e=O u)
  (new:Ku X.prog X.w (upd H x o) h' x o):Inv X pins σ (upd H x o) {s with heap:=h',toks:=t'}:=I.un (Un.write mu he k Ad) (I.hok.write mu he k Ad new)
theorem Inv.pins_of{pins':List (Uc×Obj)}(I:Inv X pins σ H s)(h:∀p∈pins',s.heap.get? p.1=O p.2/\H p.1=C4/\p.1≠X.env.locals/\p.1∉X.fs/\∀v,p.2.data≠.cell v):Inv X pins' σ H s:=
 ⟨I.ok,I.os,I.bare,I.base,I.loc,I.cell,I.free,I.freeC,λp hp=>(QF.mp hp).elim (λz=>I.pin p (QI _ z)) (h p),I.hok,I.len⟩
theorem PN{N:List Str}(hN:N.Nodup){i j:Nat}{x:Str}(a:N[i]?=O x)(b:N[j]?=O x):i=j:=by obtain⟨h1,e1⟩:=Qg.mp a;obtain⟨h2,e2⟩:=Qg.mp b;exact(List.getElem_inj hN).mp (e1.trans e2.symm)
theorem OZ{M:Model}{A:Around}{E:J9->Ua->Prop}{i:Nat}{x:Str}{v:V}{u:J9}{Q:Unit->Ua->Prop}(I:Inv X pins σ H s)(hN:X.N.Nodup)(hi:X.N[i]?=O x)(hx:Loc X.env.scope x)(r:RelV v u)
  (h:∀s',Inv X pins (σ.set i (O v)) H s'->(∃a,Heap.SameBut a s.heap s'.heap/\(a=X.env.locals∨X.env.cells.lookup x=O a))->Q () s') (hf:X.fn x=C5∨X.env.scope.names.lookup x=O .local:=by first|exact .inl rfl|exact .inr rfl|assumption):Ug M A (storeName X.env x u) Q E s:=by
 obtain⟨m,hn,hl⟩:=id I.loc;have hcls:(X.env.scope.kind==.class || (X.env.scope.kind==.module&&X.env.locals != X.env.globals))=C6:=by rw[I.ok.kind];rfl
 have hiσ:i<σ.length:=by rw[I.len];exact(Qg.mp hi).1
 have cne:=I.cne
 have tracked:∀{a:Uc}{h':Heap},(∃o,s.heap.get? a=O o/\H a=C4)->Heap.SameBut a s.heap h'->HOk X.prog X.w H h':=λ{a h'} ha hs b ob e=>by
  obtain⟨_,_,hfree⟩:=ha;refine(I.hok b ob e).stay (λc w' hc q=>(hs.2 c ?_).trans q) (λ_ q=>q) λ_ _ q=>q
  rintro rfl;rcases hc with rfl|hc
  .rw[hfree]at e;cases e
  .rw[hfree]at hc;cases hc
 rcases hx with hk|hk
 .refine wpAny_storeName_local hk hn (λh' hn' hs=>?_) hcls
  obtain⟨oL,_,_,hoL,_⟩:=id hn;refine h _ ⟨I.ok,I.os,I.bare,⟨λb o e n hb hx=>?_,λb o e n hb hx=>?_,I.base.free,λb o e hx=>?_,I.base.tups,I.base.frzs,I.base.tbls⟩,⟨_,hn',λj y v' e1 e2 e3=>?_⟩,λy c e=>?_,I.free,I.freeC,λp hp=>?_,tracked ⟨oL,hoL,I.free⟩ hs,by simpa using I.len⟩ ⟨_,hs,.inl C3⟩
  .exact(hs.2 b (QO (Qv (Qi e) I.ok.above))).trans (I.base.keep b o e n hb hx)
  .obtain⟨sl,e1⟩:=I.base.slot b o e n hb hx
   exact⟨sl,(hs.2 b (QO (Qv (Qi e) I.ok.above))).trans e1⟩
  .obtain⟨o',e1⟩:=I.base.there b o e hx
   exact⟨o',(hs.2 b (QO (Qv (Qi e) I.ok.above))).trans e1⟩
  .by_cases hj:j=i
   .subst hj
    rw[hi]at e1;cases e1;rw[QD hiσ]at e2;cases e2;exact⟨u,r,.inl ⟨hk,by simp⟩⟩
   .rw[Qf (Ne.symm hj)]at e2
    obtain⟨u',r',q⟩:=hl j y v' e1 e2 e3;refine⟨u',r',?_⟩;rcases q with ⟨k,e⟩|⟨k,c,e,z⟩
    .refine .inl ⟨k,?_⟩
     have:y≠x:=λe=>hj (PN hN e1 (e ▸ hi))
     simp[this,e]
    .exact .inr ⟨k,c,e,z.sameBut hs (cne y c e)⟩
  .obtain⟨w',z⟩:=I.cell y c e
   exact⟨w',z.sameBut hs (cne y c e)⟩
  .obtain⟨e,n,ne,nf,d⟩:=I.pin p hp
   exact⟨(hs.2 p.1 ne).trans e,n,ne,nf,d⟩
 .have hfn:X.fn x=C5:=by
   rcases hf with z|z
   .exact z
   .rw[z]at hk;cases hk
  obtain⟨c,hc⟩:=I.ok.has x (.inl hk);obtain⟨w',z⟩:=I.cell x c hc;refine wpAny_storeName_cell I.ok.kind hk hc z (λh' hc' hs=>?_);obtain⟨oc,hoc,hocd⟩:=id z;refine h {s with heap:=h'} ⟨I.ok,I.os,I.bare,⟨λb o e n hb hx=>?_,λb o e n hb hx=>?_,I.base.free,λb o e hx=>?_,I.base.tups,I.base.frzs,I.base.tbls⟩,⟨m,hn.sameBut hs (Ne.symm (cne x c hc)),λj y v' e1 e2 e3=>?_⟩,λy c' e=>?_,I.free,I.freeC,λp hp=>?_,tracked ⟨oc,hoc,I.freeC x c hc⟩ hs,by simpa using I.len⟩ ⟨c,hs,.inr hc⟩
  .exact(hs.2 b (QO (Qv (Qi e) (I.ok.cab x c hfn hc)))).trans (I.base.keep b o e n hb hx)
  .obtain⟨sl,e1⟩:=I.base.slot b o e n hb hx
   exact⟨sl,(hs.2 b (QO (Qv (Qi e) (I.ok.cab x c hfn hc)))).trans e1⟩
  .obtain⟨o',e1⟩:=I.base.there b o e hx
   exact⟨o',(hs.2 b (QO (Qv (Qi e) (I.ok.cab x c hfn hc)))).trans e1⟩
  .by_cases hj:j=i
   .subst hj
    rw[hi]at e1;cases e1;rw[QD hiσ]at e2;cases e2;exact⟨u,r,.inr ⟨.inl hk,c,hc,hc'⟩⟩
   .rw[Qf (Ne.symm hj)]at e2
    obtain⟨u',r',q⟩:=hl j y v' e1 e2 e3;refine⟨u',r',?_⟩;rcases q with q|⟨k,c',e,z'⟩
    .exact .inl q
    .refine .inr ⟨k,c',e,z'.sameBut hs ?_⟩
     rintro rfl;exact hj (PN hN e1 (I.ok.inj _ _ _ e hc ▸ hi))
  .by_cases hcc:c'=c
   .subst hcc;exact⟨_,hc'⟩
   .obtain⟨w2,z2⟩:=I.cell y c' e
    exact⟨w2,z2.sameBut hs hcc⟩
  .obtain⟨e,n,ne,nf,d⟩:=I.pin p hp
   refine⟨(hs.2 p.1 ?_).trans e,n,ne,nf,d⟩;intro q;rw[q,hoc]at e;have q':oc=p.2:=Qu e;exact d w' (by rw[←q'];exact hocd)
theorem PM{M:Model}{A:Around}{E:J9->Ua->Prop}{i:Nat}{x:Str}{v:V}{u:J9}{Q:Unit->Ua->Prop}(I:Inv X pins σ H s)(hN:X.N.Nodup)(hi:X.N[i]?=O x)(hx:Loc X.env.scope x)(r:RelV v u)
  (h:∀s',Inv X pins (σ.set i (O v)) H s'->Q () s') (hf:X.fn x=C5∨X.env.scope.names.lookup x=O .local:=by first|exact .inl rfl|exact .inr rfl|assumption):Ug M A (storeName X.env x u) Q E s:=
 OZ I hN hi hx r (λs' I' _=>h s' I') hf
theorem Inv.call'{s':Ua}{ch:Be}(I:Inv X pins σ H s)(ho:s'.os=s.os)(u:Un (frs X.stack) ch H H' s.heap s'.heap)(hok:HOk X.prog X.w H' s'.heap)(hg:AllBare s'.gens)
  (hch:∀b∈ch,(b∈X.ex∨X.s₀.heap.objs.size<=b)/\b≠X.env.locals/\(∀x c,X.env.cells.lookup x=O c->c≠b)/\∀p∈X.pn++pins,p.1≠b):Inv X pins σ H' s':=by
 obtain⟨h',g',d',t',o'⟩:=s';have e:o'=s.os:=ho;subst e;exact I.call (g':=g') (t':=t') (d':=d') u hok hg hch
end
abbrev XK:=J9->Bk->Hp->Prop
abbrev St:=List (Option V)
abbrev VK:=V->Hp->Prop
abbrev TE:=St->Hp->VK->Prop
abbrev TT:=St->Hp->(Bool->Hp->Prop)->Prop
abbrev TA:=St->Hp->(List V->Hp->Prop)->Prop
structure Ends where
 nx:St->Hp->Prop
 rt:VK
 bk:St->Hp->Prop:=λ_ _=>False
 ct:St->Hp->Prop:=λ_ _=>False
abbrev TS:=Ends->St->Hp->Prop
def EP(X:Cx)(pins:List (Uc×Obj))(σ:St)(Q:VK)(u:J9)(s':Ua):Prop:=∃v H',Inv X pins σ H' s'/\RelV v u/\Q v H'
def TP(X:Cx)(pins:List (Uc×Obj))(σ:St)(Q:Bool->Hp->Prop)(b:Bool)(s':Ua):Prop:=∃H',Inv X pins σ H' s'/\Q b H'
def AP(X:Cx)(pins:List (Uc×Obj))(σ:St)(Q:List V->Hp->Prop)(us:C9)(s':Ua):Prop:=∃vs H',Inv X pins σ H' s'/\Vals vs us/\Q vs H'
def SP(X:Cx)(pins:List (Uc×Obj))(D:Ends)(f:Flow)(s':Ua):Prop:=
 match f with
 |.next=>∃σ' H',Inv X pins σ' H' s'/\D.nx σ' H'
 |.brk=>∃σ' H',Inv X pins σ' H' s'/\D.bk σ' H'
 |.cont=>∃σ' H',Inv X pins σ' H' s'/\D.ct σ' H'
 |.ret u=>∃v σ' H',Inv X pins σ' H' s'/\RelV v u/\D.rt v H'
def PE(X:Cx)(e:Ue)(t:TE):Prop:=
 ∀(pins:List (Uc×Obj))(s:Ua)(σ:St)(H:Hp)(Q:VK),Inv X pins σ H s->t σ H Q->Ug (model X.prog X.w) X.A (eval e X.env) (EP X pins σ Q) X.xe s
def PT(X:Cx)(e:Ue)(t:TT):Prop:=
 ∀(pins:List (Uc×Obj))(s:Ua)(σ:St)(H:Hp)(Q:Bool->Hp->Prop),Inv X pins σ H s->t σ H Q->Ug (model X.prog X.w) X.A (isTrue e X.env (eval e X.env)) (TP X pins σ Q) X.xe s
def PW(X:Cx)(e:Ue)(t:TT):Prop:=
 ∀(whole:Sem J9)(pins:List (Uc×Obj))(s:Ua)(σ:St)(H:Hp)(Q:Bool->Hp->Prop),Inv X pins σ H s->t σ H Q->Ug (model X.prog X.w) X.A (isTrue e X.env whole) (TP X pins σ Q) X.xe s
theorem PW.pt{X:Cx}{e:Ue}{t:TT}(h:PW X e t):PT X e t:=h _
def PA(X:Cx)(es:Ba)(t:TA):Prop:=
 ∀(pos:Pos)(pins:List (Uc×Obj))(s:Ua)(σ:St)(H:Hp)(Q:List V->Hp->Prop),Inv X pins σ H s->t σ H Q->Ug (model X.prog X.w) X.A (spliced (backTo pos (Uh es X.env))) (AP X pins σ Q) X.xe s
def PS(X:Cx)(st:Stmt)(t:TS):Prop:=
 ∀(pins:List (Uc×Obj))(s:Ua)(σ:St)(H:Hp)(D:Ends),Inv X pins σ H s->t D σ H->Ug (model X.prog X.w) X.A (exec st X.env) (SP X pins D) X.xe s
def PSs(X:Cx)(st:List Stmt)(t:TS):Prop:=
 ∀(pins:List (Uc×Obj))(s:Ua)(σ:St)(H:Hp)(D:Ends),Inv X pins σ H s->t D σ H->Ug (model X.prog X.w) X.A (execs st X.env) (SP X pins D) X.xe s
theorem thn{α:Type}{t:Sem α}{Q Q':α->Ua->Prop}{M:Model}{A:Around}{E:J9->Ua->Prop}{s:Ua}(h:Ug M A t Q E s)(hQ:∀a s,Q a s->Q' a s):Ug M A t Q' E s:=QP h hQ λ_ _ x=>x
section
variable{X:Cx}
noncomputable def U2(i:Nat):TE:=λσ H Q=>∃v,σ[i]?=O (O v)/\Q v H
noncomputable def tC(v:V):TE:=λ_ H Q=>Q v H
theorem RV{i:Nat}{x:Str}{pos:Pos}(hN:X.N[i]?=O x)(hv:Vis X.env.scope x)(hd:(x==("__debug__" : Str))=C6:=by decide)(hcd:(x==("__classdict__" : Str))=C6:=by decide):PE X (.Name x pos) (U2 i):=by
 intro pins s σ H Q I h;obtain⟨v,e,h⟩:=h;obtain⟨m,hn,hl⟩:=I.loc;obtain⟨u,r,l⟩:=hl i x v hN e hv;have fin:EP X pins σ Q u s:=⟨v,H,I,r,h⟩;rcases l with ⟨hk,hm⟩|⟨hk,c,hc,hcell⟩
 .exact wpAny_Name (wpAny_loadName_local I.ok.kind hk hn hm fin) hd
 .rcases hk with hk|hk
  .exact wpAny_Name (wpAny_loadName_cell I.ok.kind hk hc hcell fin) hd
  .exact wpAny_Name (wpAny_loadName_free I.ok.kind hk hc hcell fin hcd) hd
theorem Hs{i j pos}:PE X (.Constant (.int i) j pos) (tC (.int i)):=λ_ _ _ H _ I h=>wpAny_Constant_int ⟨.int i,H,I.tok _,⟨_,rfl⟩,h⟩
theorem NV{b j pos}:PE X (.Constant (.bool b) j pos) (tC (.bl b)):=λ_ _ _ H _ I h=>Constant_bool ⟨.bl b,H,I,rfl,h⟩
theorem RU{j pos}:PE X (.Constant .none j pos) (tC .non):=λ_ _ _ H _ I h=>Constant_none ⟨.non,H,I,rfl,h⟩
def Gl(X:Cx)(x:Str):Prop:=X.env.kindOf x=O .globalImplicit
theorem PH{E:J9->Ua->Prop}{pins:List (Uc×Obj)}{s:Ua}{σ:St}{H:Hp}{x:Str}{u:J9}{pos:Pos}{Q:J9->Ua->Prop}(I:Inv X pins σ H s)(hg:Gl X x)(hm:X.mg x=O u)(h:Q u s)
  (hd:(x==("__debug__" : Str))=C6:=by decide):Ug (model X.prog X.w) X.A (eval (.Name x pos) X.env) Q E s:=
 Calls.Name_function_global I.ok.kind hg (Calls.loadGlobal_global (by rw[I.ok.glob];exact I.mod.glob.keeps I.bk) hm h) hd
theorem XS{E:J9->Ua->Prop}{pins:List (Uc×Obj)}{s:Ua}{σ:St}{H:Hp}{x:Str}{u:J9}{pos:Pos}{Q:J9->Ua->Prop}(I:Inv X pins σ H s)(hg:Gl X x)(hm:X.mg x=C4)(hv:bootBuiltins x=O u)(h:Q u s)
  (hn:x ≠ "__name__" :=by decide) (hd:(x==("__debug__" : Str))=C6:=by decide):Ug (model X.prog X.w) X.A (eval (.Name x pos) X.env) Q E s:=by
 obtain⟨mb,h1,h2⟩:=I.mod.blt;exact Calls.Name_function_global I.ok.kind hg (Calls.loadGlobal_builtin (by rw[I.ok.glob];exact I.mod.glob.keeps I.bk) hm (by rw[I.ok.blt];exact h1.keeps I.bk) ((h2 x hn).trans hv) h) hd
theorem Fq{x:Str}{v:V}{u:J9}{pos:Pos}(hg:Gl X x)(hm:X.mg x=O u)(r:RelV v u)(hd:(x==("__debug__" : Str))=C6:=by decide):PE X (.Name x pos) (tC v):=
 λ_ _ _ H _ I h=>PH I hg hm ⟨v,H,I,r,h⟩ hd
theorem Fp{x:Str}{v:V}{u:J9}{pos:Pos}(hg:Gl X x)(hm:X.mg x=C4)(hv:bootBuiltins x=O u)(r:RelV v u)(hn:x ≠ "__name__" :=by decide)(hd:(x==("__debug__" : Str))=C6:=by decide):PE X (.Name x pos) (tC v):=
 λ_ _ _ H _ I h=>XS I hg hm hv ⟨v,H,I,r,h⟩ hn hd
variable{a b:Ue}{ta tb:TE}{pos:Pos}
def PC(X:Cx)(op:CmpOp)(a b:Ue)(t:TE):Prop:=
 ∀(pins:List (Uc×Obj))(s:Ua)(σ:St)(H:Hp)(Q:VK),Inv X pins σ H s->t σ H Q ->
  Ug (model X.prog X.w) X.A (eval a X.env) (λv s₁=>Ug (model X.prog X.w) X.A (eval b X.env) (λu s₂=>Ug (model X.prog X.w) X.A (Ui op v u) (EP X pins σ Q) X.xe s₂) X.xe s₁) X.xe s
theorem E5(b:Ue){op:CmpOp}(h:op≠.In)(h2:op≠.NotIn):behindInMarks op b=C6:=by
 have e1:(op==CmpOp.In)=C6:=by cases op<;>first|rfl|exact absurd C3 h
 have e2:(op==CmpOp.NotIn)=C6:=by cases op<;>first|rfl|exact absurd C3 h2
 cases b<;>simp[behindInMarks,e1,e2]
noncomputable def tIsN(ta:TE):TE:=λσ H Q=>ta σ H λx H1=>Q (.bl (decide (x=.non))) H1
noncomputable def NU(ta:TE):TE:=λσ H Q=>ta σ H λx H1=>Q (.bl (!decide (x=.non))) H1
theorem RelV.none_iff{x:V}{v:J9}(r:RelV x v):(v==Value.none)=decide (x=.non):=by
 cases x with
 |non=>cases r;rfl
 |bl _=>cases r;rfl
 |int _=>obtain⟨t,rfl⟩:=r;rfl
 |str _=>obtain⟨t,rfl⟩:=r;rfl
 |byt _=>obtain⟨t,rfl⟩:=r;rfl
 |flt _=>obtain⟨t,rfl⟩:=r;rfl
 |ref _=>cases r;rfl
 |ty _=>cases r;rfl
theorem Hr{j pos'}(ha:PE X a ta):PC X .Is a (.Constant .none j pos') (tIsN ta):=by intro pins s σ H Q I h;refine thn (ha pins s σ H _ I h) λv s1 ⟨x,H1,I1,r1,q1⟩=>?_;exact Constant_none (is_none_gen ⟨.bl _,H1,I1,by rw[r1.none_iff];rfl,q1⟩)
theorem Fo{j pos'}(ha:PE X a ta):PC X .IsNot a (.Constant .none j pos') (NU ta):=by intro pins s σ H Q I h;refine thn (ha pins s σ H _ I h) λv s1 ⟨x,H1,I1,r1,q1⟩=>?_;exact Constant_none (isnot_none_gen ⟨.bl _,H1,I1,by rw[r1.none_iff];rfl,q1⟩)
noncomputable def tB(t:TE):TT:=λσ H Q=>t σ H λx H1=>∃c,x=.bl c/\Q c H1
theorem RT{op:CmpOp}{t:TE}(h:PC X op a b t)(h1:behindInMarks op b=C6:=by first|exact E5 _ (by decide) (by decide)|rfl):PT X (.Compare a [op] [b] pos) (tB t):=by intro pins s σ H Q I hw;refine wpAny_isTrue_Compare1 (thn (h pins s σ H _ I hw) λv s1 h1=>thn h1 λu s2 h2=>thn h2 λc s3 ⟨x,H1,I1,r1,q1⟩=>?_) h1;obtain⟨d,rfl,q⟩:=q1;cases r1;exact Q5 ⟨H1,I1,q⟩
theorem Hq{e:Ue}{t:TE}(h:PE X e t)(he:∀whole,isTrue e X.env whole=(do let v ←whole;standAt e.pos;holding [v] (truthy v)):=by intro _;rfl):PT X e (tB t):=by intro pins s σ H Q I hw;refine isTrue_plain (thn (h pins s σ H _ I hw) λv s1 ⟨x,H1,I1,r1,q1⟩=>?_) (he _);obtain⟨d,rfl,q⟩:=q1;cases r1;exact Q5 ⟨H1,I1,q⟩
variable{tA tB':TT}{rest:Ba}
noncomputable def tAnd(t u:TT):TT:=λσ H Q=>t σ H λc H1=>if c=C5 then u σ H1 Q else Q C6 H1
noncomputable def tOr(t u:TT):TT:=λσ H Q=>t σ H λc H1=>if c=C5 then Q C5 H1 else u σ H1 Q
noncomputable def tNot(t:TT):TT:=λσ H Q=>t σ H λc H1=>Q (!c) H1
theorem Fn(ha:PT X a tA):PW X (.BoolOp .And [a] pos) tA:=by
 intro wh pins s σ H Q I h;refine isTrue_and (thn (ha pins s σ H Q I h) λc s1 e=>?_);cases c with
 |true=>exact isTrue_and_nil e
 |false=>exact e
theorem Hn(ha:PT X a tA):PW X (.BoolOp .Or [a] pos) tA:=by
 intro wh pins s σ H Q I h;refine isTrue_or (thn (ha pins s σ H Q I h) λc s1 e=>?_);cases c with
 |false=>exact isTrue_or_nil e
 |true=>exact e
theorem Hm(ha:PT X a tA)(hb:PW X (.BoolOp .And (b::rest) pos) tB'):PW X (.BoolOp .And (a::b::rest) pos) (tAnd tA tB'):=by
 intro wh pins s σ H Q I h;refine isTrue_and (thn (ha pins s σ H _ I h) λc s1 ⟨H1,I1,q1⟩=>?_);cases c with
 |true=>exact hb wh pins s1 σ H1 Q I1 q1
 |false=>exact⟨H1,I1,q1⟩
theorem NT(ha:PT X a tA)(hb:PW X (.BoolOp .Or (b::rest) pos) tB'):PW X (.BoolOp .Or (a::b::rest) pos) (tOr tA tB'):=by
 intro wh pins s σ H Q I h;refine isTrue_or (thn (ha pins s σ H _ I h) λc s1 ⟨H1,I1,q1⟩=>?_);cases c with
 |true=>exact⟨H1,I1,q1⟩
 |false=>exact hb wh pins s1 σ H1 Q I1 q1
theorem Hl(ha:PT X a tA):PT X (.UnaryOp .Not a pos) (tNot tA):=by intro pins s σ H Q I h;exact isTrue_not (ha pins s σ H (λc H1=>Q (!c) H1) I h)
noncomputable def NS(ta tb:TE):TE:=λσ H Q=>ta σ H λx H1=>∃c,x=.bl c/\if c=C5 then tb σ H1 Q else Q (.bl C6) H1
noncomputable def NR(ta:TE):TE:=λσ H Q=>ta σ H λx H1=>∃c,x=.bl c/\Q (.bl (!c)) H1
theorem Hk{op}{t:TE}(h:PE X a t):PE X (.BoolOp op [a] pos) t:=λpins s σ H Q I hw=>BoolOp_one (h pins s σ H Q I hw)
theorem Hj(ha:PE X a ta)(hb:PE X (.BoolOp .And (b::rest) pos) tb):PE X (.BoolOp .And (a::b::rest) pos) (NS ta tb):=by
 intro pins s σ H Q I h;refine BoolOp_and (thn (ha pins s σ H _ I h) λv s1 ⟨x,H1,I1,r1,q1⟩=>?_);obtain⟨c,rfl,q1⟩:=q1;cases r1;refine Q5 ?_;cases c with
 |true=>exact hb pins s1 σ H1 Q I1 q1
 |false=>exact⟨.bl C6,H1,I1,rfl,q1⟩
theorem Hi(ha:PE X a ta):PE X (.UnaryOp .Not a pos) (NR ta):=by intro pins s σ H Q I h;refine UnaryOp_ (thn (ha pins s σ H _ I h) λv s1 ⟨x,H1,I1,r1,q1⟩=>?_);obtain⟨c,rfl,q1⟩:=q1;cases r1;exact not_of (Q5 ⟨.bl (!c),H1,I1,rfl,q1⟩)
end
def SqL(K:Frag)(H:Hp)(a:Uc)(xs:List V):Prop:=
 Rd H a (.lst xs) ∨
  ∃(o:Obj)(its:Array J9)(n:Nat),K.lookup a=O o/\o.cls=.type "list" /\ o.dict=C4/\o.data=.seq its n/\its.size<=Uf/\Vals xs its.toList
def SqT(K:Frag)(H:Hp)(a:Uc)(xs:List V):Prop:=
 Rd H a (.tup xs) ∨
  ∃(o:Obj)(its:Array J9)(n:Nat),K.lookup a=O o/\o.cls=.type "tuple" /\ o.data=.seq its n/\its.size<=Uf/\Vals xs its.toList
noncomputable def absV:J9->Option V
 |.none=>O .non
 |.bool b=>O (.bl b)
 |.int i _=>O (.int i)
 |.str x _=>O (.str x)
 |.bytes b _=>O (.byt b)
 |.float b _=>O (.flt b)
 |.ref a=>O (.ref a)
 |.type n=>O (.ty n)
 |_=>C4
theorem RelV.abs{x:V}{u:J9}(r:RelV x u):absV u=O x:=by
 cases x with
 |non=>cases r;rfl
 |bl _=>cases r;rfl
 |int _=>obtain⟨t,rfl⟩:=r;rfl
 |str _=>obtain⟨t,rfl⟩:=r;rfl
 |byt _=>obtain⟨t,rfl⟩:=r;rfl
 |flt _=>obtain⟨t,rfl⟩:=r;rfl
 |ref _=>cases r;rfl
 |ty _=>cases r;rfl
theorem RelV.inj{x y:V}{u:J9}(r:RelV x u)(q:RelV y u):x=y:=Qu (r.abs.symm.trans q.abs)
theorem Vals.inj:∀{xs ys:List V}{us:C9},Vals xs us->Vals ys us->xs=ys
 |_,_,_,.nil,.nil=>rfl
 |_,_,_,.cons r t,.cons r' t'=>by rw[r.inj r',Vals.inj t t']
section
variable{X:Cx}{pins:List (Uc×Obj)}{σ:St}{H:Hp}{s:Ua}{a:Uc}{xs ys:List V}
theorem SqL.of{K:Frag}(h:H a=O (.lst xs)):SqL K H a xs:=.inl (.inl h)
theorem SqT.of{K:Frag}(h:H a=O (.tup xs)):SqT K H a xs:=.inl (.inl h)
theorem Inv.list(I:Inv X pins σ H s)(h:SqL X.K H a xs):∃its:C9,Vals xs its/\PlainL s.heap a its.toArray/\xs.length<=Uf:=by
 rcases h with h|⟨o,its,n,hk,hc,hd,hs,hz,r⟩
 .obtain⟨z,its,n,r,e⟩:=h.ok I.hok
  exact⟨its,r,⟨_,n,e,rfl,rfl,rfl⟩,z⟩
 .refine⟨its.toList,r,⟨o,n,I.kIn a o hk,hc,hd,by simpa using hs⟩,?_⟩
  have e:=r.length;simp only[JU]at e;omega
theorem Inv.tuple(I:Inv X pins σ H s)(h:SqT X.K H a xs):∃its:C9,Vals xs its/\IsTup s.heap a its.toArray/\xs.length<=Uf:=by
 rcases h with h|⟨o,its,n,hk,hc,hs,hz,r⟩
 .obtain⟨z,its,r,p⟩:=h.ok I.hok
  exact⟨its,r,p,z⟩
 .refine⟨its.toList,r,⟨o,I.kIn a o hk,hc,n,by simpa using hs⟩,?_⟩
  have e:=r.length;simp only[JU]at e;omega
theorem Inv.list_inj(I:Inv X pins σ H s)(h:SqL X.K H a xs)(h':SqL X.K H a ys):xs=ys:=by
 obtain⟨its,r,⟨o,n,e,_,_,d⟩,_⟩:=I.list h;obtain⟨its',r',⟨o',n',e',_,_,d'⟩,_⟩:=I.list h';rw[e]at e';cases e';rw[d]at d';injection d' with d1 _
 have:its=its':=by simpa using congrArg Array.toList d1
 subst this;exact r.inj r'
theorem Inv.tuple_inj(I:Inv X pins σ H s)(h:SqT X.K H a xs)(h':SqT X.K H a ys):xs=ys:=by
 obtain⟨its,r,⟨o,e,_,n,d⟩,_⟩:=I.tuple h;obtain⟨its',r',⟨o',e',_,n',d'⟩,_⟩:=I.tuple h';rw[e]at e';cases e';rw[d]at d';injection d' with d1 _
 have:its=its':=by simpa using congrArg Array.toList d1
 subst this;exact r.inj r'
end
noncomputable abbrev Cx.wish(X:Cx)(E:J9->Ua->Prop):Cx:={X with xe:=E}
noncomputable abbrev Cx.nox(X:Cx):Cx:=X.wish λ_ _=>False
theorem Cx.Ok.wish{X:Cx}(ok:X.Ok)(E:J9->Ua->Prop):(X.wish E).Ok:=
 ⟨ok.mod,ok.kind,ok.glob,ok.blt,ok.above,ok.inj,ok.has,ok.cab,ok.hd,ok.frames,ok.stk,ok.exf,ok.bs,ok.bsz,ok.noex,ok.exfs,ok.funs,ok.frf⟩
theorem Cx.Ok.unwish{X:Cx}{E:J9->Ua->Prop}(ok:(X.wish E).Ok):X.Ok:=
 ⟨ok.mod,ok.kind,ok.glob,ok.blt,ok.above,ok.inj,ok.has,ok.cab,ok.hd,ok.frames,ok.stk,ok.exf,ok.bs,ok.bsz,ok.noex,ok.exfs,ok.funs,ok.frf⟩
section
variable{X:Cx}{pins:List (Uc×Obj)}{σ:St}{H:Hp}{s:Ua}{E:J9->Ua->Prop}
theorem Inv.wish(I:Inv X pins σ H s)(E:J9->Ua->Prop):Inv (X.wish E) pins σ H s:=⟨I.ok.wish E,I.os,I.bare,I.base,I.loc,I.cell,I.free,I.freeC,I.pin,I.hok,I.len⟩
theorem Inv.unwish(I:Inv (X.wish E) pins σ H s):Inv X pins σ H s:=⟨I.ok.unwish,I.os,I.bare,I.base,I.loc,I.cell,I.free,I.freeC,I.pin,I.hok,I.len⟩
theorem SP.unwish{D:Ends}{f:Flow}{s':Ua}(h:SP (X.wish E) pins D f s'):SP X pins D f s':=by
 cases f with
 |next=>obtain⟨σ',H',I,q⟩:=h;exact⟨σ',H',I.unwish,q⟩
 |brk=>obtain⟨σ',H',I,q⟩:=h;exact⟨σ',H',I.unwish,q⟩
 |cont=>obtain⟨σ',H',I,q⟩:=h;exact⟨σ',H',I.unwish,q⟩
 |ret u=>obtain⟨v,σ',H',I,r,q⟩:=h;exact⟨v,σ',H',I.unwish,r,q⟩
theorem PSs.nox{st:List Stmt}{t:TS}(h:PSs X.nox st t):PSs X st t:=λpins s σ H D I hw=>
 QP (h pins s σ H D (I.wish _) hw) (λ_ _ q=>q.unwish) λ_ _ z=>False.elim z
end
section
variable{X:Cx}{st:Stmt}{rest:List Stmt}{t u:TS}{e:Ue}{te:TE}{pos:Pos}
noncomputable def NQ:TS:=λD σ H=>D.nx σ H
noncomputable def Z4(t u:TS):TS:=λD σ H=>t {D with nx:=u D} σ H
theorem Sy:PSs X [] NQ:=λ_ _ σ H _ I h=>wpAny_execs_nil ⟨σ,H,I,h⟩
theorem X9(h1:PS X st t)(h2:PSs X rest u):PSs X (st::rest) (Z4 t u):=by
 intro pins s σ H D I h;refine wpAny_execs_cons (thn (h1 pins s σ H {D with nx:=u D} I h) λf s1 q=>?_);cases f with
 |next=>obtain⟨σ',H',I',q⟩:=q;exact h2 pins s1 σ' H' D I' q
 |ret v=>exact q
 |brk=>exact q
 |cont=>exact q
theorem XI(h1:PS X st t):PSs X [st] t:=by
 intro pins s σ H D I h;refine wpAny_execs_cons (thn (h1 pins s σ H D I h) λf s1 q=>?_);cases f with
 |next=>exact wpAny_execs_nil q
 |ret v=>exact q
 |brk=>exact q
 |cont=>exact q
theorem Inv.quiet{pins:List (Uc×Obj)}{σ:St}{H:Hp}{s:Ua}(I:Inv X pins σ H s):interactive X.env=C6:=by simp[interactive,I.ok.kind]
noncomputable def NP(te:TE):TS:=λD σ H=>te σ H λ_ H1=>D.nx σ H1
theorem X1(he:PE X e te)(hs:swapsWith e C4 pos.line X.env=pure C6:=by rfl):PS X (.Expr e pos) (NP te):=by intro pins s σ H D I h;exact wpAny_Expr_any (thn (he pins s σ H _ I h) λv s1 ⟨x,H1,I1,r1,q1⟩=>⟨σ,H1,I1,q1⟩) I.quiet hs
noncomputable def tRet(te:TE):TS:=λD σ H=>te σ H D.rt
theorem Vo(he:PE X e te):PS X (.Return (O e) pos) (tRet te):=by intro pins s σ H D I h;exact wpAny_Return_some (thn (he pins s σ H _ I h) λv s1 ⟨x,H1,I1,r1,q1⟩=>⟨x,σ,H1,I1,r1,q1⟩)
noncomputable def tIfS(c:TT)(t u:TS):TS:=λD σ H=>c σ H λb H1=>if b=C5 then t D σ H1 else u D σ H1
theorem T4{c:Ue}{a b:List Stmt}{tc:TT}(hc:PT X c tc)(ha:PSs X a t)(hb:PSs X b u):PS X (.If c a b pos) (tIfS tc t u):=by
 intro pins s σ H D I h;refine wpAny_If (thn (hc pins s σ H _ I h) λd s1 ⟨H1,I1,q1⟩=>?_);cases d with
 |true=>exact ha pins s1 σ H1 D I1 q1
 |false=>exact hb pins s1 σ H1 D I1 q1
end
abbrev TG:=V->St->Hp->(St->Hp->Prop)->Prop
abbrev TGs:=List V->St->Hp->(St->Hp->Prop)->Prop
def PG(X:Cx)(target:Ue)(t:TG):Prop:=
 ∀(pins:List (Uc×Obj))(s:Ua)(σ:St)(H:Hp)(v:V)(u:J9)(Q:St->Hp->Prop),Inv X pins σ H s->RelV v u->t v σ H Q ->
  Ug (model X.prog X.w) X.A (assign target X.env u) (λ_ s'=>∃σ' H',Inv X pins σ' H' s'/\Q σ' H') X.xe s
def PGs(X:Cx)(ts:Ba)(t:TGs):Prop:=
 ∀(pins:List (Uc×Obj))(s:Ua)(σ:St)(H:Hp)(vs:List V)(us:C9)(Q:St->Hp->Prop),Inv X pins σ H s->Vals vs us->t vs σ H Q ->
  Ug (model X.prog X.w) X.A (assignInOrder ((Ux ts X.env).map (·.2)) us) (λ_ s'=>∃σ' H',Inv X pins σ' H' s'/\Q σ' H') X.xe s
section
variable{X:Cx}{pos:Pos}
noncomputable def T3(i:Nat):TG:=λv σ H Q=>Q (σ.set i (O v)) H
theorem WP{i:Nat}{x:Str}(hN:X.N.Nodup)(hi:X.N[i]?=O x)(hx:Loc X.env.scope x)(hf:X.fn x=C5∨X.env.scope.names.lookup x=O .local:=by first|exact .inl rfl|exact .inr rfl|assumption):PG X (.Name x pos) (T3 i):=by intro pins s σ H v u Q I r h;exact wpAny_assign_Name (PM I hN hi hx r (λs' I'=>⟨_,H,I',h⟩) hf)
noncomputable def gNil:TGs:=λvs σ H Q=>vs=[]/\Q σ H
noncomputable def NO(t:TG)(u:TGs):TGs:=λvs σ H Q=>∃v r,vs=v::r/\t v σ H λσ' H'=>u r σ' H' Q
theorem PF:PGs X [] gNil:=by intro pins s σ H vs us Q I r h;obtain⟨e,h⟩:=h;subst e;cases r;exact assignInOrder_nil ⟨σ,H,I,h⟩
theorem SG{e:Ue}{es:Ba}{t:TG}{u:TGs}(h1:PG X e t)(h2:PGs X es u)
  (hs:(Ux (e::es) X.env).map (·.2)=assign e X.env::(Ux es X.env).map (·.2):=by rfl):PGs X (e::es) (NO t u):=by
 intro pins s σ H vs us Q I r h;obtain⟨v,vr,e1,h⟩:=h;subst e1;cases r with
 |cons r rr=>rw[hs];refine assignInOrder_cons (thn (h1 pins s σ H _ _ _ I r h) λ_ s1 ⟨σ1,H1,I1,q1⟩=>?_);exact h2 pins s1 σ1 H1 _ _ Q I1 rr q1
noncomputable def gTup(K:Frag)(n:Nat)(t:TGs):TG:=λv σ H Q=>∃a xs,v=.ref a/\SqT K H a xs/\xs.length=n/\t xs σ H Q
theorem RS{es:Ba}{k:Nat}{t:TGs}{n:Nat}(hc:X.calm=C5)(h:PGs X es t)
  (hn:(Ux es X.env).length=n:=by rfl) (hst:(Ux es X.env).findIdx? (·.1)=C4:=by rfl):PG X (.Tuple es k pos) (gTup X.K n t):=by
 intro pins s σ H v u Q I r hw;obtain⟨a,xs,e1,hq,hl,hw⟩:=hw;subst e1;cases r;obtain⟨its,rv,ht,hz⟩:=I.tuple hq;refine assign_Tuple_tuple (I.ok.hd hc) ht (by simp[hn,←hl,rv.length]) hst λh' hx=>?_
 have I1:Inv X pins σ H {s with heap:=h'}:=I.kept (t':=s.toks) λb o e=>hx b o (QO (Qi e)) e;exact h pins _ σ H xs _ Q I1 (by simpa using rv) hw
noncomputable def tAsg(te:TE)(g:TG):TS:=λD σ H=>te σ H λx H1=>g x σ H1 D.nx
theorem Hh{tg e:Ue}{te:TE}{g:TG}(he:PE X e te)(hg:PG X tg g)(hs:swapsWithSole [tg] e pos.line X.env=pure C6:=by rfl)(hw:swappedStores [tg] e X.env=pure C4:=by rfl)
  (h1:(Ux [tg] X.env).map (·.2)=[assign tg X.env]:=by rfl):PS X (.Assign [tg] e pos) (tAsg te g):=by
 intro pins s σ H D I h;refine wpAny_Assign_stores (thn (he pins s σ H _ I h) λv s1 ⟨x,H1,I1,r1,q1⟩=>?_) hs hw;rw[h1];exact thn (hg pins s1 σ H1 x v _ I1 r1 q1) λ_ s2 q=>q
theorem Sb{i:Nat}{x:Str}{e:Ue}{te:TE}{pos':Pos}(hN:X.N.Nodup)(hi:X.N[i]?=O x)(hx:Loc X.env.scope x)(he:PE X e te)(hs:swapsWith e (O (.Name x pos')) pos.line X.env=pure C6:=by rfl)(hf:X.fn x=C5∨X.env.scope.names.lookup x=O .local:=by first|exact .inl rfl|exact .inr rfl|assumption) :
  PS X (.Assign [.Name x pos'] e pos) (tAsg te (T3 i)):=by
 intro pins s σ H D I h;refine wpAny_Assign_Name (thn (he pins s σ H _ I h) λv s1 ⟨y,H1,I1,r1,q1⟩=>?_) hs;exact PM I1 hN hi hx r1 (λs2 I2=>⟨_,H1,I2,q1⟩) hf
end
section
variable{X:Cx}{pos:Pos}
noncomputable def Hg(c:TT)(tb:TS):TS:=λD σ H=>∃W:Nat->St->Hp->Prop,(∃m,W m σ H)/\∀m σ H,W m σ H ->
 c σ H λb H1=>if b=C5 then ∃N:St->Hp->Prop,(∀σ' H',N σ' H'->∃m',m'<m/\W m' σ' H')/\tb {D with nx:=N,ct:=N,bk:=D.nx} σ H1 else D.nx σ H1
theorem E4{c:Ue}{body:List Stmt}{tc:TT}{tb:TS}(hp:PassesOwn (model X.prog X.w) X.A X.env X.xe)(hc:PT X c tc)(hb:PSs X body tb):PS X (.While c body [] pos) (Hg tc tb):=by
 intro pins s σ H D I h;obtain⟨W,⟨m0,w0⟩,turn⟩:=h;refine wpAny_While (codeAny_whileLoop (λn s'=>∃σ' H',Inv X pins σ' H' s'/\W n σ' H') ?_ m0 ⟨σ,H,I,w0⟩);rintro n s1 ⟨σ1,H1,I1,w1⟩;refine Ji hp (thn (hc pins s1 σ1 H1 _ I1 (turn n σ1 H1 w1)) λb s2 ⟨H2,I2,q2⟩=>?_);cases b with
 |true=>
  obtain⟨N,hN,q2⟩:=q2;rw[Qq C3];refine Ji hp (thn (hb pins s2 σ1 H2 _ I2 q2) λf s3 q3=>?_);cases f with
  |next=>obtain⟨σ3,H3,I3,n3⟩:=q3;obtain⟨m',hm,w3⟩:=hN σ3 H3 n3;exact⟨m',hm,σ3,H3,I3,w3⟩
  |cont=>obtain⟨σ3,H3,I3,n3⟩:=q3;obtain⟨m',hm,w3⟩:=hN σ3 H3 n3;exact⟨m',hm,σ3,H3,I3,w3⟩
  |brk=>exact q3
  |ret v=>exact q3
 |false=>rw[QE Js];exact wpAny_execs_nil ⟨σ1,H2,I2,q2⟩
end
structure It where
 go:Nat->Hp->Prop
 yld:Nat->Hp->V->Hp->Prop
 stop:Nat->Hp->Prop
def KF(X:Cx)(pins:List (Uc×Obj))(H:Hp)(b:Uc):Prop:=
 H b=C4/\b≠X.env.locals/\b∉X.fs/\(b∈X.ex∨X.s₀.heap.objs.size<=b)/\(∀x c,X.env.cells.lookup x=O c->c≠b)/\∀p∈X.pn++pins,p.1≠b
theorem Inv.fpOk{X:Cx}{pins:List (Uc×Obj)}{σ:St}{H H':Hp}{s:Ua}{b:Uc}(I:Inv X pins σ H s)(hb:s.heap.objs.size<=b)(hn:H' b=C4):KF X pins H' b:=by
 refine⟨hn,JE (Qv I.lt hb),I.nofs hb,.inr (Qy I.sz hb),λx c e z=>?_,λp hp z=>?_⟩
 .obtain⟨v,q⟩:=I.cell x c e
  exact absurd (Qv q.lt (by rw[z];exact hb)) (Ju _)
 .exact absurd (Qv (Qi (I.pin p hp).1) (by rw[z];exact hb)) (Ju _)
structure Turn(P:Ub)(w:World)(K:Frag)(tg:Ue)(J:It)(fp:Be)(it:Uc)(tn:Nat->Heap->Prop):Prop where
 mem:it∈fp
 obj:∀i h,tn i h->∀b∈fp,∃o,h.get? b=O o/\∀v,o.data≠.cell v
 keep:∀i h h',tn i h->(∀b∈fp,∀o,h.get? b=O o->h'.get? b=O o)->tn i h'
 item:∀(X:Cx),X.prog=P->X.w=w->X.K=K->X.calm=C5->∀(i:Nat)(pins:List (Uc×Obj))(s:Ua)(σ:St)(H:Hp)(E:J9->Ua->Prop),Inv X pins σ H s->(∀b∈fp,KF X pins H b)->tn i s.heap->J.go i H ->
  Ug (model P w) X.A (pyNext (.ref it)) (λr s1=>∃u,r=O u /\
   Ug (model P w) X.A (letOwnedTupleGo tg (.ref it) u) (λ_ s2=>∃x H',Inv X pins σ H' s2/\RelV x u/\J.yld i H x H'/\tn (i+1) s2.heap/\∀b∈fp,H' b=C4) E s1) E s
 done:∀(X:Cx),X.prog=P->X.w=w->X.K=K->X.calm=C5->∀(i:Nat)(pins:List (Uc×Obj))(s:Ua)(σ:St)(H:Hp)(E:J9->Ua->Prop),Inv X pins σ H s->(∀b∈fp,KF X pins H b)->tn i s.heap->J.stop i H ->
  Ug (model P w) X.A (pyNext (.ref it)) (λr s1=>r=C4/\Inv X pins σ H s1) E s
 self:∀(A:Around)(i:Nat)(s:Ua)(Q:J9->Ua->Prop)(E:J9->Ua->Prop),tn i s.heap->Q (.ref it) s->Ug (model P w) A (pyIter (.ref it)) Q E s
abbrev TI:=St->Hp->(It->Hp->Prop)->Prop
def PIE(X:Cx)(pins:List (Uc×Obj))(σ:St)(tg:Ue)(R:It->Hp->Prop)(itv:J9)(s2:Ua):Prop:=
 ∃(it:Uc)(fp:Be)(tn:Nat->Heap->Prop)(J:It)(H':Hp),itv=.ref it/\Inv X pins σ H' s2/\Turn X.prog X.w X.K tg J fp it tn/\tn 0 s2.heap/\(∀b∈fp,KF X pins H' b)/\R J H'
def PI(X:Cx)(tg iter:Ue)(wi:TI):Prop:=
 ∀(pins:List (Uc×Obj))(s:Ua)(σ:St)(H:Hp)(R:It->Hp->Prop),Inv X pins σ H s->wi σ H R ->
  Ug (model X.prog X.w) X.A (eval iter X.env) (λv s1=>Ug (model X.prog X.w) X.A (pyIter v) (PIE X pins σ tg R) X.xe s1) X.xe s
theorem VT{M:Model}{A:Around}{E:J9->Ua->Prop}{s:Ua}{tg:Ue}{it:Uc}{u:J9}{o:Obj}{n:String}{vs:Array J9}{Q:Unit->Ua->Prop}(ho:s.heap.get? it=O o)(hc:o.cls=.type n)(hd:o.data=.fields vs)
  (hn:["enumerate", "zip", "dict_itemiterator", "dict_reverseitemiterator", "odict_iterator", "itertools.zip_longest", "itertools.pairwise"].contains n=C6) (hQ:Q () s):Ug M A (letOwnedTupleGo tg (.ref it) u) Q E s:=by
 unfold letOwnedTupleGo
 cases tg<;>first
  |exact Qp hQ
  |(cases u<;>first
    |exact Qp hQ
    |(
      refine Qe (wpAny_load ho ?_);rw[hc,hd];show Ug M A (if(["enumerate", "zip", "dict_itemiterator", "dict_reverseitemiterator", "odict_iterator", "itertools.zip_longest", "itertools.pairwise"].contains n&&vs[0]?==O (rawInt _))=C5 then _ else _) Q E s;rw[QE (by intro h;rw[hn,Bool.false_and]at h;cases h)];exact Qp hQ))
noncomputable def Itl(K:Frag)(a:Uc):It:=
 ⟨λi H=>∃xs x,SqL K H a xs/\xs[i]?=O x,λi H x H'=>H'=H/\∀xs,SqL K H a xs->xs[i]?=O x,λi H=>∃xs,SqL K H a xs/\xs.length<=i⟩
noncomputable def Itt(K:Frag)(a:Uc):It:=
 ⟨λi H=>∃xs x,SqT K H a xs/\xs[i]?=O x,λi H x H'=>H'=H/\∀xs,SqT K H a xs->xs[i]?=O x,λi H=>∃xs,SqT K H a xs/\xs.length<=i⟩
noncomputable def Itr(lo:Int)(n:Nat):It:=⟨λi _=>i<n,λi H x H'=>H'=H/\x=.int (lo+i),λi _=>n<=i⟩
theorem OY{P:Ub}{w:World}{K:Frag}{tg:Ue}(a it:Uc):Turn P w K tg (Itl K a) [it] it (λi h=>h.IsListIter it a i) where
 mem:=by simp
 obj:=λi h st b hb=>by
  have e:b=it:=by simpa using hb
  subst e;obtain⟨o,e,c,d⟩:=st;exact⟨o,e,λv z=>by rw[d]at z;cases z⟩
 keep:=λi h h' st k=>st.at λo e=>k it (by simp) o e
 item:=by
  intro X hP hw hK hc i pins s σ H E I hf st hg;subst hP hw hK;obtain⟨xs,x,hq,hx⟩:=hg;obtain⟨its,rv,p,hz⟩:=I.list hq;obtain⟨u,hu,ru⟩:=rv.get hx;obtain⟨f0,f1,f2,f3,f4,f5⟩:=hf it (by simp);refine wpAny_pyNext_list_item st p.isList (x:=u) (by simpa using hu) λh' st' sb=>?_
  have I1:Inv X pins σ H {s with heap:=h'}:=I.turned (t':=s.toks) (λb o hb e=>(sb.2 b hb).trans e) f0 f1 f3 f4 f5;obtain⟨o,e,c,d⟩:=id st';exact⟨u,rfl,VT (s:={s with heap:=h'}) e c d (by decide) ⟨x,H,I1,ru,⟨rfl,λys hy=>by rw[I.list_inj hy hq];exact hx⟩,st',λb hb=>(hf b hb).1⟩⟩
 done:=by intro X hP hw hK hc i pins s σ H E I hf st hg;subst hP hw hK;obtain⟨xs,hq,hx⟩:=hg;obtain⟨its,rv,p,hz⟩:=I.list hq;obtain⟨f0,f1,f2,f3,f4,f5⟩:=hf it (by simp);have hl:=rv.length;exact wpAny_pyNext_list_end (I.ok.hd hc) st p.isList (by simp;omega) λh' eb=>⟨rfl,I.turned (t':=s.toks) (λb o hb e=>eb b o hb e) f0 f1 f3 f4 f5⟩
 self:=λ_ _ _ _ _ st h=>wpAny_pyIter_listiter st h
theorem DY{P:Ub}{w:World}{K:Frag}{tg:Ue}(a it:Uc):Turn P w K tg (Itt K a) [it] it (λi h=>h.IsTupleIter it a i) where
 mem:=by simp
 obj:=λi h st b hb=>by
  have e:b=it:=by simpa using hb
  subst e;obtain⟨o,e,c,d⟩:=st;exact⟨o,e,λv z=>by rw[d]at z;cases z⟩
 keep:=λi h h' st k=>st.at λo e=>k it (by simp) o e
 item:=by
  intro X hP hw hK hc i pins s σ H E I hf st hg;subst hP hw hK;obtain⟨xs,x,hq,hx⟩:=hg;obtain⟨its,rv,p,hz⟩:=I.tuple hq;obtain⟨u,hu,ru⟩:=rv.get hx;obtain⟨f0,f1,f2,f3,f4,f5⟩:=hf it (by simp);refine wpAny_pyNext_tuple_item st (show s.heap.IsTuple a its.toArray from p) (x:=u) (by simpa using hu) λh' st' sb=>?_
  have I1:Inv X pins σ H {s with heap:=h'}:=I.turned (t':=s.toks) (λb o hb e=>(sb.2 b hb).trans e) f0 f1 f3 f4 f5;obtain⟨o,e,c,d⟩:=id st';exact⟨u,rfl,VT (s:={s with heap:=h'}) e c d (by decide) ⟨x,H,I1,ru,⟨rfl,λys hy=>by rw[I.tuple_inj hy hq];exact hx⟩,st',λb hb=>(hf b hb).1⟩⟩
 done:=by intro X hP hw hK hc i pins s σ H E I hf st hg;subst hP hw hK;obtain⟨xs,hq,hx⟩:=hg;obtain⟨its,rv,p,hz⟩:=I.tuple hq;obtain⟨f0,f1,f2,f3,f4,f5⟩:=hf it (by simp);have hl:=rv.length;exact wpAny_pyNext_tuple_end (I.ok.hd hc) st (show s.heap.IsTuple a its.toArray from p) (by simp;omega) λh' eb=>⟨rfl,I.turned (t':=s.toks) (λb o hb e=>eb b o hb e) f0 f1 f3 f4 f5⟩
 self:=λ_ _ _ _ _ st h=>wpAny_pyIter_tupleiter st h
theorem DX{P:Ub}{w:World}{K:Frag}{tg:Ue}(it:Uc)(lo:Int)(n:Nat):Turn P w K tg (Itr lo n) [it] it (λi h=>IsRangeIter h it (lo+(i:Nat)*1) ((n:Int)-(i:Nat)) 1) where
 mem:=by simp
 obj:=λi h st b hb=>by
  have e:b=it:=by simpa using hb
  subst e;exact⟨_,st,λv z=>by have z':Data.fields _=Data.cell v:=z;cases z'⟩
 keep:=λi h h' st k=>k it (by simp) _ st
 item:=by
  intro X hP hw hK hc i pins s σ H E I hf st hg;subst hP hw hK;obtain⟨f0,f1,f2,f3,f4,f5⟩:=hf it (by simp);have W:=Walks.range (prog:=X.prog) (w:=X.w) (I.ok.hd hc) it lo 1 n;refine W.item i s _ _ hg st λv h' tk hv st' kk=>?_
  obtain⟨t,rfl⟩:=hv;have I1:Inv X pins σ H {s with heap:=h',toks:=tk}:=I.turned (λb o hb e=>kk b o (by simpa using hb) e) f0 f1 f3 f4 f5;refine⟨_,rfl,VT (s:={s with heap:=h',toks:=tk}) (n:= "range_iterator") st' C3 C3 (by decide) ⟨.int (lo+i),H,I1,⟨t,?_⟩,⟨rfl,rfl⟩,st',λb hb=>(hf b hb).1⟩⟩;rw[Int.mul_one]
 done:=by intro X hP hw hK hc i pins s σ H E I hf st hg;subst hP hw hK;obtain⟨f0,f1,f2,f3,f4,f5⟩:=hf it (by simp);exact wpAny_pyNext_range_end (I.ok.hd hc) st (by have:n<=i:=hg;omega) λh' eb=>⟨rfl,I.turned (t':=s.toks) (λb o hb e=>eb b o hb e) f0 f1 f3 f4 f5⟩
 self:=λ_ _ _ _ _ st h=>wpAny_pyIter_rangeiter st h
section
variable{X:Cx}{tg:Ue}
noncomputable def NN(K:Frag)(tl:TE):TI:=λσ H R=>tl σ H λx H1=>∃a,x=.ref a/\(∃xs,SqL K H1 a xs)/\R (Itl K a) H1
theorem Sx{l:Ue}{tl:TE}(hl:PE X l tl):PI X tg l (NN X.K tl):=by
 intro pins s σ H R I h;refine thn (hl pins s σ H _ I h) λv s1 ⟨x,H1,I1,r1,q1⟩=>?_
 obtain⟨a,e,⟨xs,hq⟩,q⟩:=q1;subst e;cases r1;obtain⟨its,rv,p,hz⟩:=I1.list hq;refine wpAny_pyIter_list p.isList ?_;refine⟨s1.heap.objs.size,[s1.heap.objs.size],_,_,H1,rfl,I1.kept (t':=s1.toks) λb o e=>Ql _ e,OY a _,⟨_,QB _ C3,rfl,rfl⟩,λb hb=>?_,q⟩;have e:b=s1.heap.objs.size:=by simpa using hb
 subst e;exact I1.fpOk (Qo _) (I1.hok.fresh (Qo _))
theorem PL{pins:List (Uc×Obj)}{σ:St}{H:Hp}{s:Ua}{R:It->Hp->Prop}{E:J9->Ua->Prop}{lo hi:Int}{t u v:Tok}{tk:Nat}(I:Inv X pins σ H s)(h1 : -(2 ^ 62)<=lo)(h2:lo<2 ^ 62)(h3 : -(2 ^ 62)<=hi)(h4:hi<2 ^ 62)
  (q:R (Itr lo (hi-lo).toNat) H):Ug (model X.prog X.w) X.A (pyIter (.ref s.heap.objs.size)) (PIE X pins σ tg R) E {s with heap:=s.heap.push {cls:=.type "range", data:=.fields #[.int lo t,.int hi u,.int 1 v]},toks:=tk}:=by
 refine wpAny_pyIter_range (IsRange.new ..) (small_one h1 h2 h3 h4) ?_;have I1:Inv X pins σ H {s with heap:=s.heap.push {cls:=.type "range", data:=.fields #[.int lo t,.int hi u,.int 1 v]},toks:=tk}:=I.kept λb o e=>Ql _ e
 refine⟨(s.heap.push {cls:=.type "range", data:=.fields #[.int lo t,.int hi u,.int 1 v]}).objs.size,[(s.heap.push {cls:=.type "range", data:=.fields #[.int lo t,.int hi u,.int 1 v]}).objs.size],_,_,H,rfl,
  I1.kept (t':=tk) λb o e=>Ql _ e,DX _ lo (hi-lo).toNat,?_,λb hb=>?_,q⟩
 .have e1:lo+((0:Nat):Int)*1=lo:=by simp
  have e2:(((hi-lo).toNat:Nat):Int)-((0:Nat):Int)=Builtin.Range.rangeSize lo hi 1:=by rw[rangeSize_one];split<;>omega
  show IsRangeIter _ _ (lo+((0:Nat):Int)*1) ((((hi-lo).toNat:Nat):Int)-((0:Nat):Int)) 1;rw[e1,e2];exact QB _ C3
 .have e:b=(s.heap.push {cls:=.type "range", data:=.fields #[.int lo t,.int hi u,.int 1 v]}).objs.size:=by simpa using hb
  subst e;exact I1.fpOk (Qo _) (I1.hok.fresh (Qo _))
noncomputable def NM(ta:TA):TI:=λσ H R=>ta σ H λvs H1=>∃j:Int,vs=[.int j] /\ -(2 ^ 62)<=j/\j<2 ^ 62/\R (Itr 0 j.toNat) H1
noncomputable def NL(ta:TA):TI:=λσ H R=>ta σ H λvs H1=>∃i j:Int,vs=[.int i,.int j]/\(-(2 ^ 62)<=i/\i<2 ^ 62 /\ -(2 ^ 62)<=j/\j<2 ^ 62)/\R (Itr i (j-i).toNat) H1
theorem D3{a:Ue}{ta:TA}{p pos:Pos}(hg:Gl X "range")(hm:X.mg "range" = C4)(ha:PA X [a] ta)(hs:Uh [a] X.env=[(C6,eval a X.env)]:=by rfl):PI X tg (.Call (.Name "range" p) [a] [] pos) (NM ta):=by
 intro pins s σ H R I h;refine Call_ (XS I hg hm boot_range (Jo (thn (ha pos pins s σ H _ I h) λus s1 ⟨vs,H1,I1,r1,q1⟩=>?_) hs C3));obtain⟨j,e,q1,q2,q⟩:=q1;subst e;cases r1 with
 |cons r rr=>cases rr;obtain⟨t,rfl⟩:=r;exact call_range_1 (PL I1 (by omega) (by omega) q1 q2 (by simpa using q))
theorem D2{a b:Ue}{ta:TA}{p pos:Pos}(hg:Gl X "range")(hm:X.mg "range" = C4)(ha:PA X [a,b] ta)(hs:Uh [a,b] X.env=[(C6,eval a X.env),(C6,eval b X.env)]:=by rfl)(hs2:Uh [b] X.env=[(C6,eval b X.env)]:=by rfl) :
  PI X tg (.Call (.Name "range" p) [a,b] [] pos) (NL ta):=by
 intro pins s σ H R I h;refine Call_ (XS I hg hm boot_range (Jo (thn (ha pos pins s σ H _ I h) λus s1 ⟨vs,H1,I1,r1,q1⟩=>?_) (by rw[hs,hs2]) (by rw[hs2];rfl)));obtain⟨i,j,e,⟨q1,q2,q3,q4⟩,q⟩:=q1;subst e;cases r1 with
 |cons r rr=>
  cases rr with
  |cons r' rr=>cases rr;obtain⟨t,rfl⟩:=r;obtain⟨t',rfl⟩:=r';exact call_range_2 (PL I1 q1 q2 q3 q4 q)
noncomputable def tFor(wi:TI)(g:TG)(tb:TS):TS:=λD σ H=>wi σ H λJ H1=>∃W:Nat->Nat->St->Hp->Prop,(∃m,W 0 m σ H1)/\∀i m σ H,W i m σ H ->
 (J.stop i H/\D.nx σ H)∨(J.go i H/\∃N:St->Hp->Prop,(∀σ' H',N σ' H'->∃m',m'<m/\W (i+1) m' σ' H')/\∀x H',J.yld i H x H'->g x σ H' λσ2 H2=>tb {D with nx:=N,ct:=N,bk:=D.nx} σ2 H2)
noncomputable def Vn(fp:Be)(h:Heap):List (Uc×Obj):=fp.filterMap λb=>(h.get? b).map λo=>(b,o)
theorem Tu{fp:Be}{h:Heap}{b:Uc}{o:Obj}(hb:b∈fp)(e:h.get? b=O o):(b,o)∈Vn fp h:=List.mem_filterMap.mpr ⟨b,hb,by rw[e];rfl⟩
theorem D1{fp:Be}{h:Heap}{p:Uc×Obj}(hp:p∈Vn fp h):p.1∈fp/\h.get? p.1=O p.2:=by
 obtain⟨b,hb,e⟩:=List.mem_filterMap.mp hp;cases q:h.get? b with
 |none=>rw[q]at e;cases e
 |some o=>rw[q]at e;have e':(b,o)=p:=Qu e;subst e';exact⟨hb,q⟩
theorem Inv.pinned{pins:List (Uc×Obj)}{σ:St}{H:Hp}{s:Ua}{fp:Be}(I:Inv X pins σ H s)(hf:∀b∈fp,KF X pins H b)(ho:∀b∈fp,∃o,s.heap.get? b=O o/\∀v,o.data≠.cell v):Inv X (pins++Vn fp s.heap) σ H s:=
 I.pins_of λp hp=>(QF.mp hp).elim (λz=>I.pin p (Qr _ z)) λz=>by obtain⟨hb,e⟩:=D1 z;obtain⟨f0,f1,f2,_⟩:=hf p.1 hb;obtain⟨o,e',d⟩:=ho p.1 hb;rw[e]at e';cases e';exact⟨e,f0,f1,f2,d⟩
theorem Inv.unpinned{pins pl:List (Uc×Obj)}{σ:St}{H:Hp}{s:Ua}(I:Inv X (pins++pl) σ H s):Inv X pins σ H s:=I.pins_of λp hp=>I.pin p (Qr _ (QI _ hp))
theorem VW{iter:Ue}{body:List Stmt}{wi:TI}{g:TG}{tb:TS}{pos:Pos}(hp:PassesOwn (model X.prog X.w) X.A X.env X.xe)(hc:X.calm=C5)(hi:PI X tg iter wi)(hg:PG X tg g)(hb:PSs X body tb)
  (hs:∀x,Uy iter X.env x=pure x:=by intro _;rfl):PS X (.For tg iter body [] pos) (tFor wi g tb):=by
 intro pins s σ H D I h;refine wpAny_For (thn (hi pins s σ H _ I h) λv s1 h1=>thn h1 λitv s2 h2=>?_) hs;obtain⟨it,fp,tn,J,H2,e,I2,T,st2,f2,W,⟨m0,w0⟩,turn⟩:=h2;subst e;have stat:∀{H':Hp},(∀b∈fp,H' b=C4)->∀b∈fp,KF X pins H' b:=λhn b hb=>⟨hn b hb,(f2 b hb).2⟩;refine codeAny_forLoop_any (λn s'=>∃i σ' H',Inv X pins σ' H' s'/\tn i s'.heap/\(∀b∈fp,H' b=C4)/\W i n σ' H') ?_ m0 ⟨0,σ,H2,I2,st2,λb hb=>(f2 b hb).1,w0⟩;rintro n s3 ⟨i,σ3,H3,I3,st3,fr3,w3⟩;rcases turn i n σ3 H3 w3 with ⟨stop,qn⟩|⟨go,N,hN,step⟩
 .refine Ji hp (thn (T.done X C3 C3 C3 hc i pins s3 σ3 H3 X.xe I3 (stat fr3) st3 stop) λr s4 ⟨hr,I4⟩=>?_)
  subst hr;exact wpAny_execs_nil ⟨σ3,H3,I4,qn⟩
 .refine Ji hp (thn (T.item X C3 C3 C3 hc i pins s3 σ3 H3 X.xe I3 (stat fr3) st3 go) λr s4 ⟨u,hr,h4⟩=>?_)
  subst hr;refine Ji hp (thn h4 λ_ s5 ⟨x,H5,I5,r5,y5,BV,fr5⟩=>?_);have I5':=I5.pinned (stat fr5) (T.obj _ _ BV);refine Ji hp (thn (hg _ s5 σ3 H5 x u _ I5' r5 (step x H5 y5)) λ_ s6 ⟨σ6,H6,I6,q6⟩=>?_);refine Ji hp (thn (hb _ s6 σ6 H6 _ I6 q6) λf s7 q7=>?_);have again:∀{σ7:St}{H7:Hp},Inv X (pins++Vn fp s5.heap) σ7 H7 s7->N σ7 H7->∃m,m<n/\∃i σ' H',Inv X pins σ' H' s7/\tn i s7.heap/\(∀b∈fp,H' b=C4)/\W i m σ' H':=λ{σ7 H7} I7 n7=>by obtain⟨m',hm,w7⟩:=hN σ7 H7 n7;refine⟨m',hm,i+1,σ7,H7,I7.unpinned,T.keep _ _ _ BV λb hb o e=>(I7.pin (b,o) (Qr _ (Qr _ (Tu hb e)))).1,λb hb=>?_,w7⟩;obtain⟨o,e,d⟩:=T.obj _ _ BV b hb;exact(I7.pin (b,o) (Qr _ (Qr _ (Tu hb e)))).2.1
  cases f with
  |next=>obtain⟨σ7,H7,I7,n7⟩:=q7;exact again I7 n7
  |cont=>obtain⟨σ7,H7,I7,n7⟩:=q7;exact again I7 n7
  |brk=>obtain⟨σ7,H7,I7,q7⟩:=q7;exact⟨σ7,H7,I7.unpinned,q7⟩
  |ret v=>obtain⟨x7,σ7,H7,I7,r7,q7⟩:=q7;exact⟨x7,σ7,H7,I7.unpinned,r7,q7⟩
end
abbrev R2:=V->V->Hp->VK->Prop
def OpR(X:Cx)(f:J9->J9->Sem J9)(r:R2):Prop:=
 ∀(pins:List (Uc×Obj))(s:Ua)(σ:St)(H:Hp)(x y:V)(v u:J9)(Q:VK),Inv X pins σ H s->RelV x v->RelV y u->r x y H Q ->
  Ug (model X.prog X.w) X.A (f v u) (EP X pins σ Q) X.xe s
def UnR(X:Cx)(f:J9->Sem J9)(r:V->Hp->VK->Prop):Prop:=
 ∀(pins:List (Uc×Obj))(s:Ua)(σ:St)(H:Hp)(x:V)(v:J9)(Q:VK),Inv X pins σ H s->RelV x v->r x H Q ->
  Ug (model X.prog X.w) X.A (f v) (EP X pins σ Q) X.xe s
def ZC(X:Cx)(f:J9)(r:List V->Hp->VK->Prop):Prop:=
 ∀(pins:List (Uc×Obj))(s:Ua)(σ:St)(H:Hp)(xs:List V)(us:C9)(Q:VK),Inv X pins σ H s->Vals xs us->r xs H Q ->
  Ug (model X.prog X.w) X.A (call f us) (EP X pins σ Q) X.xe s
noncomputable def tOp(r:R2)(ta tb:TE):TE:=λσ H Q=>ta σ H λx H1=>tb σ H1 λy H2=>r x y H2 Q
noncomputable def tUn(r:V->Hp->VK->Prop)(ta:TE):TE:=λσ H Q=>ta σ H λx H1=>r x H1 Q
noncomputable def rI(C:Int->Int->Prop)(g:Int->Int->V):R2:=λx y H Q=>∃i j,x=.int i/\y=.int j/\C i j/\Q (g i j) H
noncomputable def rI0(g:Int->Int->V):R2:=λx y H Q=>∃i j,x=.int i/\y=.int j/\Q (g i j) H
noncomputable def rU(g:Int->V):V->Hp->VK->Prop:=λx H Q=>∃i,x=.int i/\Q (g i) H
section
variable{X:Cx}{a b c:Ue}{ta tb tc:TE}{pos:Pos}
theorem Ww(ha:PE X a ta)(hb:PE X b tb){pins:List (Uc×Obj)}{s:Ua}{σ:St}{H:Hp}{R:V->V->Hp->Prop}(I:Inv X pins σ H s)
  (h:ta σ H λx H1=>tb σ H1 λy H2=>R x y H2) {Q:J9->Ua->Prop} {f:J9->J9->Sem J9}
  (hf:∀v u s2 x y H2,Inv X pins σ H2 s2->RelV x v->RelV y u->R x y H2->Ug (model X.prog X.w) X.A (f v u) Q X.xe s2) :
  Ug (model X.prog X.w) X.A (eval a X.env) (λv s₁=>Ug (model X.prog X.w) X.A (eval b X.env) (λu s₂=>Ug (model X.prog X.w) X.A (f v u) Q X.xe s₂) X.xe s₁) X.xe s:=by
 refine thn (ha pins s σ H _ I h) λv s1 ⟨x,H1,I1,r1,q1⟩=>?_;refine thn (hb pins s1 σ H1 _ I1 q1) λu s2 ⟨y,H2,I2,r2,q2⟩=>?_;exact hf v u s2 x y H2 I2 r1 r2 q2
theorem NK{op:Operator}{r:R2}(ho:OpR X (binaryOp op) r)(ha:PE X a ta)(hb:PE X b tb):PE X (.BinOp a op b pos) (tOp r ta tb):=by intro pins s σ H Q I h;exact wpAny_BinOp (Ww ha hb I h λv u s2 x y H2 I2 rx ry q=>ho pins s2 σ H2 x y v u Q I2 rx ry q)
theorem NJ{op:UnaryOp}{r:V->Hp->VK->Prop}(ho:UnR X (unaryOp op) r)(ha:PE X a ta):PE X (.UnaryOp op a pos) (tUn r ta):=by intro pins s σ H Q I h;exact UnaryOp_ (thn (ha pins s σ H _ I h) λv s1 ⟨x,H1,I1,r1,q1⟩=>ho pins s1 σ H1 x v Q I1 r1 q1)
theorem opI{f:J9->J9->Sem J9}{C:Int->Int->Prop}{g:Int->Int->Int}
  (rule:∀(i j:Int)(t u:Tok)(s:Ua)(Q:J9->Ua->Prop)(E:J9->Ua->Prop),C i j->Q (.int (g i j) s.toks) {s with toks:=s.toks+1}->Ug (model X.prog X.w) X.A (f (.int i t) (.int j u)) Q E s) :
  OpR X f (rI C λi j=>.int (g i j)):=by
 intro pins s σ H x y v u Q I rx ry h;obtain⟨i,j,rfl,rfl,hc,q⟩:=h;obtain⟨t,rfl⟩:=rx;obtain⟨t',rfl⟩:=ry;exact rule i j t t' s _ _ hc ⟨.int (g i j),H,I.tok _,⟨_,rfl⟩,q⟩
theorem opI0{f:J9->J9->Sem J9}{g:Int->Int->Int}
  (rule:∀(i j:Int)(t u:Tok)(s:Ua)(Q:J9->Ua->Prop)(E:J9->Ua->Prop),Q (.int (g i j) s.toks) {s with toks:=s.toks+1}->Ug (model X.prog X.w) X.A (f (.int i t) (.int j u)) Q E s) :
  OpR X f (rI0 λi j=>.int (g i j)):=by
 intro pins s σ H x y v u Q I rx ry h;obtain⟨i,j,rfl,rfl,q⟩:=h;obtain⟨t,rfl⟩:=rx;obtain⟨t',rfl⟩:=ry;exact rule i j t t' s _ _ ⟨.int (g i j),H,I.tok _,⟨_,rfl⟩,q⟩
theorem Y5{f:J9->J9->Sem J9}{g:Int->Int->Bool}
  (rule:∀(i j:Int)(t u:Tok)(s:Ua)(Q:J9->Ua->Prop)(E:J9->Ua->Prop),Q (.bool (g i j)) s->Ug (model X.prog X.w) X.A (f (.int i t) (.int j u)) Q E s) :
  OpR X f (rI0 λi j=>.bl (g i j)):=by
 intro pins s σ H x y v u Q I rx ry h;obtain⟨i,j,rfl,rfl,q⟩:=h;obtain⟨t,rfl⟩:=rx;obtain⟨t',rfl⟩:=ry;exact rule i j t t' s _ _ ⟨.bl (g i j),H,I,rfl,q⟩
def CPow(i j:Int):Prop:=0<=j/\j<=1000000/\i.natAbs<2 ^ 64
def CMul(i j:Int):Prop:=(-(2 ^ 64)<i/\i<2 ^ 64)∨(-(2 ^ 64)<j/\j<2 ^ 64)
theorem CMul.ok{i j:Int}(h:CMul i j):IntMulOk i j:=by
 rcases h with ⟨h1,h2⟩|⟨h1,h2⟩
 .exact .of_left (intBits_le_64 h1 h2)
 .exact .of_right (intBits_le_64 h1 h2)
theorem Hf:OpR X (binaryOp .Add) (rI0 λi j=>.int (i+j)):=opI0 λ_ _ _ _ _ _ _ q=>add_int q
theorem He:OpR X (binaryOp .Sub) (rI0 λi j=>.int (i-j)):=opI0 λ_ _ _ _ _ _ _ q=>sub_int q
theorem Hd:OpR X (binaryOp .Mult) (rI CMul λi j=>.int (i*j)):=opI λ_ _ _ _ _ _ _ hc q=>mul_int q hc.ok
theorem Hc:OpR X (binaryOp .Mod) (rI (λ_ j=>0<j) λi j=>.int (i % j)):=opI λi j _ _ _ _ _ hc q=>by have h1:(0:Int)<j:=hc;exact mod_int' (by omega) (by rw[Int.fmod_eq_emod_of_nonneg i (by omega)];exact q)
theorem Hb:OpR X (binaryOp .Pow) (rI CPow λi j=>.int (i ^ j.toNat)):=opI λ_ _ _ _ _ _ _ hc q=>pow_int_small hc.1 hc.2.1 hc.2.2 q
theorem unI{f:J9->Sem J9}{g:Int->Int}
  (rule:∀(i:Int)(t:Tok)(s:Ua)(Q:J9->Ua->Prop)(E:J9->Ua->Prop),Q (.int (g i) s.toks) {s with toks:=s.toks+1}->Ug (model X.prog X.w) X.A (f (.int i t)) Q E s) :
  UnR X f (rU λi=>.int (g i)):=by
 intro pins s σ H x v Q I rx h;obtain⟨i,rfl,q⟩:=h;obtain⟨t,rfl⟩:=rx;exact rule i t s _ _ ⟨.int (g i),H,I.tok _,⟨_,rfl⟩,q⟩
theorem Ha:UnR X (unaryOp .USub) (rU λi=>.int (-i)):=unI λ_ _ _ _ _ q=>neg_int q
end
section
variable{X:Cx}{a b c:Ue}{ta tb tc:TE}{pos:Pos}
theorem RR{pins:List (Uc×Obj)}{σ:St}{H:Hp}{s:Ua}{Q:VK}{k k':Bool}(I:Inv X pins σ H s)(q:Q (.bl k) H)(e:k=k'):EP X pins σ Q (.bool k') s:=by subst e;exact⟨.bl k,H,I,rfl,q⟩
theorem NI:OpR X (Ui .Lt) (rI0 λi j=>.bl (decide (i<j))):=Y5 λ_ _ _ _ _ _ _ q=>lt_int q
theorem NH:OpR X (Ui .LtE) (rI0 λi j=>.bl (decide (i<=j))):=Y5 λ_ _ _ _ _ _ _ q=>le_int q
theorem Mv:OpR X (Ui .Gt) (rI0 λi j=>.bl (decide (j<i))):=Y5 λ_ _ _ _ _ _ _ q=>gt_int q
theorem Mu:OpR X (Ui .GtE) (rI0 λi j=>.bl (decide (j<=i))):=Y5 λ_ _ _ _ _ _ _ q=>ge_int q
theorem D0:OpR X (Ui .In) (λx y H Q=>∃i j,x=.str i/\y=.str j/\Q (.bl (!(Builtin.Str.occurrences j i 0 j.length 1).isEmpty)) H):=by intro pins s σ H x y v u Q I rx ry h;obtain⟨i,j,rfl,rfl,q⟩:=h;obtain⟨t,rfl⟩:=rx;obtain⟨t',rfl⟩:=ry;exact in_str (RR I q C3)
theorem CQ:OpR X (Ui .NotIn) (λx y H Q=>∃i j,x=.str i/\y=.str j/\Q (.bl (!(!(Builtin.Str.occurrences j i 0 j.length 1).isEmpty))) H):=by intro pins s σ H x y v u Q I rx ry h;obtain⟨i,j,rfl,rfl,q⟩:=h;obtain⟨t,rfl⟩:=rx;obtain⟨t',rfl⟩:=ry;exact notIn_str (RR I q C3)
theorem OpR.or{f:J9->J9->Sem J9}{r r':R2}(h:OpR X f r)(h':OpR X f r'):OpR X f (λx y H Q=>r x y H Q∨r' x y H Q):=by
 intro pins s σ H x y v u Q I rx ry q;rcases q with q|q
 .exact h pins s σ H x y v u Q I rx ry q
 .exact h' pins s σ H x y v u Q I rx ry q
theorem L9(b:Ue){op:CmpOp}(h:op≠.In:=by decide)(h2:op≠.NotIn:=by decide):behindInMarks op b=C6:=by
 have e1:(op==CmpOp.In)=C6:=by cases op<;>first|rfl|exact absurd C3 h
 have e2:(op==CmpOp.NotIn)=C6:=by cases op<;>first|rfl|exact absurd C3 h2
 cases b<;>simp[behindInMarks,e1,e2]
theorem PD{op:CmpOp}{r:R2}(ho:OpR X (Ui op) r)(ha:PE X a ta)(hb:PE X b tb)(hm:behindInMarks op b=C6):PE X (.Compare a [op] [b] pos) (tOp r ta tb):=by intro pins s σ H Q I h;exact wpAny_Compare1 (Ww ha hb I h λv u s2 x y H2 I2 rx ry q=>ho pins s2 σ H2 x y v u Q I2 rx ry q) hm
noncomputable def RA(t:TE):TT:=λσ H Q=>t σ H λx H'=>∃k,x=.bl k/\Q k H'
theorem Sw{op:CmpOp}{r:R2}(ho:OpR X (Ui op) r)(ha:PE X a ta)(hb:PE X b tb)(hm:behindInMarks op b=C6):PT X (.Compare a [op] [b] pos) (RA (tOp r ta tb)):=by
 intro pins s σ H Q I h
 refine wpAny_isTrue_Compare1 (thn (ha pins s σ H _ I h) λv s1 ⟨x,H1,I1,r1,q1⟩=>thn (hb pins s1 σ H1 _ I1 q1) λu s2 ⟨y,H2,I2,r2,q2⟩=>
  thn (ho pins s2 σ H2 x y v u _ I2 r1 r2 q2) λc s3 ⟨z,H3,I3,r3,k,e,q3⟩=>?_) hm
 subst e;cases r3;exact Q5 ⟨H3,I3,q3⟩
noncomputable def RQ(r r':R2)(ta tb tc:TE):TE:=λσ H Q=>ta σ H λx H1=>tb σ H1 λy H2=>r x y H2 λz H3=>∃k,z=.bl k /\
 (if k=C5 then tc σ H3 λw' H4=>r' y w' H4 Q else Q (.bl C6) H3)
theorem E3{op op':CmpOp}{r r':R2}(ho:OpR X (Ui op) r)(ho':OpR X (Ui op') r')(ha:PE X a ta)(hb:PE X b tb)(hc:PE X c tc)
  (hm:lastMarks [op,op'] [b,c]=C6:=by with_unfolding_all rfl):PE X (.Compare a [op,op'] [b,c] pos) (RQ r r' ta tb tc):=by
 intro pins s σ H Q I h
 refine Compare_chain (thn (ha pins s σ H _ I h) λv s1 ⟨x,H1,I1,r1,q1⟩=>chain_link (thn (hb pins s1 σ H1 _ I1 q1) λu s2 ⟨y,H2,I2,r2,q2⟩=>
  thn (ho pins s2 σ H2 x y v u _ I2 r1 r2 q2) λd s3 ⟨z,H3,I3,r3,k,e,q3⟩=>?_)) hm
 subst e;cases r3;refine Q5 ?_;cases k with
 |false=>exact ite_ff ⟨.bl C6,H3,I3,rfl,q3⟩
 |true=>exact ite_tt (chain_last (thn (hc pins s3 σ H3 _ I3 q3) λw' s4 ⟨z',H4,I4,r4,q4⟩=>ho' pins s4 σ H4 y z' u w' Q I4 r2 r4 q4))
theorem E2{op op':CmpOp}{r r':R2}(ho:OpR X (Ui op) r)(ho':OpR X (Ui op') r')(ha:PE X a ta)(hb:PE X b tb)(hc:PE X c tc)
  (hm:lastMarks [op,op'] [b,c]=C6:=by with_unfolding_all rfl):PT X (.Compare a [op,op'] [b,c] pos) (RA (RQ r r' ta tb tc)):=by
 intro pins s σ H Q I h
 refine isTrue_chain (thn (ha pins s σ H _ I h) λv s1 ⟨x,H1,I1,r1,q1⟩=>test_link (thn (hb pins s1 σ H1 _ I1 q1) λu s2 ⟨y,H2,I2,r2,q2⟩=>
  thn (ho pins s2 σ H2 x y v u _ I2 r1 r2 q2) λd s3 ⟨z,H3,I3,r3,k,e,q3⟩=>?_)) hm
 subst e;cases r3;refine Q5 ?_;cases k with
 |false=>obtain⟨k',e',q'⟩:=q3;cases e';exact ite_ff ⟨H3,I3,q'⟩
 |true=>refine ite_tt (test_last (thn (hc pins s3 σ H3 _ I3 q3) λw' s4 ⟨z',H4,I4,r4,q4⟩=>thn (ho' pins s4 σ H4 y z' u w' _ I4 r2 r4 q4) λd' s5 ⟨z2,H5,I5,r5,k2,e2,q5⟩=>?_));subst e2;cases r5;exact Q5 ⟨H5,I5,q5⟩
theorem VU:(Uf:Nat)<2 ^ 63:=by rw[sizeLine_eq];decide
theorem DW:OpR X (binaryOp .Add) (λx y H Q=>∃i j,x=.str i/\y=.str j/\i.length+j.length<=Uf/\Q (.str (i++j)) H):=by intro pins s σ H x y v u Q I rx ry h;obtain⟨i,j,rfl,rfl,hz,q⟩:=h;obtain⟨t,rfl⟩:=rx;obtain⟨t',rfl⟩:=ry;exact add_str (λt' tk=>⟨.str (i++j),H,I.tok _,⟨_,rfl⟩,q⟩) hz
theorem Rz{x:V}{us:C9}(r:Vals [x] us):∃u,us=[u]/\RelV x u:=by
 cases r with
 |cons r1 r2=>cases r2;exact⟨_,rfl,r1⟩
theorem TZ{x y:V}{us:C9}(r:Vals [x,y] us):∃u w',us=[u,w']/\RelV x u/\RelV y w':=by
 cases r with
 |cons r1 r2=>
  cases r2 with
  |cons r3 r4=>cases r4;exact⟨_,_,rfl,r1,r3⟩
theorem DZ(hc:X.calm=C5):ZC X (.builtin "max") (λxs H Q=>∃i j,xs=[.int i,.int j]/\Q (.int (if j > i then j else i)) H):=by
 intro pins s σ H xs us Q I r h;obtain⟨i,j,rfl,q⟩:=h;obtain⟨u,w',rfl,⟨t,rfl⟩,⟨t',rfl⟩⟩:=TZ r;refine max_two_ints (I.ok.hd hc) λh' tk k=>⟨_,H,I.kept k,?_,q⟩
 by_cases hj:j > i
 .rw[Qq hj,Qq hj];exact⟨_,rfl⟩
 .rw[QE hj,QE hj];exact⟨_,rfl⟩
def LenV(K:Frag)(x:V)(H:Hp)(n:Nat):Prop:=
 match x with
 |.str y=>y.length<=Uf/\n=y.length
 |.byt y=>y.size<=Uf/\n=y.size
 |.ref p=>(∃xs,SqL K H p xs/\n=xs.length) ∨ ∃xs,SqT K H p xs/\n=xs.length
 |_=>False
theorem PK:ZC X (.builtin "len") (λxs H Q=>∃x n,xs=[x]/\LenV X.K x H n/\Q (.int n) H):=by
 intro pins s σ H xs us Q I r h;obtain⟨x,n,rfl,e,q⟩:=h;obtain⟨u,rfl,rx⟩:=Rz r;have hl:=VU;have hs:Uf=16777216:=sizeLine_eq;cases x with
 |str y=>obtain⟨t,rfl⟩:=rx;obtain⟨hy,e'⟩:y.length<=Uf/\n=y.length:=e;subst e';exact len_str (by omega) ⟨.int _,H,I.tok _,⟨_,rfl⟩,q⟩
 |byt y=>obtain⟨t,rfl⟩:=rx;obtain⟨hy,e'⟩:y.size<=Uf/\n=y.size:=e;subst e';exact PySem.W.len_bytes (by omega) ⟨.int _,H,I.tok _,⟨_,rfl⟩,q⟩
 |ref p=>
  cases rx;have e':(∃xs,SqL X.K H p xs/\n=xs.length) ∨ ∃xs,SqT X.K H p xs/\n=xs.length:=e;rcases e' with ⟨xs,hx,e'⟩|⟨xs,hx,e'⟩
  .subst e'
   obtain⟨its,r',pl,hz⟩:=I.list hx;have hlen:=r'.length;exact Calls.call_len_list pl.isList (by simp only[QL];omega) ⟨.int xs.length,H,I.tok _,⟨_,by simp only[QL];rw[hlen]⟩,q⟩
  .subst e'
   obtain⟨its,r',pl,hz⟩:=I.tuple hx;have hlen:=r'.length;exact len_tuple pl (by simp only[QL];omega) ⟨.int xs.length,H,I.tok _,⟨_,by simp only[QL];rw[hlen]⟩,q⟩
 |_=>exact(show False from e).elim
end
structure Room(k:Nat)(A:Around):Prop where
 hd:A.handled=C4
 dp:A.depth+3*k+5<recursionLimit
 un:A.units+16*k+200<cLine
 gd:A.guards=O []
theorem Room.mono{j k:Nat}{A:Around}(r:Room k A)(h:j<=k):Room j A:=⟨r.hd,by have:=r.dp;omega,by have:=r.un;omega,r.gd⟩
theorem Room.deeper{k:Nat}{A:Around}(r:Room (k+1) A)(env:Env):Room k (A.deeper env):=
 ⟨r.hd,by have:=r.dp;show A.depth+1+3*k+5<_;omega,by have:=r.un;show A.units+3+16*k+200<_;omega,r.gd⟩
theorem Room.depth{k:Nat}{A:Around}(r:Room k A):A.depth<recursionLimit:=by have:=r.dp;omega
theorem Room.units{k:Nat}{A:Around}(r:Room k A):A.units+64<cLine:=by have:=r.un;omega
noncomputable def tNil:TA:=λ_ H Q=>Q [] H
noncomputable def Mt(ta:TE)(tr:TA):TA:=λσ H Q=>ta σ H λx H1=>tr σ H1 λxs H2=>Q (x::xs) H2
section
variable{X:Cx}{e:Ue}{es:Ba}{te:TE}{t:TA}{pos:Pos}
theorem Z1:PA X [] tNil:=λ_ _ _ _ H Q I h=>Calls.spliced_nil ⟨[],H,I,.nil,h⟩
theorem ZZ(ha:PE X e te)(hr:PA X es t)(hs:Uh (e::es) X.env=(C6,eval e X.env)::Uh es X.env:=by rfl):PA X (e::es) (Mt te t):=by intro pos pins s σ H Q I h;rw[hs];show Ug _ _ (spliced ((C6,eval e X.env)::backTo pos (Uh es X.env))) _ _ s;refine Calls.spliced_cons (thn (ha pins s σ H _ I h) λu s1 ⟨x,H1,I1,r1,q1⟩=>?_);exact thn (hr pos pins s1 σ H1 _ I1 q1) λus s2 ⟨xs,H2,I2,r2,q2⟩=>⟨x::xs,H2,I2,.cons r1 r2,q2⟩
noncomputable def tTup(t:TA):TE:=λσ H Q=>t σ H λxs H1=>xs.length<=Uf/\∀p,H1 p=C4->Q (.ref p) (upd H1 p (.tup xs))
noncomputable def tLst(t:TA):TE:=λσ H Q=>t σ H λxs H1=>xs.length<=Uf/\∀p,H1 p=C4->Q (.ref p) (upd H1 p (.lst xs))
theorem L8{x1}(h:PA X es t):PE X (.Tuple es x1 pos) (tTup t):=by intro pins s σ H Q I hq;refine wpAny_Tuple_spliced (thn (h pos pins s σ H _ I hq) λus s1 ⟨xs,H1,I1,r,z,q⟩=>⟨by rw[←r.length];exact z,?_⟩);have hf:H1 s1.heap.objs.size=C4:=I1.hok.fresh (Qo _);refine⟨.ref s1.heap.objs.size,upd H1 s1.heap.objs.size (.tup xs),I1.laid (t':=s1.toks) (λb u e=>Ql _ e) (Qo _) ?_,rfl,q _ hf⟩;exact⟨z,us,r,⟨_,QB _ C3,rfl,_,rfl⟩⟩
theorem Sd(h:PA X es t):PE X (.List es pos) (tLst t):=by intro pins s σ H Q I hq;refine wpAny_List_spliced (thn (h pos pins s σ H _ I hq) λus s1 ⟨xs,H1,I1,r,z,q⟩=>⟨by rw[←r.length];exact z,?_⟩);have hf:H1 s1.heap.objs.size=C4:=I1.hok.fresh (Qo _);refine⟨.ref s1.heap.objs.size,upd H1 s1.heap.objs.size (.lst xs),I1.laid (t':=s1.toks) (λb u e=>Ql _ e) (Qo _) ?_,rfl,q _ hf⟩;exact⟨z,us,0,r,QB _ C3⟩
end
abbrev Sp:=List V->Hp->VK->XK->Prop
abbrev CXT:=List Env->Hp->Ua->XK->J9->Ua->Prop
structure Env0(P:Ub)(w:World)(K:Frag)(mg:Str->Bd)(base:Heap)(A:Around)(outer:List Env)(s:Ua)(H:Hp):Prop where
 frames:A.frames=O outer
 mod:Mod K mg base
 bs:∀b o,base.get? b=O o->s.heap.get? b=O o/\H b=C4
 bsz:base.objs.size<=s.heap.objs.size
 funs:s.heap.FunFrames base outer
 frf:∀b∈frs outer,H b=C4
 hok:HOk P w H s.heap
 bare:AllBare s.gens
def CE(outer:List Env)(P:Ub)(w:World)(H:Hp)(s:Ua)(Q:VK)(u:J9)(s':Ua):Prop:=
 ∃v H',s'.os=s.os/\AllBare s'.gens/\Un (frs outer) [] H H' s.heap s'.heap/\HOk P w H' s'.heap/\RelV v u/\Q v H'
def CR(CX:CXT)(outer:List Env)(P:Ub)(w:World)(H:Hp)(s:Ua)(Q:VK)(E:XK)(r:Result)(s':Ua):Prop:=
 match r with
 |.ok (.ret u)=>CE outer P w H s Q u s'
 |.ok _=>False
 |.error e=>CX outer H s E e s'
structure FnOk(P:Ub)(w:World)(K:Frag)(mg:Str->Bd)(base:Heap)(CX:CXT)(k:Nat)(f:Uc)(fd:Ud)(ps:List Str)(sp:Sp):Prop where
 len:∀vs H Q E,sp vs H Q E->vs.length=ps.length
 run:∀(A:Around)(outer:List Env)(s:Ua)(H:Hp)(args:Args)(us:C9)(vs:List V)(Q:VK)(E:XK),Room k A->Env0 P w K mg base A outer s H->BindsTo s fd args (ps.zip us)->Vals vs us->sp vs H Q E ->
  codeAny (model P w) A (.call (.ref f) args) (CR CX outer P w H s Q E) s
theorem FnOk.imp{P:Ub}{w:World}{K:Frag}{mg:Str->Bd}{base:Heap}{CX:CXT}{k:Nat}{f:Uc}{fd:Ud}{ps:List Str}{sp sp':Sp}(F:FnOk P w K mg base CX k f fd ps sp)
  (h:∀vs H Q E,sp' vs H Q E->sp vs H Q E):FnOk P w K mg base CX k f fd ps sp':=
 ⟨λvs H Q E q=>F.len vs H Q E (h _ _ _ _ q),λA outer s H args us vs Q E hr he hb hv hs=>F.run A outer s H args us vs Q E hr he hb hv (h _ _ _ _ hs)⟩
section
variable{X:Cx}{pins:List (Uc×Obj)}{σ:St}{H:Hp}{s s':Ua}
theorem Inv.env0(I:Inv X pins σ H s):Env0 X.prog X.w X.K X.mg X.base X.A X.stack s H:=
 ⟨I.ok.frames,I.ok.mod,I.bs,Qy I.ok.bsz I.sz,I.stack,I.stkFree,I.hok,I.bare⟩
theorem Inv.after{Q:VK}{u:J9}(I:Inv X pins σ H s)(h:CE X.stack X.prog X.w H s Q u s'):EP X pins σ Q u s':=by obtain⟨v,H',os,bare,un,hok,r,q⟩:=h;obtain⟨hh,g,d,t,os'⟩:=s';obtain rfl:os'=s.os:=os;exact⟨v,H',I.call (h':=hh) (g':=g) (d':=d) (t':=t) (ch:=[]) un hok bare (λb z=>absurd z (by simp)),r,q⟩
end
noncomputable def Ms(sp:Sp)(dvs:List V)(E:XK)(t:TA):TE:=λσ H Q=>t σ H λvs H1=>sp (vs++dvs) H1 Q E
def YG(K:Frag)(fd:Ud)(ps:List Str)(ds:C9):Prop:=
 ∀(s:Ua)(us:C9),K.In s.heap->(us++ds).length=ps.length->BindsTo s fd ⟨us,[]⟩ (ps.zip (us++ds))
theorem YG.all{K:Frag}{fd:Ud}{ps:List Str}(h:∀us:C9,us.length=ps.length->bindArgs fd ⟨us,[]⟩=pure (ps.zip us)):YG K fd ps []:=λs us _ hl=>by rw[QS]at hl⊢;exact .of_eq (h us hl)
def Sc(CX:CXT)(X:Cx)(E:XK):Prop:=∀(pins:List (Uc×Obj))(σ:St)(H:Hp)(s:Ua)(e:J9)(s':Ua),Inv X pins σ H s->CX X.stack H s E e s'->X.xe e s'
section
variable{X:Cx}{CX:CXT}{k:Nat}{f C:Uc}{fd:Ud}{ps:List Str}{sp:Sp}{dvs:List V}{ds:C9}{E:XK}{x m:Str}{p pos apos:Pos}{e o:Ue}{es:Ba}{ta:TE}{t:TA}
theorem L7{pins:List (Uc×Obj)}{σ:St}{H:Hp}{s:Ua}{Q:VK}{us:C9}{vs:List V}(F:FnOk X.prog X.w X.K X.mg X.base CX k f fd ps sp)(hr:Room k X.A)(hb:YG X.K fd ps ds)(hd:Vals dvs ds)(hx:Sc CX X E)
  (I:Inv X pins σ H s) (r:Vals vs us) (h:sp (vs++dvs) H Q E):Ug (model X.prog X.w) X.A (call (.ref f) us) (EP X pins σ Q) X.xe s:=by
 have r2:Vals (vs++dvs) (us++ds):=r.append hd;have hl:(us++ds).length=ps.length:=by rw[←r2.length];exact F.len _ _ _ _ h
 refine wpAny_call (codeAny_mono (F.run X.A X.stack s H ⟨us,[]⟩ (us++ds) (vs++dvs) Q E hr I.env0 (hb s us I.kIn hl) r2 h) λr s' hq=>?_);cases r with
 |error e=>exact hx pins σ H s e s' I hq
 |ok fl=>
  cases fl with
  |ret u=>exact I.after hq
  |next=>exact False.elim hq
  |brk=>exact False.elim hq
  |cont=>exact False.elim hq
theorem Sv(F:FnOk X.prog X.w X.K X.mg X.base CX k f fd ps sp)(hr:Room k X.A)(hg:Gl X x)(hm:X.mg x=O (.ref f))(hk:PySem.W.keepIn X.K (.ref f)=C5)(hb:YG X.K fd ps ds)(hd:Vals dvs ds)(hx:Sc CX X E)
  (ha:PA X (e::es) t) (hdb:(x==("__debug__" : Str))=C6:=by decide) (he:Uh (e::es) X.env=(C6,eval e X.env)::Uh es X.env:=by rfl) (hpl:(backTo pos (Uh es X.env)).any (·.1)=C6:=by rfl) :
  PE X (.Call (.Name x p) (e::es) [] pos) (Ms sp dvs E t):=by
 intro pins s σ H Q I h;refine wpAny_Call_Name_kw (PH I hg hm ?_ hdb);refine PySem.W.callWith_K (h₀:=X.base) I.ok.mod.kin hk (thn (ha pos pins s σ H _ I h) λus s1 ⟨vs,H1,I1,r,q⟩=>⟨I1.kIn,?_⟩) he hpl;exact L7 F hr hb hd hx I1 r q
end
structure X0(N P:List Str)(sc:Scope):Prop where
 kind:sc.kind=.function
 co:sc.isCoroutine=C6
 gen:sc.isGenerator=C6
 nd:N.Nodup
 pre:N.take P.length=P
 par:∀x∈P,sc.names.lookup x=O .local∨sc.names.lookup x=O .cell
 nofree:∀y∈sc.names,y.2≠.free
theorem OX{kindOf:Str->Option NameKind}{x:Str}:∀{binds:List (Str×J9)}{m:Str->Bd},(∀v,(x,v)∉binds)->bindL kindOf binds m x=m x
 |[],_,_=>rfl
 |(n,v)::r,m,h=>by
  unfold bindL;rw[OX λw hw=>h w (Qm _ hw)];split
  .have:x≠n:=by rintro rfl;exact h v Qh
   simp[this]
  .rfl
theorem OW{kindOf:Str->Option NameKind}{x:Str}:∀{binds:List (Str×J9)}{m:Str->Bd},(∀v,(x,v)∉binds)->bindC kindOf binds m x=m x
 |[],_,_=>rfl
 |(n,v)::r,m,h=>by
  unfold bindC;rw[OW λw hw=>h w (Qm _ hw)];split
  .rfl
  .have:x≠n:=by rintro rfl;exact h v Qh
   simp[this]
theorem OV{kindOf:Str->Option NameKind}{x:Str}{v:J9}:∀{P:List Str}{vs:C9}{i:Nat}{m:Str->Bd},P.Nodup->P[i]?=O x->vs[i]?=O v->kindOf x=O .local ->
  bindL kindOf (P.zip vs) m x=O v
 |[],_,_,_,_,h,_,_=>by simp at h
 |_::_,[],_,_,_,_,h,_=>by simp at h
 |p::P,w::vs,0,m,nd,h1,h2,hk=>by simp at h1 h2;subst h1;subst h2;show bindL kindOf ((p,w)::P.zip vs) m p=_;unfold bindL;rw[OX λv hv=>(Jx.mp nd).1 (List.of_mem_zip hv).1,Qq hk];simp
 |p::P,w::vs,i+1,m,nd,h1,h2,hk=>by show bindL kindOf ((p,w)::P.zip vs) m x=_;unfold bindL;exact OV (i:=i) (List.nodup_cons.mp nd).2 (by simpa using h1) (by simpa using h2) hk
theorem O3{kindOf:Str->Option NameKind}{x:Str}{v:J9}:∀{P:List Str}{vs:C9}{i:Nat}{m:Str->Bd},P.Nodup->P[i]?=O x->vs[i]?=O v->kindOf x≠O .local ->
  bindC kindOf (P.zip vs) m x=O v
 |[],_,_,_,_,h,_,_=>by simp at h
 |_::_,[],_,_,_,_,h,_=>by simp at h
 |p::P,w::vs,0,m,nd,h1,h2,hk=>by simp at h1 h2;subst h1;subst h2;show bindC kindOf ((p,w)::P.zip vs) m p=_;unfold bindC;rw[OW λv hv=>(Jx.mp nd).1 (List.of_mem_zip hv).1,QE hk];simp
 |p::P,w::vs,i+1,m,nd,h1,h2,hk=>by show bindC kindOf ((p,w)::P.zip vs) m x=_;unfold bindC;exact O3 (i:=i) (List.nodup_cons.mp nd).2 (by simpa using h1) (by simpa using h2) hk
noncomputable def Yl(N:List Str)(vs:List V):St:=vs.map O++Uk (N.length-vs.length) C4
noncomputable def Zi(CX:CXT)(P:Ub)(w:World)(K:Frag)(mg:Str->Bd)(base:Heap)(N:List Str)(qual:Str)(scope:Scope)(f:Uc)(cd:J9)(A:Around)(outer:List Env)(s:Ua)(H:Hp)(E:XK):Cx where
 prog:=P
 w:=w
 K:=K
 mg:=mg
 base:=base
 A:=A.deeper (envOfC qual scope s.heap.objs.size f cd)
 N:=N
 s₀:=s
 H₀:=H
 env:=envOfC qual scope s.heap.objs.size f cd
 outer:=outer
 stack:=envOfC qual scope s.heap.objs.size f cd::outer
 ex:=[]
 calm:=C5
 fn:=λ_=>C5
 pn:=[]
 xe:=λe s'=>Ug (model P w) (A.deeper (envOfC qual scope s.heap.objs.size f cd)) (leaving (envOfC qual scope s.heap.objs.size f cd) e) (λ_ s''=>CX outer H s E e s'') (λe' s''=>CX outer H s E e' s'') s'
theorem SF{sc:Scope}{n:Nat}{x:Str}(h:sc.names.lookup x=O .cell):∃c,(cellsFrom n sc.names []).lookup x=O c:=by have q:=PySem.W.cellsFrom_some sc.names n [] (.inl h);exact Option.isSome_iff_exists.mp q
theorem Cp{CX:CXT}{P:Ub}{w:World}{K:Frag}{mg:Str->Bd}{base:Heap}{N ps:List Str}{qual:Str}{scope:Scope}{f:Uc}{cd:J9}{A:Around}{outer:List Env}{s s1:Ua}{H:Hp}{E:XK}{us:C9}{vs:List V}
  (S:X0 N ps scope) (hd:A.handled=C4) (e0:Env0 P w K mg base A outer s H) (hl:vs.length=ps.length) (r:Vals vs us)
  (x:InCallC s s.heap.objs.size (bindL (envOfC qual scope s.heap.objs.size f cd).kindOf (ps.zip us) λ_=>C4) (cellsFrom (s.heap.objs.size+1) scope.names []) (bindC (envOfC qual scope s.heap.objs.size f cd).kindOf (ps.zip us) λ_=>C4) s1) :
  Inv (Zi CX P w K mg base N qual scope f cd A outer s H E) [] (Yl N vs) H s1:=by
 have hpl:ps.length<=N.length:=by have:=JM List.length S.pre;rw[Jt]at this;omega
 obtain⟨h1,tk,rfl,hk⟩:=x.done;have noA:∀b:Uc,b∉(Zi CX P w K mg base N qual scope f cd A outer s H E).ex:=λb z=>absurd (show b∈([]:Be)from z) (by simp)
 refine⟨⟨e0.mod,S.kind,rfl,rfl,Qo _,λy z c h1 h2=>?_,λy hy=>?_,λy c _ h=>?_,λ_=>hd,Around.frames_deeper e0.frames,.inr ⟨rfl,rfl⟩,λb z=>absurd z (noA b),e0.bs,e0.bsz,λb _ _=>noA b,λb z=>absurd z (noA b),e0.funs,e0.frf⟩,
  rfl,e0.bare,Un.kept hk,⟨_,x.toInCall.ns,λi y v h1 h2 h3=>?_⟩,λy c h=>⟨_,x.cell y c h⟩,e0.hok.fresh (Nat.le_refl _),λy c h=>?_,λp hp=>absurd (show p∈([]:List (Uc×Obj))from hp) (by simp),e0.hok.kept hk,?_⟩
 .exact name_of_addr x.apart (Q9 h1) (Q9 h2)
 .have hy:scope.names.lookup y=O .cell∨scope.names.lookup y=O .free:=hy
  rcases hy with hy|hy
  .exact SF hy
  .exact absurd C3 (S.nofree _ (Q9 hy))
 .exact J0 (x.above y c (Q9 h))
 .have hi:i<vs.length:=by
   unfold Yl at h2;by_cases hi:i<vs.length
   .exact hi
   .rw[List.getElem?_append_right (by simpa using hi)]at h2
    rw[QA]at h2;split at h2<;>cases h2
  have ha:vs[i]?=O v:=by
   unfold Yl at h2;rw[List.getElem?_append_left (by simpa using hi),List.getElem?_map]at h2;cases e:vs[i]? with
   |none=>rw[e]at h2;cases h2
   |some a=>rw[e]at h2;cases h2;rfl
  obtain⟨u,hu,rv⟩:=r.get ha;have hp:ps[i]?=O y:=by rw[←S.pre,List.getElem?_take_of_lt (by omega)];exact h1
  have ndP:ps.Nodup:=by rw[←S.pre];exact S.nd.sublist (List.take_sublist _ _)
  refine⟨u,rv,?_⟩;rcases S.par y (Qt hp)with k|k
  .exact .inl ⟨k,OV ndP hp hu k⟩
  .obtain⟨c,e⟩:=SF (n:=s.heap.objs.size+1) k
   refine .inr ⟨.inl k,c,e,?_⟩;have q:=x.cell y c e;rw[O3 ndP hp hu (by show scope.names.lookup y≠_;rw[k];decide)]at q;exact q
 .exact e0.hok.fresh (J0 (x.above y c (Q9 h)))
 .unfold Yl
  show _=N.length;rw[Qk,Qd,QT];omega
theorem Mr{CX:CXT}{P:Ub}{w:World}{K:Frag}{mg:Str->Bd}{base:Heap}{k:Nat}{f:Uc}{name qual:Str}{params:Arguments}{body:List Stmt}{scope:Scope}{dV kV doc pm cdv ct oc:J9}{an od:Bk}
  {osl:Array Bd} {N ps:List Str} {sp:Sp} (lk:K.lookup f=O ⟨oc,od,.func (PySem.W.fnOf name qual params body scope dV kV doc pm an cdv ct),osl⟩) (hcd:PySem.W.codeIn K cdv qual=C5) (S:X0 N ps scope)
  (len:∀vs H Q E,sp vs H Q E->vs.length=ps.length)
  (hbody:∀(A:Around)(outer:List Env)(s:Ua)(H:Hp)(vs:List V)(Q:VK)(E:XK),Room k (A.deeper (envOfC qual scope s.heap.objs.size f cdv))->sp vs H Q E ->
   ∃t,PSs (Zi CX P w K mg base N qual scope f cdv A outer s H E) body t/\t {nx:=λ_ H'=>Q .non H',rt:=Q} (Yl N vs) H) :
  FnOk P w K mg base CX (k+1) f (PySem.W.fnOf name qual params body scope dV kV doc pm an cdv ct) ps sp:=by
 refine⟨len,λA outer s H args us vs Q E hr e0 hb r Aa=>?_⟩;have hl:=len _ _ _ _ Aa;have KX:K.In s.heap:=e0.mod.kin.keeps λb o e=>(e0.bs b o e).1;have lim:s.heap.NoLimit:=e0.mod.nolimit.keeps λb o e=>(e0.bs b o e).1
 have hkind:∀y∈ps.zip us,scope.names.lookup y.1=O .local∨(scope.names.lookup y.1=O .cell/\((cellsFrom (s.heap.objs.size+1) scope.names []).lookup y.1).isSome=C5):=λ⟨n,v⟩ hy=>by
  rcases S.par n (List.of_mem_zip hy).1 with q|q
  .exact .inl q
  .exact .inr ⟨q,PySem.W.cellsFrom_some _ _ _ (.inl q)⟩
 refine codeAny_call_function hr.depth (KX _ _ lk) C3 S.co S.gen C3 (PySem.W.codeRec_of KX hcd) (hb _ _ _ _ ?_);refine wpAny_newFunctionEnv_cells S.kind hkind λenv he s1 x=>?_;subst he
 refine⟨lim.keeps x.toInCall.keep,codeAny_func ?_⟩;obtain⟨t,ht,hq⟩:=hbody A outer s H vs Q E (hr.deeper _) Aa;have I:Inv (Zi CX P w K mg base N qual scope f cdv A outer s H E) [] (Yl N vs) H s1:=Cp S hr.hd e0 hl r x;refine QP (ht [] s1 (Yl N vs) H _ I hq) (λfl s' hs=>?_) λe s' hs=>hs
 have fin:∀{σ':St}{H':Hp}{v:V}{u:J9},Inv (Zi CX P w K mg base N qual scope f cdv A outer s H E) [] σ' H' s'->RelV v u->Q v H'->CE outer P w H s Q u s':=
  λ{σ' H' v u} J rv q=>⟨v,H',J.os,J.bare,J.base,J.hok,rv,q⟩
 cases fl with
 |ret u=>obtain⟨v,σ',H',J,rv,q⟩:=hs;exact fin J rv q
 |next=>obtain⟨σ',H',J,q⟩:=hs;exact fin (v:=V.non) (u:=Value.none) J C3 q
 |brk=>obtain⟨_,_,_,q⟩:=hs;exact False.elim q
 |cont=>obtain⟨_,_,_,q⟩:=hs;exact False.elim q
section
variable{X:Cx}{x:Str}{p pos:Pos}{e:Ue}{es:Ba}{t:TA}{id T:String}{r:List V->Hp->VK->Prop}
noncomputable def tCB(r:List V->Hp->VK->Prop)(t:TA):TE:=λσ H Q=>t σ H λvs H1=>r vs H1 Q
theorem Tp(hc:ZC X (.builtin id) r)(hg:Gl X x)(hm:X.mg x=C4)(hv:bootBuiltins x=O (.builtin id))(ha:PA X (e::es) t)(hn:x ≠ "__name__" :=by decide)(hdb:(x==("__debug__" : Str))=C6:=by decide)
  (he:Uh (e::es) X.env=(C6,eval e X.env)::Uh es X.env:=by rfl) (hpl:(backTo pos (Uh es X.env)).any (·.1)=C6:=by rfl):PE X (.Call (.Name x p) (e::es) [] pos) (tCB r t):=by
 intro pins s σ H Q I h;refine wpAny_Call_Name_kw (XS I hg hm hv ?_ hn hdb);exact PyProof.Rows.callWith_builtin1 (thn (ha pos pins s σ H _ I h) λus s1 ⟨vs,H1,I1,r1,q1⟩=>hc pins s1 σ H1 vs us Q I1 r1 q1) he hpl
theorem TB(hc:ZC X (.type T) r)(hg:Gl X x)(hm:X.mg x=C4)(hv:bootBuiltins x=O (.type T))(ha:PA X (e::es) t)(hn:x ≠ "__name__" :=by decide)(hdb:(x==("__debug__" : Str))=C6:=by decide)
  (he:Uh (e::es) X.env=(C6,eval e X.env)::Uh es X.env:=by rfl) (hpl:(backTo pos (Uh es X.env)).any (·.1)=C6:=by rfl):PE X (.Call (.Name x p) (e::es) [] pos) (tCB r t):=by
 intro pins s σ H Q I h;refine wpAny_Call_Name_kw (XS I hg hm hv ?_ hn hdb);exact Jo (thn (ha pos pins s σ H _ I h) λus s1 ⟨vs,H1,I1,r1,q1⟩=>hc pins s1 σ H1 vs us Q I1 r1 q1) he hpl
end
end L2
namespace HT
open PySem PyProof.Rows
section
variable{prog:Ub}{w:World}{A:Around}{E:J9->Ua->Prop}{s:Ua}
noncomputable def sIx(n d:Nat):Bf->Nat
 |none=>d
 |some v=>if v<0 then(v+(n:Int)).toNat else min v.toNat n
end
end HT
namespace L2
open PySem PySem.Spec PyProof.Rows
abbrev TO:=St->Hp->(Bf->Hp->Prop)->Prop
def PO(X:Cx)(e:Option Ue)(t:TO):Prop:=
 ∀(pins:List (Uc×Obj))(s:Ua)(σ:St)(H:Hp)(Q:Bf->Hp->Prop),Inv X pins σ H s->t σ H Q ->
  Ug (model X.prog X.w) X.A (evalPart e X.env) (λu s'=>∃o H',Inv X pins σ H' s'/\IsPart u o/\Q o H') X.xe s
noncomputable def Fm:TO:=λ_ H Q=>Q C4 H
noncomputable def Mq(t:TE):TO:=λσ H Q=>t σ H λx H1=>∃i,x=.int i/\Q (O i) H1
section
variable{X:Cx}{e:Ue}{te:TE}{lo hi:Option Ue}{tl th:TO}{pos p2:Pos}
theorem Fl:PO X C4 Fm:=by intro pins s σ H Q I h;rw[evalPart_none];exact Qp ⟨C4,H,I,.none,h⟩
theorem Fk(h:PE X e te):PO X (O e) (Mq te):=by
 intro pins s σ H Q I hw;rw[evalPart_some];refine thn (h pins s σ H _ I hw) λu s1 ⟨x,H1,I1,r1,q1⟩=>?_
 obtain⟨i,rfl,q⟩:=q1;obtain⟨t,rfl⟩:=r1;exact⟨O i,H1,I1,.int i t,q⟩
def SlR(X:Cx)(r:V->Bf->Bf->Hp->VK->Prop):Prop:=
 ∀(pins:List (Uc×Obj))(s:Ua)(σ:St)(H:Hp)(x:V)(v vl vu:J9)(lo hi:Bf)(sl:Uc)(Q:VK),Inv X pins σ H s->RelV x v->s.heap.IsSliceOf sl vl vu .none->IsPart vl lo->IsPart vu hi->r x lo hi H Q ->
  ∃T id,typeLookup (.type T) "__getitem__" = pure (O (.builtin id))/\s.TypeIs v T/\Ug (model X.prog X.w) X.A (getItem v (.ref sl)) (EP X pins σ Q) X.xe s
theorem SlR.or{r r':V->Bf->Bf->Hp->VK->Prop}(h:SlR X r)(h':SlR X r'):SlR X (λx lo hi H Q=>r x lo hi H Q∨r' x lo hi H Q):=by
 intro pins s σ H x v vl vu lo hi sl Q I rx hs pl pu q;rcases q with q|q
 .exact h pins s σ H x v vl vu lo hi sl Q I rx hs pl pu q
 .exact h' pins s σ H x v vl vu lo hi sl Q I rx hs pl pu q
noncomputable def tSl(r:V->Bf->Bf->Hp->VK->Prop)(te:TE)(tl th:TO):TE:=λσ H Q=>te σ H λx H1=>tl σ H1 λl H2=>th σ H2 λu H3=>r x l u H3 Q
theorem E1{r:V->Bf->Bf->Hp->VK->Prop}(hr:SlR X r)(he:PE X e te)(hl:PO X lo tl)(hu:PO X hi th):PE X (.Subscript e (.Slice lo hi C4 p2) pos) (tSl r te tl th):=by
 intro pins s σ H Q I h;refine Subscript_ (thn (he pins s σ H _ I h) λv s1 ⟨x,H1,I1,r1,q1⟩=>?_);refine wpAny_Slice (thn (hl pins s1 σ H1 _ I1 q1) λvl s2 ⟨l,H2,I2,pl,q2⟩=>thn (hu pins s2 σ H2 _ I2 q2) λvu s3 ⟨u,H3,I3,pu,q3⟩=>?_);rw[evalPart_none];refine Qp ?_;have I4:Inv X pins σ H3 {s3 with heap:=s3.heap.push {cls:=.type "slice", data:=.fields #[vl,vu,.none]}}:=I3.kept (t':=s3.toks) λb ob q=>Ql _ q
 obtain⟨T,id,hT,ht,hg⟩:=hr pins {s3 with heap:=s3.heap.push {cls:=.type "slice", data:=.fields #[vl,vu,.none]}} σ H3 x v vl vu l u s3.heap.objs.size Q I4 r1 (Heap.IsSliceOf.new ..) pl pu q3;show Ug (model X.prog X.w) X.A (subscriptTail e (.Slice lo hi C4 p2) v (.ref s3.heap.objs.size)) (EP X pins σ Q) X.xe {s3 with heap:=s3.heap.push {cls:=.type "slice", data:=.fields #[vl,vu,.none]}};exact tail_any (ops:=[.ref s3.heap.objs.size,v]) ht hT hg (by with_unfolding_all rfl)
noncomputable def Yb(xs:List V)(lo hi:Bf):List V:=(xs.drop (HT.sIx xs.length 0 lo)).take (HT.sIx xs.length xs.length hi-HT.sIx xs.length 0 lo)
theorem Cz(xs:List V)(lo hi:Bf):(Yb xs lo hi).length<=xs.length:=by unfold Yb;rw[Jt,List.length_drop];omega
end
noncomputable def ixN(n:Nat)(i:Int):Bj:=if 0<=i then(if i<n then O i.toNat else C4)else if -(n:Int)<=i then O (i+n).toNat else C4
noncomputable def atI{α:Type}(xs:List α)(i:Int):Option α:=(ixN xs.length i).bind λj=>xs[j]?
theorem Fj{n:Nat}{i:Int}{j:Nat}(h:ixN n i=O j):seqIndex? i n=O j/\j<n /\ -(n:Int)<=i/\i<n:=by
 unfold ixN at h;by_cases h0:0<=i
 .rw[Qq h0]at h
  by_cases h1:i<n
  .rw[Qq h1]at h
   have e:i.toNat=j:=Qu h;exact⟨by rw[seqIndex_of h0 h1,e],by omega,by omega,h1⟩
  .rw[QE h1]at h;cases h
 .rw[QE h0]at h
  by_cases h1 : -(n:Int)<=i
  .rw[Qq h1]at h
   have e:(i+n).toNat=j:=Qu h;exact⟨by rw[seqIndex_neg (by omega) h1,e],by omega,h1,by omega⟩
  .rw[QE h1]at h;cases h
theorem Su{α:Type}{xs:List α}{i:Int}{v:α}(h:atI xs i=O v):∃j,seqIndex? i xs.length=O j/\xs[j]?=O v/\j<xs.length /\ -(xs.length:Int)<=i/\i<xs.length:=by
 unfold atI at h;cases e:ixN xs.length i with
 |none=>rw[e]at h;cases h
 |some j=>rw[e]at h;obtain⟨h1,h2,h3,h4⟩:=Fj e;exact⟨j,h1,h,h2,h3,h4⟩
theorem Kv{α:Type}{xs:List α}{j:Nat}{v:α}(h:xs[j]?=O v):atI xs (j:Int)=O v:=by
 have hj:j<xs.length:=(Qg.mp h).1;have e:ixN xs.length (j:Int)=O j:=by unfold ixN;rw[if_pos (by omega),if_pos (by omega)];simp
 unfold atI;rw[e];exact h
def SD(b:Ue):Prop:=∀o i,subscripted b C6 o i=operate [o,i] (getItem o i)
def IxR(X:Cx)(r:R2):Prop:=
 ∀(value slice:Ue)(pins:List (Uc×Obj))(s:Ua)(σ:St)(H:Hp)(x y:V)(v u:J9)(Q:VK),Inv X pins σ H s->RelV x v->RelV y u->r x y H Q ->
  subscripted slice C6 v u=operate [v,u] (getItem v u)->Ug (model X.prog X.w) X.A (subscriptTail value slice v u) (EP X pins σ Q) X.xe s
def MtR(X:Cx)(id:String)(r:V->List V->Hp->VK->Prop):Prop:=
 ∀(pins:List (Uc×Obj))(s:Ua)(σ:St)(H:Hp)(x:V)(xs:List V)(v:J9)(us:C9)(Q:VK),Inv X pins σ H s->RelV x v->Vals xs us->r x xs H Q ->
  Ug (model X.prog X.w) X.A (call (.builtin id) (v::us)) (EP X pins σ Q) X.xe s
section
variable{X:Cx}{a b:Ue}{ta tb:TE}{pos:Pos}
theorem IxR.or{r r':R2}(h:IxR X r)(h':IxR X r'):IxR X (λx y H Q=>r x y H Q∨r' x y H Q):=by
 intro value slice pins s σ H x y v u Q I rx ry q hs;rcases q with q|q
 .exact h value slice pins s σ H x y v u Q I rx ry q hs
 .exact h' value slice pins s σ H x y v u Q I rx ry q hs
theorem Ry{r:R2}(hr:IxR X r)(ha:PE X a ta)(hb:PE X b tb)(hs:SD b):PE X (.Subscript a b pos) (tOp r ta tb):=by intro pins s σ H Q I h;exact Subscript_ (Ww ha hb I h λv u s2 x y H2 I2 rx ry q=>hr a b pins s2 σ H2 x y v u Q I2 rx ry q (hs _ _))
noncomputable def rIxL(K:Frag):R2:=λx y H Q=>∃p xs i v,x=.ref p/\y=.int i/\SqL K H p xs/\atI xs i=O v/\Q v H
noncomputable def rIxT(K:Frag):R2:=λx y H Q=>∃p xs i v,x=.ref p/\y=.int i/\SqT K H p xs/\atI xs i=O v/\Q v H
noncomputable def rIxS:R2:=λx y H Q=>∃z i c,x=.str z/\y=.int i/\z.length<=Uf/\atI z.cps.toList i=O c/\Q (.str ⟨#[c]⟩) H
theorem Fi:IxR X (rIxL X.K):=by
 intro value slice pins s σ H x y v u Q I rx ry h hs;obtain⟨p,xs,i,z,rfl,rfl,hq,he,q⟩:=h;cases rx;obtain⟨t,rfl⟩:=ry;obtain⟨its,r,pl,hz⟩:=I.list hq;obtain⟨j,h1,h2,h3,h4,h5⟩:=Su he;obtain⟨w,ew,BI⟩:=r.get h2;have hl:=r.length;have hn:=VU;have fin:EP X pins σ Q w s:=⟨z,H,I,BI,q⟩
 by_cases h0:0<=i
 .have hj:i.toNat=j:=by
   rw[seqIndex_of h0 h5]at h1;exact Qu h1
  exact item_listR pl.isList h0 (by omega) (by rw[hj];simpa using ew) fin hs
 .have hj:(i+(its.toArray.size:Int)).toNat=j:=by
   rw[seqIndex_neg (by omega) h4]at h1;rw[QL,←hl];exact Qu h1
  exact subscriptTail_builtinR (x:=w) pl.isList.typeIs slot_list_getitem.lookup
   (wpAny_getItem_list_neg (Q:=λr s'=>r=w/\EP X pins σ Q r s') pl.isList (by omega) (by rw[List.size_toArray]<;>omega) (by omega) (by rw[hj];simpa using ew) ⟨rfl,fin⟩) hs
theorem L6:IxR X (rIxT X.K):=by
 intro value slice pins s σ H x y v u Q I rx ry h hs;obtain⟨p,xs,i,z,rfl,rfl,hq,he,q⟩:=h;cases rx;obtain⟨t,rfl⟩:=ry;obtain⟨its,r,pl,hz⟩:=I.tuple hq;obtain⟨j,h1,h2,h3,h4,h5⟩:=Su he;obtain⟨w,ew,BI⟩:=r.get h2;have hl:=r.length;have hn:=VU;have fin:EP X pins σ Q w s:=⟨z,H,I,BI,q⟩
 exact subscriptTail_builtinR (x:=w) pl.typeIs slot_tuple_getitem.lookup
  (getItem_tuple (j:=j) (Q:=λr s'=>r=w/\EP X pins σ Q r s') pl (by omega) (by omega) (by rw[List.size_toArray,←hl];exact h1) (by simpa using ew) ⟨rfl,fin⟩) hs
theorem HC:IxR X rIxS:=by
 intro value slice pins s σ H x y v u Q I rx ry h hs;obtain⟨z,i,c,rfl,rfl,hz,he,q⟩:=h;obtain⟨t,rfl⟩:=rx;obtain⟨t',rfl⟩:=ry;obtain⟨j,h1,h2,h3,h4,h5⟩:=Su he;have hl:z.cps.toList.length=z.length:=by simp[Str.length]
 rw[hl]at h1 h4 h5;have hn:=VU;exact tail_any (typeIs_str s z t) slot_str_getitem.lookup (getItem_str (c:=c) (by have e1:decide (i < -(2 ^ 63:Int))=C6:=QG (by omega);have e2:decide (i ≥ 2 ^ 63)=C6:=QG (by omega);rw[e1,e2,Bool.or_false]) (by rw[h1];simpa using h2) ⟨.str ⟨#[c]⟩,H,I.tok _,⟨_,rfl⟩,q⟩) hs
noncomputable def rIx(K:Frag):R2:=λx y H Q=>rIxL K x y H Q∨rIxT K x y H Q∨rIxS x y H Q
theorem RP:IxR X (rIx X.K):=Fi.or (L6.or HC)
theorem CW(lo hi:Bf)(n:Nat):(sliceBounds lo hi C4 n).1=((HT.sIx n 0 lo:Nat):Int)/\(sliceBounds lo hi C4 n).2.1=((HT.sIx n n hi:Nat):Int)/\(sliceBounds lo hi C4 n).2.2=1:=by
 refine⟨?_,?_,rfl⟩
 .cases lo with
  |none=>simp[sliceBounds,HT.sIx]
  |some i=>
   simp only[sliceBounds,HT.sIx,Option.getD_none,show(1:Int) > 0 by decide,if_true];by_cases h:i<0
   .simp only[h,if_true]<;>omega
   .simp only[h,if_false]<;>omega
 .cases hi with
  |none=>simp[sliceBounds,HT.sIx]
  |some i=>
   simp only[sliceBounds,HT.sIx,Option.getD_none,show(1:Int) > 0 by decide,if_true];by_cases h:i<0
   .simp only[h,if_true]<;>omega
   .simp only[h,if_false]<;>omega
theorem CL(its:C9)(lo hi:Bf):slicePick its.toArray lo hi C4=((its.drop (HT.sIx its.length 0 lo)).take (HT.sIx its.length its.length hi-HT.sIx its.length 0 lo)).toArray:=by obtain⟨h1,h2,h3⟩:=CW lo hi its.toArray.size;unfold slicePick;rw[h1,h2,h3];simp only[sliceRange_one,pick_run,QL]<;>rfl
noncomputable def rSlL(K:Frag):V->Bf->Bf->Hp->VK->Prop:=λx lo hi H Q=>∃a xs,x=.ref a/\SqL K H a xs/\∀p,H p=C4->Q (.ref p) (upd H p (.lst (Yb xs lo hi)))
theorem Fh:SlR X (rSlL X.K):=by intro pins s σ H x v vl vu lo hi sl Q I rx hs pl pu h;obtain⟨a,xs,rfl,hx,q⟩:=h;cases rx;obtain⟨its,r,ht,hz⟩:=I.list hx;have hlen:=r.length;refine⟨"list", _,slot_list_getitem.lookup,ht.isList.typeIs,?_⟩;refine wpAny_getItem_list_slice ht.isList hs pl pu .none (by simp) ?_ (by rw[List.size_toArray]<;>omega);rw[CL,←hlen];refine⟨.ref s.heap.objs.size,_,I.laid (t':=s.toks) (o:=.lst (Yb xs lo hi)) (λb ob q=>Ql _ q) (Qo _) ?_,rfl,q _ (I.hok.fresh (Qo _))⟩;exact⟨Qy (Cz xs lo hi) hz,_,0,(r.drop (HT.sIx xs.length 0 lo)).take (HT.sIx xs.length xs.length hi-HT.sIx xs.length 0 lo),QB _ C3⟩
theorem Nq:ZC X (.type "list") (λxs H Q=>∃p ys,xs=[.ref p]/\(SqL X.K H p ys∨SqT X.K H p ys)/\∀l,H l=C4->Q (.ref l) (upd H l (.lst ys))):=by
 intro pins s σ H xs us Q I r h;obtain⟨p,ys,rfl,hq,q⟩:=h;obtain⟨u,rfl,rx⟩:=Rz r;cases rx
 have fin:∀(its:C9),Vals ys its->ys.length<=Uf->∀(h':Heap)(c':Nat),(∀b o',s.heap.get? b=O o'->h'.get? b=O o') ->
   h'.get? s.heap.objs.size=O {cls:=.type "list", dict:=C4,data:=.seq its.toArray c',slots:=#[]}->EP X pins σ Q (.ref s.heap.objs.size) {s with heap:=h'}:=λits r' hz h' c' kp e=>
  ⟨.ref s.heap.objs.size,_,I.laid (t':=s.toks) kp (Qo _) (show Ku X.prog X.w _ h' _ (.lst ys)from⟨hz,its,c',r',e⟩),rfl,q _ (I.hok.fresh (Qo _))⟩
 rcases hq with hq|hq
 .obtain⟨its,r',pl,hz⟩:=I.list hq
  have hlen:=r'.length;obtain⟨o,ho,hc,n,hd⟩:=pl.isList;exact call_list_seq p (.inl C3) ho hc hd (λh' c' kp e=>fin its r' hz h' c' kp e) (by simp only[QL]<;>omega)
 .obtain⟨its,r',pl,hz⟩:=I.tuple hq
  have hlen:=r'.length;obtain⟨o,ho,hc,n,hd⟩:=pl;exact call_list_seq p (.inr C3) ho hc hd (λh' c' kp e=>fin its r' hz h' c' kp e) (by simp only[QL]<;>omega)
def tyV(K:Frag)(T:String)(x:V)(H:Hp):Prop:=match x with
 |.str _=>T = "str"
 |.int _=>T = "int"
 |.ref p=>(T = "list" /\ ∃xs,SqL K H p xs)∨(T = "tuple" /\ ∃o,K.lookup p=O o/\o.cls=.type "tuple" /\ o.dict=C4) ∨
   (T = "dict" /\ ((∃kvs,H p=O (.dK kvs)) ∨ ∃kvs,H p=O (.dT kvs)))∨(T = "set" /\ ∃S n,H p=O (.set S n))
 |_=>False
theorem RO{pins:List (Uc×Obj)}{σ:St}{H:Hp}{s:Ua}{T:String}{x:V}{v:J9}(I:Inv X pins σ H s)(r:RelV x v)(ty:tyV X.K T x H) :
  s.TypeIs v T/\∀a,v=.ref a->∃ob,s.heap.get? a=O ob/\ob.dict=C4:=by
 cases x with
 |str z=>obtain⟨t,rfl⟩:=r;cases (show T = "str" from ty);exact⟨typeIs_str s z t,λ_ e=>nomatch e⟩
 |int i=>obtain⟨t,rfl⟩:=r;cases (show T = "int" from ty);exact⟨typeIs_int s i t,λ_ e=>nomatch e⟩
 |ref p=>
  cases r;rcases ty with ⟨rfl,xs,hq⟩|⟨rfl,o,hk,hc,hd⟩|⟨rfl,hk⟩|⟨rfl,S,n,hk⟩
  .obtain⟨its,_,pl,_⟩:=I.list hq
   refine⟨pl.isList.typeIs,λa e=>?_⟩;cases e;obtain⟨o,n,e,c,hd,_⟩:=pl;exact⟨o,e,hd⟩
  .refine⟨⟨o,I.kIn p o hk,hc⟩,λa e=>?_⟩
   cases e;exact⟨o,I.kIn _ o hk,hd⟩
  .have z:∃o,s.heap.get? p=O o/\o.ExactDict:=by
    rcases hk with ⟨kvs,hk⟩|⟨kvs,hk⟩
    .obtain⟨_,_,_,_,o,_,_,e,ex,_⟩:=I.hok p _ hk
     exact⟨o,e,ex⟩
    .obtain⟨_,_,_,_,o,_,_,e,ex,_⟩:=I.hok p _ hk
     exact⟨o,e,ex⟩
   obtain⟨o,e,ex⟩:=z;refine⟨⟨o,e,ex.1⟩,λa e2=>?_⟩;cases e2;exact⟨o,e,ex.2.1⟩
  .obtain⟨o,_,_,_,e,ex,_⟩:=I.hok p _ hk
   refine⟨⟨o,e,ex.1⟩,λa e2=>?_⟩;cases e2;exact⟨o,e,ex.2.1⟩
 |_=>exact False.elim ty
noncomputable def tBM0(K:Frag)(T:String)(r:V->List V->Hp->VK->Prop)(to:TE):TE:=λσ H Q=>to σ H λx H1=>tyV K T x H1/\r x [] H1 Q
noncomputable def tBM(K:Frag)(T:String)(r:V->List V->Hp->VK->Prop)(to:TE)(t:TA):TE:=λσ H Q=>to σ H λx H1=>tyV K T x H1/\t σ H1 λxs H2=>r x xs H2 Q
variable{o e:Ue}{es:Ba}{to:TE}{t:TA}{name:Str}{apos cpos:Pos}{T id:String}{r:V->List V->Hp->VK->Prop}
theorem HB(pa:PlainAttrs T)(slot:Slot T name id)(hty:typeOf (.builtin id)=pure (.type "method_descriptor"))(hm:MtR X id r)(ho:PE X o to)
  (hbase:attributeBase o name X.env (eval o X.env)=eval o X.env:=by rfl) (hline:(apos.endLine==cpos.line)=C5:=by rfl):PE X (.Call (.Attribute o name apos) [] [] cpos) (tBM0 X.K T r to):=by
 intro pins s σ H Q I h;refine wpAny_Call_method0_late hbase hline (thn (ho pins s σ H _ I h) λv s1 ⟨x,H1,I1,r1,ty,q1⟩=>?_);obtain⟨h1,h2⟩:=RO I1 r1 ty;exact⟨T,id,pa,slot,hty,h1,h2,Calls.callWith_builtin C3 (PySem.evalArgs_none (hm pins s1 σ H1 x [] v [] Q I1 r1 .nil q1))⟩
theorem Xu(pa:PlainAttrs T)(slot:Slot T name id)(hty:typeOf (.builtin id)=pure (.type "method_descriptor"))(hm:MtR X id r)(ho:PE X o to)(ha:PA X (e::es) t)
  (hbase:attributeBase o name X.env (eval o X.env)=eval o X.env:=by rfl)
  (hfew:((backTo cpos (Uh (e::es) X.env)).all (λx=>!x.1)&&(backToKw cpos (keywordEach [] X.env)).all (λx=>x.1.isSome)
   && decide ((e::es).length+([]:List Keyword).length+(if([]:List Keyword).isEmpty then 0 else 1)<30))=C5:=by rfl)
  (hline:(apos.endLine==cpos.line)=C5:=by rfl) (hs:Uh (e::es) X.env=(C6,eval e X.env)::Uh es X.env:=by rfl) (hplain:(backTo cpos (Uh es X.env)).any (·.1)=C6:=by rfl) :
  PE X (.Call (.Attribute o name apos) (e::es) [] cpos) (tBM X.K T r to t):=by
 intro pins s σ H Q I h;refine wpAny_Call_method_late hbase hfew hline C3 (thn (ho pins s σ H _ I h) λv s1 ⟨x,H1,I1,r1,ty,q1⟩=>?_);obtain⟨h1,h2⟩:=RO I1 r1 ty;refine⟨T,id,pa,slot,hty,h1,h2,?_⟩;have hA:=ha cpos pins s1 σ H1 _ I1 q1;rw[hs]at hA⊢;refine Calls.callWith_builtin (by show(C6 || (backTo cpos (Uh es X.env)).any (·.1))=C6;rw[hplain]<;>rfl) (Calls.evalArgs_plain ?_);exact thn hA λus s2 ⟨vs,H2,I2,r2,q2⟩=>hm pins s2 σ H2 x vs v us Q I2 r1 r2 q2
end
def MtM(X:Cx)(id:String)(r:V->List V->Hp->VK->Prop):Prop:=
 ∀(pins:List (Uc×Obj))(s:Ua)(σ:St)(H:Hp)(x:V)(xs:List V)(v:J9)(us:C9)(Q:VK),Inv X pins σ H s->RelV x v->Vals xs us->r x xs H Q ->
  Ug (model X.prog X.w) X.A (call (.builtin id) (v::us)) (EP X pins σ Q) X.xe s
theorem Vals.one:∀{x:V}{us:C9},Vals [x] us->∃u,us=[u]/\RelV x u
 |_,_,.cons r .nil=>⟨_,rfl,r⟩
theorem Vals.two:∀{x y:V}{us:C9},Vals [x,y] us->∃u v,us=[u,v]/\RelV x u/\RelV y v
 |_,_,_,.cons r (.cons q .nil)=>⟨_,_,rfl,r,q⟩
theorem Vals.reverse{xs:List V}{us:C9}(h:Vals xs us):Vals xs.reverse us.reverse:=by
 induction h with
 |nil=>exact .nil
 |cons r t ih=>rw[List.reverse_cons,List.reverse_cons];exact Vals.append ih (.cons r .nil)
theorem Vals.rep{xs:List V}{us:C9}(h:Vals xs us):∀k:Nat,Vals (Uk k xs).flatten (Uk k us).flatten
 |0=>.nil
 |k+1=>by rw[Ja,Ja,QN,QN];exact Vals.append h (Vals.rep h k)
theorem O2(its:C9):∀(k:Nat)(acc:C9),
  List.foldl (λx1 x2=>x1++x2) acc.toArray (Uk k its.toArray)=(acc++(Uk k its).flatten).toArray
 |0,acc=>by simp
 |k+1,acc=>by
  have e:acc.toArray++its.toArray=(acc++its).toArray:=by simp
  have e2:(acc++its)++(Uk k its).flatten=acc++(Uk (k+1) its).flatten:=by rw[Ja,QN,QY]
  rw[←e2,←O2 its k (acc++its),←e,Ja,List.foldl_cons]
section
variable{X:Cx}{pins:List (Uc×Obj)}{σ:St}{H:Hp}{s:Ua}{l b:Uc}{xs ys zs:List V}
theorem Inv.lset{its its':C9}{n:Nat}{f:Array J9->Array J9}{t':Nat}(I:Inv X pins σ H s)(hH:H l=O (.lst xs))
  (e:s.heap.get? l=O {cls:=.type "list", data:=.seq its.toArray n}) (hf:f its.toArray=its'.toArray) (hv:Vals ys its') (hz:ys.length<=Uf) :
  Inv X pins σ (upd H l (.lst ys)) {s with heap:=s.heap.update l (Obj.mapSeq f),toks:=t'}:=by
 have q:=PySem.IsL.update e f;rw[hf]at q;refine I.write (x:=l) (e:=l) (by rw[hH];exact trivial) (.inl C3) (λb' u hb hu=>(Heap.get?_update_other s.heap (Obj.mapSeq f) (Ne.symm hb)).trans hu) ⟨_,q⟩ ?_;exact⟨hz,its',_,hv,q⟩
theorem Inv.lnew{its:C9}{t':Nat}(I:Inv X pins σ H s)(hv:Vals ys its)(hz:ys.length<=Uf) :
  Inv X pins σ (upd H s.heap.objs.size (.lst ys)) {s with heap:=s.heap.push {cls:=.type "list", data:=.seq its.toArray},toks:=t'}:=
 I.laid (λ_ _ q=>Ql _ q) (Qo _) ⟨hz,its,0,hv,QB _ C3⟩
theorem Inv.fresh(I:Inv X pins σ H s):H s.heap.objs.size=C4:=I.hok.fresh (Qo _)
theorem Inv.lstM(I:Inv X pins σ H s)(hH:H l=O (.lst xs)):xs.length<=Uf/\∃(its:C9)(n:Nat),Vals xs its/\xs.length=its.length/\s.heap.get? l=O {cls:=.type "list", data:=.seq its.toArray n}:=by obtain⟨z,its,n,r,e⟩:=I.hok l _ hH;exact⟨z,its,n,r,r.length,e⟩
theorem Oc{n:Nat}(h:n<=Uf):Builtin.List.listTooLong n=C6:=by unfold Builtin.List.listTooLong;exact QG (by omega)
end
section
variable{X:Cx}
noncomputable def Fg:V->List V->Hp->VK->Prop:=λx vs H Q=>∃l xs y,x=.ref l/\vs=[y]/\H l=O (.lst xs)/\xs.length<Uf/\Q .non (upd H l (.lst (xs++[y])))
theorem WZ:MtM X "list.append" Fg:=by intro pins s σ H x vs v us Q I rx rv h;obtain⟨l,xs,y,rfl,rfl,hH,hz,q⟩:=h;cases rx;obtain⟨u,rfl,ru⟩:=rv.one;obtain⟨z,its,n,r,hl,e⟩:=I.lstM hH;refine call_meets F.slot_list_append ⟨_,e,rfl⟩ F.entry_list_append (F.args_list_append_2 _ _) (PySem.list_append l its.toArray n u (by rw[QL];omega)) ⟨e,?_⟩;refine⟨.non,_,I.lset (its':=its++[u]) hH e (by simp) (r.append (.cons ru .nil)) ?_,rfl,q⟩;rw[Qk,Q4];omega
noncomputable def Ff:V->List V->Hp->VK->Prop:=λx vs H Q=>∃l b xs zs,x=.ref l/\vs=[.ref b]/\H l=O (.lst xs)/\H b=O (.lst zs)/\xs.length+zs.length<=Uf/\Q .non (upd H l (.lst (xs++zs)))
theorem Co:MtM X "list.extend" Ff:=by
 intro pins s σ H x vs v us Q I rx rv h;obtain⟨l,b,xs,zs,rfl,rfl,hH,hB,hz,q⟩:=h;cases rx;obtain⟨u,rfl,ru⟩:=rv.one;cases ru;obtain⟨z,its,n,r,hl,e⟩:=I.lstM hH;obtain⟨z2,its2,n2,r2,hl2,e2⟩:=I.lstM hB;have hsz:its.toArray.size+its2.toArray.size<=Uf:=by rw[QL,QL];omega
 have BA:¬(!its.toArray.isEmpty&&Builtin.List.listTooLong (its.toArray.size+its2.toArray.size))=C5:=by rw[Oc hsz,Bool.and_false];exact Js
 refine call_meets F.slot_list_extend ⟨_,e,rfl⟩ F.entry_list_extend (F.args_list_extend_2 _ _)
  (AutoSeq1.list_extend_list_list_0 l its.toArray n b its2.toArray n2 BA (by rw[QL];omega) (by omega)) ⟨e,e2,?_⟩
 refine⟨.non,_,I.lset (its':=its++its2) hH e (by simp) (r.append r2) ?_,rfl,q⟩;rw[Qk];omega
theorem Fe{α:Type}(xs:List α)(k:Nat):(Uk k xs).flatten.length=k*xs.length:=by
 induction k with
 |zero=>simp
 |succ k ih=>rw[Ja,QN,Qk,ih,Nat.succ_mul,Nat.add_comm]
end
section
variable{prog:Ub}{w:World}{A:Around}{E:J9->Ua->Prop}{s:Ua}
set_option maxRecDepth 100000 in
end
end L2
namespace Att
open PySem PySem.W PySem.Calls PyProof.Rows
theorem CY{P:Params}{h:Heap}:∀(ns:C8)(vs:C9),WellAll P h vs (ns.map WData.int)->IntsAre vs ns:=by
 intro ns;induction ns with
 |nil=>intro vs w;rw[J4]at w;cases w;exact .nil
 |cons n ns ih=>
  intro vs w;rw[QC]at w;cases w with
  |cons a b=>cases a;exact .cons _ _ (ih _ b)
theorem Cn{l:OpenLaw}{n:Nat}(hn:l.most=O n){P:Params}{h:Heap}{args:List WData}{vals:C9}
  (hpre:l.row.toRowW.claim.pre args=C5) (Bx:WellAll P h vals args) :
  ∃a vs ns,vals=[Value.ref a]/\args=[WData.list (ns.map WData.int)]/\h.get? a=O {cls:=.type "list", data:=.seq vs.toArray}/\IntsAre vs ns/\ns.length<=n:=by
 have hsh:WShape.hasAll [] args [.list .int]=C5:=(pre_splitW hpre).1;have hc:l.pre.holds [] {args:=args}=C5:=(pre_splitW hpre).2;obtain⟨d,r,rfl,h1,h2⟩:=hasAllW_cons hsh;obtain rfl:=hasAllW_nil h2;obtain⟨xs,rfl,h3⟩:=hasW_list h1;obtain⟨ns,rfl⟩:=items_int h3
 have hlen:ns.length<=n:=by
  unfold OpenLaw.pre at hc;have h4:(WTm.not (.lt (.lit (.int (n:Int))) (.len (.arg 0)))).holds [] {args:=[.list (ns.map .int)]}=C5:=by have h4:=(holds_andW hc).1;rw[hn]at h4;exact h4
  have h5:=condW_of h4 (w_not (w_lt w_lit (w_len_list (w_arg C3))));rw[Qd]at h5;refine Q0 λq=>?_;have q':(n:Int)<((ns.length:Nat):Int):=by omega
  first
   |(rw[QU q']at h5;exact absurd h5 (by decide))
   |(simp at h5;omega)
 cases Bx with
 |cons w1 w2=>
  cases w2;cases w1 with
  |list ho hall=>exact⟨_,_,ns,rfl,rfl,ho,CY ns _ hall,hlen⟩
theorem Cm(l:OpenLaw)(args:List WData):l.row.toRowW.claim.post args (.bool C5) args=C5:=
 postW_of (r:=l.row.toRowW) (X:=(C5==C5))
  (show WShape.has [] (.bool C5) .bool=C5 by first|rfl|decide|simp[WShape.has,WShape.arms,WShape.armsAll])
  (show(WTm.eq .res (.lit (.bool C5))).value [] {args:=args,res:=O (.bool C5),after:=args}=O (.bool (C5==C5))from w_eq_bool (w_res C3) w_lit) C3
theorem attach_call{l:OpenLaw}{n:Nat}{q:Ub}{loose:List Str}{XP:(Str->Bd)->Heap->Prop}{YP:World->Heap->Prop}{d:DefRec}
  (hn:l.most=O n) (hdf:d.params.defaults=[])
  (call:∀(w:World)(s₀ s₁:Ua)(mg mb:Str->Bd)(fa:Uc)(o:Obj)(pm cd doc:J9)(a:Uc)(vs:C9)(ns:C8),
   Ground q loose [] XP w s₀ mg mb s₁.heap->YP w s₁.heap ->
   s₁.heap.get? fa=O o->o.data=.func (docDef d.name d.params d.body d.scope pm cd doc)->s₁.heap.CodeRec cd d.name->mg d.name=O (.ref fa) ->
   s₁.heap.get? a=O {cls:=.type "list", data:=.seq vs.toArray}->IntsAre vs ns->ns.length<=n->s₁.gens=#[] ->
   codeAny (model l.prog w) callerA (.call (.ref fa) ⟨[.ref a],[]⟩) (λr s'=>r=.ok (.ret (.bool C5))/\OldK s₁.heap s'.heap/\s'.os=s₁.os/\AllBare s'.gens) s₁) :
  WalkO q loose XP YP l.row.toRowW d [] (λf vs=>PySem.call f vs):=by
 intro w s₀ s₁ mg mb G Y fa o pm cd doc dV kV ho hd hcd hD hmg hg args vals as hpre hlay hrd Bx hlo;obtain rfl:dV=.none:=Dflts.none hD hdf;obtain rfl:kV=.none:=Dflts.noKw hD;obtain⟨a,vs,ns,rfl,rfl,hobj,hints,hlen⟩:=Cn hn hpre Bx;refine enter_call (codeAny_mono (call w s₀ s₁ mg mb fa o pm cd doc a vs ns G Y ho (fd_plain hd) hcd hmg hobj hints hlen hg) λr s' hq=>?_);obtain⟨rfl,h2,h3,h4⟩:=hq;exact⟨.inl ⟨.bool C5,.bool C5,[],rfl,λ_=>rfl,.bool C5,Cm l _,λ_=>⟨List.Pairwise.nil,λ_ hm=>(nomatch hm)⟩⟩,h2,h3,h4⟩
end Att
namespace L2
open PySem PySem.Spec PyProof.Rows
theorem WY:∀{vs:C9}{ns:C8},IntsAre vs ns->Vals (ns.map V.int) vs
 |_,_,.nil=>.nil
 |_,_,.cons n t h=>.cons ⟨t,rfl⟩ (WY h)
def Only(H:Hp):Prop:=∀b,H b=C4 ∨ ∃o xs,H b=O (.frz o (.lst xs))
theorem EZ{P:Ub}{w:World}{K:Frag}{mg mb:Str->Bd}{CX:CXT}{k:Nat}{fa a:Uc}{fd:Ud}{x:Str}{sp:Sp}{s₁:Ua}{vs:C9}{ns:C8}
  (KX:K.In s₁.heap) (hns:s₁.heap.Ns mainGlobals mg) (hb:s₁.heap.Ns builtinsNs mb) (hbb:∀x:Str,x ≠ "__name__" -> mb x=bootBuiltins x) (hlim:s₁.heap.NoLimit) (hg:s₁.gens=#[])
  (ha:s₁.heap.get? a=O {cls:=.type "list", data:=.seq vs.toArray}) (hi:IntsAre vs ns) (hl:ns.length<=Uf) (hr:Room k callerA)
  (F:∀base:Heap,K.In base->base.Ns mainGlobals mg->FnOk P w K mg base CX k fa fd [x] sp) (hbind:∀(s:Ua)(u:J9),BindsTo s fd ⟨[u],[]⟩ [(x,u)])
  (Aa:∀H:Hp,Only H->SqL K H a (ns.map V.int)->sp [.ref a] H (λv _=>v=.bl C5) λ_ _ _=>False)
  (hCX:∀H e s',CX [] H s₁ (λ_ _ _=>False) e s'->False) :
  codeAny (model P w) callerA (.call (.ref fa) ⟨[.ref a],[]⟩) (λr s'=>r=.ok (.ret (.bool C5))/\OldK s₁.heap s'.heap/\s'.os=s₁.os/\AllBare s'.gens) s₁:=by
 have rv:=WY hi;have lenV:=hi.length
 have core:∀H:Hp,Only H->SqL K H a (ns.map V.int)->HOk P w H s₁.heap->(∀b,H b≠C4->b=a)->(H a≠C4->K.lookup a=C4) ->
   codeAny (model P w) callerA (.call (.ref fa) ⟨[.ref a],[]⟩) (λr s'=>r=.ok (.ret (.bool C5))/\OldK s₁.heap s'.heap/\s'.os=s₁.os/\AllBare s'.gens) s₁:=by
  intro H hO hS hok hA hK;have base_of:∀{b:Uc}{o:Obj},s₁.heap.get? b=O o->H b=C4->(Zh s₁.heap H).get? b=O o:=λe n=>EH e n
  have noA:∀{b:Uc}{o:Obj}{es:Array DictEntry}{ep:Nat},s₁.heap.get? b=O o->o.data=.dict es ep->H b=C4:=λ{b o es ep} e d=>by
   cases q:H b with
   |none=>rfl
   |some u=>have e':b=a:=hA b (by rw[q];simp);subst e';rw[ha]at e;cases e;have d':Data.seq vs.toArray _=Data.dict es ep:=d;cases d'
  have nsK:∀{b:Uc}{m:Str->Bd},s₁.heap.Ns b m->(Zh s₁.heap H).Ns b m:=λ{b m} ⟨o,es,ep,e,d,r⟩=>⟨o,es,ep,base_of e (noA e d),d,r⟩
  have hKb:K.In (Zh s₁.heap H):=λb o e=>base_of (KX b o e) (by
   cases q:H b with
   |none=>rfl
   |some u=>have e':b=a:=hA b (by rw[q];simp);subst e';rw[hK (by rw[q];simp)]at e;cases e)
  have hM:Mod K mg (Zh s₁.heap H):=⟨hKb,nsK hns,⟨mb,nsK hb,hbb⟩,let ⟨mc,h1,h2⟩:=hlim;⟨mc,nsK h1,h2⟩⟩
  have e0:Env0 P w K mg (Zh s₁.heap H) callerA [] s₁ H:=⟨rfl,hM,λb o e=>Fs e,Nat.le_of_eq (D4 _ _),trivial,λb hb=>absurd (show b∈([]:Be)from hb) (by simp),hok,.of_eq hg⟩
  refine codeAny_mono ((F _ hKb (nsK hns)).run callerA [] s₁ H ⟨[.ref a],[]⟩ [.ref a] [.ref a] _ _ hr e0 (hbind s₁ (.ref a)) (.cons C3 .nil) (Aa H hO hS)) λr s' h=>?_
  cases r with
  |error e=>exact(hCX H e s' h).elim
  |ok fl=>
   cases fl with
   |next=>exact False.elim h
   |brk=>exact False.elim h
   |cont=>exact False.elim h
   |ret u=>
    obtain⟨v,H',os,bare,un,hok',r',q⟩:=h;have q':v=.bl C5:=q;subst q';obtain rfl:u=Value.bool C5:=r';refine⟨rfl,OldK.of_keep λb o e=>?_,os,bare⟩;cases q:H b with
    |none=>exact un.keep b o e q (by intro z;exact absurd (show b∈([]:Be)from z) (by simp)) (by simp)
    |some u=>
     rcases hO b with z|⟨ob,xs,z⟩
     .rw[q]at z;cases z
     .have z2:=un.frzs b ob _ z
      obtain⟨e1,_⟩:=hok b _ z;obtain⟨e2,_⟩:=hok' b _ z2;rw[e]at e1;cases e1;exact e2
 cases hk:K.lookup a with
 |some o=>have e:=KX a o hk;rw[ha]at e;cases e;refine core (λ_=>C4) (λ_=>.inl C3) (.inr ⟨_,vs.toArray,_,hk,rfl,rfl,rfl,by rw[List.size_toArray,lenV];exact hl,by simpa using rv⟩) (λb u z=>by have z':(none:Option HO)=O u:=z;cases z') (λb z=>absurd C3 z) λz=>absurd C3 z
 |none=>
  refine core (λb=>if b=a then O (.frz {cls:=.type "list", data:=.seq vs.toArray} (.lst (ns.map V.int)))else C4) (λb=>?_) (.inl (.inr ⟨{cls:=.type "list", data:=.seq vs.toArray},Qq C3⟩)) (λb u z=>?_) (λb z=>?_) λ_=>hk
  .by_cases hb:b=a
   .exact .inr ⟨_,_,Qq hb⟩
   .exact .inl (QE hb)
  .by_cases hb:b=a
   .have z':=(Qq hb).symm.trans z
    cases z';subst hb;exact⟨ha,by rw[Qd];exact hl,vs,_,rv,ha⟩
   .have z':=(QE hb).symm.trans z
    cases z'
  .by_cases hb:b=a
   .exact hb
   .exact absurd (QE hb) z
noncomputable def XH(s:Stmt):Arguments:=match s with
 |.FunctionDef _ a _ _ _ _ _ _ _ _=>a
 |_=>{posonlyargs:=[],args:=[],vararg:=C4,kwonlyargs:=[],kw_defaults:=[],kwarg:=C4,defaults:=[]}
noncomputable def ZY(s:Stmt):List Stmt:=match s with
 |.FunctionDef _ _ b _ _ _ _ _ _ _=>b
 |_=>[]
noncomputable def Kw(s:Stmt):Scope:=match s with
 |.FunctionDef _ _ _ _ _ _ sc _ _ _=>sc
 |_=>{kind:=.function,names:=[],isGenerator:=C6,isCoroutine:=C6}
noncomputable abbrev CX0:CXT:=λ_ _ _ _ _ _=>False
noncomputable abbrev E0:XK:=λ_ _ _=>False
theorem TY{X:Cx}:Sc CX0 X E0:=λ_ _ _ _ _ _ _ h=>h.elim
structure Fun(K:Frag)(x qual:Str)(st:Stmt)(f:Uc)(fd:Ud):Prop where
 ex:∃(oc:J9)(od:Bk)(kV doc pm:J9)(an:Bk)(cdv ct:J9)(osl:Array Bd),
  fd=PySem.W.fnOf x qual (XH st) (ZY st) (Kw st) .none kV doc pm an cdv ct/\K.lookup f=O ⟨oc,od,.func fd,osl⟩/\PySem.W.codeIn K cdv qual=C5
 kp:PySem.W.keepIn K (.ref f)=C5
section
variable{P:Ub}{w:World}{K:Frag}{mg:Str->Bd}{base:Heap}
theorem Fun.ok{x qual:Str}{st:Stmt}{f:Uc}{fd:Ud}{N ps:List Str}{k:Nat}{sp:Sp}(F:Fun K x qual st f fd)(S:X0 N ps (Kw st))(len:∀vs H Q E,sp vs H Q E->vs.length=ps.length)
  (hbody:∀(cdv:J9)(A:Around)(outer:List Env)(s:Ua)(H:Hp)(vs:List V)(Q:VK)(E:XK),Room k (A.deeper (envOfC qual (Kw st) s.heap.objs.size f cdv))->sp vs H Q E ->
   ∃t,PSs (Zi CX0 P w K mg base N qual (Kw st) f cdv A outer s H E).nox (ZY st) t/\t {nx:=λ_ H'=>Q .non H',rt:=Q} (Yl N vs) H):FnOk P w K mg base CX0 (k+1) f fd ps sp:=by
 obtain⟨oc,od,kV,doc,pm,an,cdv,ct,osl,rfl,lk,hcd⟩:=F.ex;refine Mr lk hcd S len λA outer s H vs Q E hr Aa=>?_
 obtain⟨t,h,q⟩:=hbody cdv A outer s H vs Q E hr Aa;exact⟨t,h.nox,q⟩
theorem Fun.binds{x qual:Str}{st:Stmt}{f:Uc}{fd:Ud}{ps:List Str}(F:Fun K x qual st f fd)
  (h:∀(kV doc pm:J9)(an:Bk)(cdv ct:J9)(us:C9),us.length=ps.length->bindArgs (PySem.W.fnOf x qual (XH st) (ZY st) (Kw st) .none kV doc pm an cdv ct) ⟨us,[]⟩=pure (ps.zip us)):YG K fd ps []:=by
 obtain⟨oc,od,kV,doc,pm,an,cdv,ct,osl,rfl,lk,hcd⟩:=F.ex;exact .all (h kV doc pm an cdv ct)
end
def Same(H H':Hp):Prop:=∀b o,H b=O o->H' b=O o
theorem Same.refl(H:Hp):Same H H:=λ_ _ h=>h
theorem Same.trans{H H1 H2:Hp}(a:Same H H1)(b:Same H1 H2):Same H H2:=λc o h=>b c o (a c o h)
theorem Same.free{H H':Hp}(e:Same H H'){l:Uc}(h:H' l=Option.none):H l=Option.none:=by
 cases q:H l with
 |none=>rfl
 |some o=>rw[e l o q]at h;cases h
theorem Same.seq{K:Frag}{H H':Hp}{a:Uc}{xs:List V}(e:Same H H')(h:SqL K H a xs):SqL K H' a xs:=by
 rcases h with (h|⟨o,h⟩)|h
 .exact .inl (.inl (e _ _ h))
 .exact .inl (.inr ⟨o,e _ _ h⟩)
 .exact .inr h
section
variable{X:Cx}{pins:List (Uc×Obj)}{σ:St}{H:Hp}{s:Ua}{h':Heap}
theorem Inv.turnedNew{t':Nat}{fp:Be}{p:Uc}{o:HO}(I:Inv X pins σ H s)(hf:∀b∈fp,KF X pins H b)
  (k:∀b o,b∉fp->s.heap.get? b=O o->h'.get? b=O o) (hp:s.heap.objs.size<=p) (new:Ku X.prog X.w (upd H p o) h' p o) :
  Inv X pins σ (upd H p o) {s with heap:=h',toks:=t'}:=by
 have hn:H p=C4:=I.hok.fresh hp;have trk:∀b u,H b=O u->b∉fp:=λb u e z=>by rw[(hf b z).1]at e;cases e
 refine I.step (g':=s.gens) (d':=s.drawn) (ch:=fp) (λb hb=>?_) (λb o _ _ hc e _=>k b o hc e) (λb o _ _ hc e _=>⟨o.slots,k b o hc e⟩)
  (λb o _ e n=>by rw[US (QO (Qv (Qi e) hp))];exact n) (λb o hc e=>⟨o,k b o hc e⟩)
  (λb xs e=>by rw[US (KO e hn)];exact e) (λb ob u e=>by rw[US (KO e hn)];exact e) (λb ps e=>⟨#[],by rw[US (KO e hn),e];simp⟩)
  (λm hm=>?_) (λb u e=>?_) I.bare
 .obtain⟨_,f1,_,f3,f4,f5⟩:=hf b hb
  exact⟨f3,f1,f4,f5⟩
 .obtain⟨ob,es,ep,ho,r⟩:=hm
  exact⟨ob,es,ep,k _ ob (λz=>(hf _ z).2.1 C3) ho,r⟩
 .by_cases hb:b=p
  .subst hb;rw[Kd]at e;cases e;exact new
  .rw[US hb]at e
   refine(I.hok b u e).stay (λc v hc q=>k c v ?_ q) (λc q=>by rw[US (KO q hn)];exact q) λc xs q=>by rw[US (KO q hn)];exact q
   rcases hc with z|z
   .rw[z];exact trk b u e
   .exact trk c _ z
theorem Inv.turnedL{t':Nat}{fp:Be}(I:Inv X pins σ H s)(hf:∀b∈fp,KF X pins H b)
  (k:∀b o,b∉fp->s.heap.get? b=O o->h'.get? b=O o):Inv X pins σ H {s with heap:=h',toks:=t'}:=by
 have trk:∀b u,H b=O u->b∉fp:=λb u e z=>by rw[(hf b z).1]at e;cases e
 refine I.step (g':=s.gens) (d':=s.drawn) (ch:=fp) (λb hb=>?_) (λb o _ _ hc e _=>k b o hc e) (λb o _ _ hc e _=>⟨o.slots,k b o hc e⟩)
  (λ_ _ _ _ n=>n) (λb o hc e=>⟨o,k b o hc e⟩) (λ_ _ e=>e) (λ_ _ _ e=>e) (λb ps e=>⟨#[],by rw[e];simp⟩) (λm hm=>?_) (λb u e=>?_) I.bare
 .obtain⟨_,f1,_,f3,f4,f5⟩:=hf b hb
  exact⟨f3,f1,f4,f5⟩
 .obtain⟨ob,es,ep,ho,r⟩:=hm
  exact⟨ob,es,ep,k _ ob (λz=>(hf _ z).2.1 C3) ho,r⟩
 .refine(I.hok b u e).stay (λc v hc q=>k c v ?_ q) (λc q=>q) λc xs q=>q
  rcases hc with z|z
  .rw[z];exact trk b u e
  .exact trk c _ z
end
noncomputable def Ite(K:Frag)(a:Uc):It:=
 ⟨λi H=>∃xs x,SqL K H a xs/\xs[i]?=O x,
  λi H v H'=>∃p x,H p=C4/\v=.ref p/\(∀xs,SqL K H a xs->xs[i]?=O x)/\H'=upd H p (.tup [.int i,x]),
  λi H=>∃xs,SqL K H a xs/\xs.length<=i⟩
theorem Ck{P:Ub}{w:World}{K:Frag}{elts:Ba}{x1}{tp:Pos}(a e it:Uc)(hne:e≠it) :
  Turn P w K (.Tuple elts x1 tp) (Ite K a) [e,it] e (λi h=>(∃old,IsEnum h e it i old)/\h.IsListIter it a i) where
 mem:=by simp
 obj:=λi h st b hb=>by
  obtain⟨⟨old,he⟩,o,ho,c,d⟩:=st;have hb':b=e∨b=it:=by simpa using hb
  rcases hb' with rfl|rfl
  .exact⟨_,he,λv z=>by have z':Data.fields _=Data.cell v:=z;cases z'⟩
  .exact⟨o,ho,λv z=>by rw[d]at z;cases z⟩
 keep:=λi h h' st k=>by obtain⟨⟨old,he⟩,hi⟩:=st;exact⟨⟨old,k e (by simp) _ he⟩,hi.at λo q=>k it (by simp) o q⟩
 item:=by
  intro X hP hw hK hc i pins s σ H E I hf st hg;subst hP hw hK;obtain⟨⟨old,he⟩,hi⟩:=st;obtain⟨xs,x,hq,hx⟩:=hg;obtain⟨its,rv,p,hz⟩:=I.list hq;obtain⟨u,hu,ru⟩:=rv.get hx;refine wpAny_pyNext_enum_item he hi p.isList (x:=u) (by simpa using hu) hne λh1 out hi1 ht hsz kk=>?_
  refine⟨_,rfl,wpAny_letOwnedTupleGo_enum out λh2 BE hs2=>?_⟩;have hel:e<s.heap.objs.size:=Qi he;have BZ:Heap.SameBut e h1 h2:=hs2;have ht2:h2.get? s.heap.objs.size=O {cls:=.type "tuple", data:=.seq #[.int i s.toks,u]}:=(BZ.2 _ (JE hel)).trans ht
  have kk2:∀b o,b∉[e,it]->s.heap.get? b=O o->h2.get? b=O o:=λb o hb q=>by
   have BF:b≠e:=λz=>hb (by simp[z])
   have hbi:b≠it:=λz=>hb (by simp[z])
   exact(BZ.2 b BF).trans (kk b o BF hbi q)
  have hn:H s.heap.objs.size=C4:=I.hok.fresh (Qo _)
  have I2:Inv X pins σ (upd H s.heap.objs.size (.tup [.int i,x])) {s with heap:=h2,toks:=s.toks+1}:=
   I.turnedNew (fp:=[e,it]) hf kk2 (Qo _) ⟨by show 2<=Uf;decide,[.int i s.toks,u],.cons ⟨_,rfl⟩ (.cons ru .nil),⟨_,ht2,rfl,_,rfl⟩⟩
  refine⟨.ref s.heap.objs.size,_,I2,rfl,⟨_,x,hn,rfl,λys hy=>by rw[I.list_inj hy hq];exact hx,rfl⟩,⟨⟨u,?_⟩,?_⟩,λb hb=>?_⟩
  .have:=BE
   simpa using this
  .have hi2:h2.IsListIter it a (i+1):=hi1.at λo q=>(BZ.2 it (Ne.symm hne)).trans q
   exact hi2
  .have fr:=(hf b hb)
   have hlt:b<s.heap.objs.size:=by
    have hb':b=e∨b=it:=by simpa using hb
    rcases hb' with rfl|rfl
    .exact hel
    .obtain⟨o,ho,_⟩:=hi;exact Qi ho
   rw[US (QO hlt)];exact fr.1
 done:=by intro X hP hw hK hc i pins s σ H E I hf st hg;subst hP hw hK;obtain⟨⟨old,he⟩,hi⟩:=st;obtain⟨xs,hq,hx⟩:=hg;obtain⟨its,rv,p,hz⟩:=I.list hq;have hl:=rv.length;exact wpAny_pyNext_enum_end (I.ok.hd hc) he hi p.isList (by simp;omega) λh' eb=>⟨rfl,I.turnedL (t':=s.toks) hf λb o hb q=>eb b o (λz=>hb (by simp[z])) q⟩
 self:=λ_ _ _ _ _ st h=>by obtain⟨⟨old,he⟩,_⟩:=st;exact wpAny_pyIter_enum he h
section
variable{X:Cx}
noncomputable def Mp(K:Frag)(ta:TA):TI:=λσ H R=>ta σ H λvs H1=>∃a xs,vs=[.ref a]/\SqL K H1 a xs/\R (Ite K a) H1
theorem Fd{a:Ue}{ta:TA}{p pos:Pos}{elts:Ba}{x1}{tp:Pos}(hg:Gl X "enumerate")(hm:X.mg "enumerate" = C4)(ha:PA X [a] ta)
  (hs:Uh [a] X.env=[(C6,eval a X.env)]:=by rfl):PI X (.Tuple elts x1 tp) (.Call (.Name "enumerate" p) [a] [] pos) (Mp X.K ta):=by
 intro pins s σ H R I h;refine Call_ (XS I hg hm boot_enumerate (Jo (thn (ha pos pins s σ H _ I h) λus s1 ⟨vs,H1,I1,r1,q1⟩=>?_) hs C3));obtain⟨l,xs,e,hq,q⟩:=q1;subst e;cases r1 with
 |cons r rr=>
  cases rr;cases (show _=Value.ref l from r);obtain⟨its,rv,pl,hz⟩:=I1.list hq;refine call_enumerate_list pl.isList λh' he hi hsz kk=>?_;have I2:Inv X pins σ H1 {s1 with heap:=h'}:=I1.kept (t':=s1.toks) kk;refine wpAny_pyIter_enum he ?_
  refine⟨s1.heap.objs.size+1,[s1.heap.objs.size+1,s1.heap.objs.size],_,_,H1,rfl,I2,Ck l _ _ (Nat.succ_ne_self _),⟨⟨_,he⟩,hi⟩,λb hb=>?_,q⟩;have hb':b=s1.heap.objs.size+1∨b=s1.heap.objs.size:=by simpa using hb
  rcases hb' with rfl|rfl
  .exact I1.fpOk (Jy _) (I1.hok.fresh (Jy _))
  .exact I1.fpOk (Qo _) (I1.hok.fresh (Qo _))
end
section
variable{κ:Type}[DecidableEq κ]
noncomputable def KH(kvs:List (κ×V))(k:κ):Option V:=(kvs.find? λkv=>decide (kv.1=k)).map (·.2)
noncomputable def KI(kvs:List (κ×V))(k:κ)(v:V):List (κ×V):=
 if(kvs.any λkv=>decide (kv.1=k))=C5 then kvs.map (λkv=>if kv.1=k then(kv.1,v)else kv)else kvs++[(k,v)]
theorem To{p:κ×V}{r:List (κ×V)}{k:κ}(e:p.1=k):KH (p::r) k=O p.2:=by simp[KH,List.find?_cons,e]
theorem Tn{p:κ×V}{r:List (κ×V)}{k:κ}(e:¬p.1=k):KH (p::r) k=KH r k:=by simp[KH,List.find?_cons,e]
theorem Ob(k:κ):∀kvs:List (κ×V),(kvs.any λkv=>decide (kv.1=k))=(KH kvs k).isSome
 |[]=>rfl
 |p::r=>by
  rw[JW];by_cases e:p.1=k
  .simp only[To e,QU e,Bool.true_or,Option.isSome_some]
  .rw[Tn e,QG e,Bool.false_or];exact Ob k r
theorem O4(kvs:List (κ×V))(k:κ)(v:V):(KI kvs k v).length<=kvs.length+1:=by
 unfold KI;split
 .rw[Qd];omega
 .rw[Qk,Qz,Q6];omega
theorem RelO.isSome_eq{o:Option V}{u:Bd}(r:RelO o u):o.isSome=u.isSome:=by
 cases o with
 |none=>cases u with
  |none=>rfl
  |some _=>exact(show False from r).elim
 |some _=>cases u with
  |none=>exact(show False from r).elim
  |some _=>rfl
theorem RelO.getD{o:Option V}{u:Bd}{d:V}{d':J9}(r:RelO o u)(rd:RelV d d'):RelV (o.getD d) (u.getD d'):=by
 cases o with
 |none=>cases u with
  |none=>exact rd
  |some _=>exact(show False from r).elim
 |some _=>cases u with
  |none=>exact(show False from r).elim
  |some _=>exact r
theorem KV.val{kvs:List (κ×V)}{vs:List (κ×J9)}(r:KV kvs vs)(k:κ):RelO (KH kvs k) (valueAt vs k):=by
 unfold KV at r;induction r with
 |nil=>exact True.intro
 |@cons p q ps qs h t ih=>
  obtain⟨h1,h2⟩:=h;by_cases e:p.1=k
  .have e':q.1=k:=h1.symm.trans e
   have b:valueAt (q::qs) k=O q.2:=by simp[valueAt,List.find?_cons,e']
   rw[To e,b];exact h2
  .have e':¬q.1=k:=λz=>e (h1.trans z)
   have b:valueAt (q::qs) k=valueAt qs k:=by simp[valueAt,List.find?_cons,e']
   rw[Tn e,b];exact ih
theorem KV.any{kvs:List (κ×V)}{vs:List (κ×J9)}(r:KV kvs vs)(k:κ):(kvs.any λkv=>decide (kv.1=k))=vs.any λkv=>decide (kv.1=k):=by
 unfold KV at r;induction r with
 |nil=>rfl
 |cons h t ih=>rw[JW,JW,ih,h.1]
theorem KV.repl{kvs:List (κ×V)}{vs:List (κ×J9)}(r:KV kvs vs)(k:κ){y:V}{u:J9}(ry:RelV y u) :
  KV (kvs.map λkv=>if kv.1=k then(kv.1,y)else kv) (vs.map λkv=>if kv.1=k then(kv.1,u)else kv):=by
 unfold KV at r⊢;induction r with
 |nil=>exact .nil
 |@cons p q ps qs h t ih=>
  rw[QC,QC];refine .cons ?_ ih;obtain⟨h1,h2⟩:=h;by_cases e:p.1=k
  .rw[Qq e,Qq (h1.symm.trans e)];exact⟨h1,ry⟩
  .rw[QE e,QE (λz=>e (h1.trans z))];exact⟨h1,h2⟩
theorem KV.put{kvs:List (κ×V)}{vs:List (κ×J9)}(r:KV kvs vs)(k:κ){y:V}{u:J9}(ry:RelV y u):KV (KI kvs k y) (stored vs k u):=by
 unfold KI stored;rw[r.any k];by_cases e:(vs.any λkv=>decide (kv.1=k))=C5
 .rw[Qq e,Qq e];exact r.repl k ry
 .rw[QE e,QE e];exact Paired.snoc r ⟨rfl,ry⟩
theorem KV.length{kvs:List (κ×V)}{vs:List (κ×J9)}(r:KV kvs vs):kvs.length=vs.length:=Paired.length r
end
theorem TX{P:Ub}{w:World}{k:Key}{u:J9}(r:RelV (kV k) u):(ZD P w).is k u=C5:=by
 cases k with
 |inl i=>obtain⟨t,e⟩:=(show ∃t,u=Value.int i t from r);subst e;exact CB P w i t
 |inr x=>obtain⟨t,e⟩:=(show ∃t,u=Value.str x t from r);subst e;exact CA P w x t
theorem O1{P:Ub}{w:World}:∀{ks:Bh}{us:C9},Vals (ks.map kV) us->ItemsAre (ZD P w) ks us
 |[],_,r=>by rw[J4]at r;cases r;exact .nil
 |k::ks,_,r=>by
  rw[QC]at r;cases r with
  |cons h t=>exact .cons (TX h) (O1 t)
noncomputable abbrev KT(H:Hp):List (Bh×V)->List (Bh×Uc×J9)->Prop:=Paired λp q=>p.1=q.1/\H q.2.1=O (.tup (p.1.map kV))/\RelV p.2 q.2.2
theorem KT.val{H:Hp}{kvs:List (Bh×V)}{xs:List (Bh×Uc×J9)}(r:KT H kvs xs)(k:Bh):RelO (KH kvs k) ((atKey xs k).map (·.2)):=by
 induction r with
 |nil=>exact True.intro
 |@cons p q ps qs h t ih=>
  obtain⟨h1,_,h2⟩:=h;by_cases e:p.1=k
  .have e':q.1=k:=h1.symm.trans e
   have b:atKey (q::qs) k=O q.2:=by simp[atKey,List.find?_cons,e']
   rw[To e,b];exact h2
  .have e':¬q.1=k:=λz=>e (h1.trans z)
   have b:atKey (q::qs) k=atKey qs k:=by simp[atKey,List.find?_cons,e']
   rw[Tn e,b];exact ih
theorem KT.repl{H:Hp}{kvs:List (Bh×V)}{xs:List (Bh×Uc×J9)}(r:KT H kvs xs)(k:Bh){y:V}{u:J9}(ry:RelV y u) :
  KT H (kvs.map λkv=>if kv.1=k then(kv.1,y)else kv) (xs.map (putAt k u)):=by
 induction r with
 |nil=>exact .nil
 |@cons p q ps qs h t ih=>
  rw[QC,QC];refine .cons ?_ ih;obtain⟨h1,h2,h3⟩:=h;unfold putAt;by_cases e:p.1=k
  .rw[Qq e,Qq (h1.symm.trans e)];exact⟨h1,h2,ry⟩
  .rw[QE e,QE (λz=>e (h1.trans z))];exact⟨h1,h2,h3⟩
theorem KT.put{H:Hp}{kvs:List (Bh×V)}{xs:List (Bh×Uc×J9)}(r:KT H kvs xs)(k:Bh){b:Uc}{y:V}{u:J9}(hb:H b=O (.tup (k.map kV)))(ry:RelV y u) :
  KT H (KI kvs k y) (storedH xs k b u):=by
 have e:(kvs.any λkv=>decide (kv.1=k))=(atKey xs k).isSome:=by rw[Ob,(r.val k).isSome_eq,Option.isSome_map]
 unfold KI storedH;rw[e];by_cases q:(atKey xs k).isSome=C5
 .rw[Qq q,Qq q];exact r.repl k ry
 .rw[QE q,QE q];exact Paired.snoc r ⟨rfl,hb,ry⟩
theorem KT.keeps{H H':Hp}{kvs:List (Bh×V)}{xs:List (Bh×Uc×J9)}(r:KT H kvs xs)(ht:∀b ys,H b=O (.tup ys)->H' b=O (.tup ys)):KT H' kvs xs:=
 Paired.mapP r λ_ _ z=>⟨z.1,ht _ _ z.2.1,z.2.2⟩
section
variable{P:Ub}{w:World}{H:Hp}{h:Heap}{a:Uc}
theorem RC{u:HO}(ok:HOk P w H h)(e:Rd H a u):Ku P w H h a u:=e.ok ok
theorem VS{kvs:List (Key×V)}(ok:HOk P w H h)(e:Rd H a (.dK kvs)):kvs.length<=Uf/\(a==sysModules)=C6/\∃vs,KV kvs vs/\h.DictOf (ZD P w) a vs:=
 show Ku P w H h a (.dK kvs)from RC ok e
theorem Mo{kvs:List (Key×V)}(ok:HOk P w H h)(e:H a=O (.dK kvs)):kvs.length<=Uf/\(a==sysModules)=C6/\∃vs,KV kvs vs/\h.DictOf (ZD P w) a vs:=VS ok (.inl e)
theorem RN{ks:Bh}(ok:HOk P w H h)(e:H a=O (.tup (ks.map kV))):(tupleKind (ZD P w)).is h ks a:=by
 obtain⟨_,its,r,o,h1,h2,n,h3⟩:=(show Ku P w H h a (.tup (ks.map kV))from ok a _ e)
 exact⟨o,its.toArray,n,h1,h2,h3,by simpa using O1 r⟩
theorem Mn{kvs:List (Bh×V)}(ok:HOk P w H h)(e:Rd H a (.dT kvs)):kvs.length<=Uf/\(a==sysModules)=C6 /\
  ∃xs,KT H kvs xs/\h.DictOfH (tupleKind (ZD P w)) a xs:=by
 obtain⟨z,y,xs,r,o,es,ep,h1,h2,h3,h4,h5⟩:=(show Ku P w H h a (.dT kvs)from RC ok e)
 refine⟨z,y,xs,r,o,es,ep,h1,h2,h3,h4,λx hx=>?_,h5⟩
 have all:∀{l:List (Bh×V)}{m:List (Bh×Uc×J9)},KT H l m->∀x∈m,(tupleKind (ZD P w)).is h x.1 x.2.1:=by
  intro l m q;induction q with
  |nil=>intro x hx;exact nomatch hx
  |@cons p q ps qs hq t ih=>
   intro x hx;rcases QM.mp hx with e|hx
   .subst e
    exact RN ok (by rw[←hq.1];exact hq.2.1)
   .exact ih x hx
 exact all r x hx
theorem Mm{kvs:List (Bh×V)}(ok:HOk P w H h)(e:H a=O (.dT kvs)):kvs.length<=Uf/\(a==sysModules)=C6 /\
  ∃xs,KT H kvs xs/\h.DictOfH (tupleKind (ZD P w)) a xs:=Mn ok (.inl e)
end
def DPut(H:Hp)(a:Uc)(y v:V)(H':Hp):Prop:=
 (∃kvs k,H a=O (.dK kvs)/\y=kV k/\kvs.length<Uf/\H'=upd H a (.dK (KI kvs k v))) ∨
 ∃kvs k b,H a=O (.dT kvs)/\y=.ref b/\H b=O (.tup (k.map kV))/\kvs.length<Uf/\H'=upd H a (.dT (KI kvs k v))
theorem DPut.k{H:Hp}{a:Uc}{kvs:List (Key×V)}{k:Key}{v:V}(e:H a=O (.dK kvs))(hl:kvs.length<Uf):DPut H a (kV k) v (upd H a (.dK (KI kvs k v))):=.inl ⟨kvs,k,e,rfl,hl,rfl⟩
section
variable{X:Cx}{pins:List (Uc×Obj)}{σ:St}{H:Hp}{s:Ua}{a:Uc}{y v:V}{u r:J9}{o:Option V}{A:Around}{E:J9->Ua->Prop}
theorem Inv.big(I:Inv X pins σ H s):sysModules<s.heap.objs.size:=by have h:mainGlobals<s.heap.objs.size:=(I.mod.glob.keeps I.bk).lt;exact Nat.lt_trans (by decide) h
theorem PJ{h':Heap}{t':Nat}{ob:HO}(I:Inv X pins σ H s)(mu:Mut (H a))(hs:Heap.SameBut a s.heap h')(he:∃q,h'.get? a=O q)(new:Ku X.prog X.w (upd H a ob) h' a ob) :
  Inv X pins σ (upd H a ob) {s with heap:=h',toks:=t'}:=
 I.write (x:=a) (e:=a) mu (.inl C3) (λb q hb z=>(hs.2 b hb).trans z) he new
theorem HA{P:Ub}{w:World}{H':Hp}{h':Heap}{kvs:List (Key×V)}{vs:List (Key×J9)}(z:kvs.length<=Uf)(hd:(a==sysModules)=C6)(rel:KV kvs vs)(dd:h'.DictOf (ZD P w) a vs) :
  Ku P w H' h' a (.dK kvs):=⟨z,hd,vs,rel,dd⟩
theorem Cj{H':Hp}{Q:Unit->Ua->Prop}(hu:A.units+1<cLine)(I:Inv X pins σ H s)(g:DPut H a y v H')(ry:RelV y u)(rv:RelV v r)(h:∀s',Inv X pins σ H' s'->Q () s') :
  Ug (model X.prog X.w) A (setItem (.ref a) u r) Q E s:=by
 rcases g with ⟨kvs,k,e,ey,l,eH⟩|⟨kvs,k,b,e,ey,eb,l,eH⟩
 .subst ey eH
  obtain⟨z,hd,vs,rel,dd⟩:=Mo I.hok e;have hz:vs.length<=Uf:=by rw[←rel.length];exact z
  have hl:(KI kvs k v).length<=Uf:=by have:=O4 kvs k v;omega
  refine wpAny_setItem_pairs (hsz:=hz) (TX ry) dd λh' B7 hs=>h _ ?_;have he:∃q,h'.get? a=O q:=let ⟨q,_,_,hq,_⟩:=B7;⟨q,hq⟩
  exact PJ I (by rw[e];exact True.intro) hs he (HA hl hd (rel.put k rv) B7)
 .subst ey eH
  cases (show u=Value.ref b from ry);obtain⟨z,hd,xs,rel,dd⟩:=Mm I.hok e;have hz:xs.length<=Uf:=by rw[←Paired.length rel];exact z
  have hl:(KI kvs k v).length<=Uf:=by have:=O4 kvs k v;omega
  refine wpAny_setItem_heap (hsz:=hz) (tupleKind_room_in1 hu) (RN I.hok eb) dd λh' B7 hs=>h _ ?_
  obtain⟨q,es,ep,hq,h2,h3,h4,_,h5⟩:=B7;refine PJ I (by rw[e];exact True.intro) hs ⟨q,hq⟩ ⟨hl,hd,_,(rel.put k eb rv).keeps λc ys ec=>?_,q,es,ep,hq,h2,h3,h4,h5⟩;rw[US (NW ec e (λz=>nomatch z))];exact ec
end
noncomputable def Ml(td ty tv:TE):TS:=λD σ H=>tv σ H λv H1=>td σ H1 λx H2=>ty σ H2 λy H3=>∃a H4,x=.ref a/\DPut H3 a y v H4/\D.nx σ H4
section
variable{X:Cx}{o i e value:Ue}{pos pos' tpos:Pos}{td ty tv:TE}
theorem Fc(hu:X.A.units+1<cLine)(ho:PE X o td)(hi:PE X i ty)(hv:PE X value tv)(hs:swapsWith value (O (.Subscript o i pos')) pos.line X.env=pure C6) :
  PS X (.Assign [.Subscript o i pos'] value pos) (Ml td ty tv):=by
 intro pins s σ H D I h;refine wpAny_Assign_Subscript (thn (hv pins s σ H _ I h) λr s1 ⟨v,H1,I1,rv,q1⟩=>thn (ho pins s1 σ H1 _ I1 q1) λu s2 ⟨x,H2,I2,rx,q2⟩=>thn (hi pins s2 σ H2 _ I2 q2) λiv s3 ⟨y,H3,I3,ry,a,H4,ex,g,q3⟩=>?_) hs;subst ex;obtain rfl:u=Value.ref a:=rx;exact Cj hu I3 g ry rv λs4 I4=>⟨σ,H4,I4,q3⟩
end
theorem EY{P:Ub}{w:World}{H:Hp}(h:Heap)(hb:sysModules<h.objs.size):Ku P w H (h.push {cls:=.type "dict", data:=.dict #[]}) h.objs.size (.dK []):=
 ⟨JN _,beq_eq_false_iff_ne.mpr (Ne.symm (QO hb)),[],.nil,Heap.DictOf.new h⟩
noncomputable def Hz:TE:=λ_ H Q=>∀p,H p=C4->Q (.ref p) (upd H p (.dK []))
section
variable{X:Cx}{pos:Pos}
theorem EX:PE X (.Dict [] [] pos) Hz:=λpins s σ H Q I h=>
 wpAny_Dict_empty ⟨.ref s.heap.objs.size,_,I.laid (a:=s.heap.objs.size) (o:=.dK []) (t':=s.toks) (λ_ _ q=>Ql _ q) (Qo _) (EY s.heap I.big),rfl,h _ (I.hok.fresh (Qo _))⟩
end
end L2
namespace L2
open PySem PySem.Spec
def ZP(bmB bm:C9):Prop:=∀(X:String)(b:Bool),bmB.contains (.type X)=b->bm.contains (.type X)=b
def K3(M:Model)(C:Uc)(name:Str)(r:Bd)(h:Heap):Prop:=∀(A:Around)(E:J9->Ua->Prop)(Q:Bd->Ua->Prop)(h':Heap)(g:Array GenState)(d:Drawn)(t:Nat)(os:OsState),
 (∀b o,h.get? b=O o->h'.get? b=O o)->Q r ⟨h',g,d,t,os⟩->Ug M A (typeLookup (.ref C) name) Q E ⟨h',g,d,t,os⟩
theorem K3.keeps{M:Model}{C:Uc}{name:Str}{r:Bd}{h h':Heap}(x:K3 M C name r h)(k:∀b o,h.get? b=O o->h'.get? b=O o):K3 M C name r h':=
 λA E Q h2 g d t os k2 q=>x A E Q h2 g d t os (λb o e=>k2 b o (k b o e)) q
theorem K3.at{M:Model}{A:Around}{E:J9->Ua->Prop}{Q:Bd->Ua->Prop}{C:Uc}{name:Str}{r:Bd}{h:Heap}{g:Array GenState}{d:Drawn}{t:Nat}{os:OsState}(x:K3 M C name r h)(q:Q r ⟨h,g,d,t,os⟩):Ug M A (typeLookup (.ref C) name) Q E ⟨h,g,d,t,os⟩:=
 x A E Q h g d t os (λ_ _ e=>e) q
section
variable{prog:Ub}{w:World}{A:Around}{E:J9->Ua->Prop}{h:Heap}{g:Array GenState}{d:Drawn}{t:Nat}{os:OsState}{R:Result->Ua->Prop}
variable{nm q:Str}{C N x:Uc}{bs bm bmB:C9}{hdct:Bool}{sn:List Str}{sub:C9}{ab:Bool}{col:Bi}{dd:Bk}{k0 k1 k2 k3 k5:Bd}{B newId sa owner:String}{mN mA:Str->Bd}{name:Str}{v:J9}
theorem Ci{M:Model}{o:Obj}{nameV:J9}{Q:Unit->Ua->Prop}(T:ZP bmB bm)(hb:bmB.contains (.type "BaseException")=C5)(hC:h.get? C=O (excClassObj nm q C N bs bm hdct sn sub ab col dd k0 k1 k2 k3 k5 newId))
  (hx:h.get? x=O o) (hc:o.cls=.ref C) (hq:Q () ⟨h,g,d,t,os⟩):Ug M A (checkBuiltinCall "BaseException.__getattribute__" ⟨[.ref x,nameV],[]⟩) Q E ⟨h,g,d,t,os⟩:=by
 have hk:builtinKind "BaseException.__getattribute__" = O .slot:=by decide +kernel
 have hsplit:splitId "BaseException.__getattribute__" = O ("BaseException", "__getattribute__"):=by decide +kernel
 have hcB:(Value.ref C::bm).contains (.type "BaseException")=C5:=by rw[List.contains_cons,T _ _ hb];rfl
 have ha:=PySem.F.args_bexc_ga (.ref x) nameV;simp only[checkBuiltinCall,hk,hsplit];refine Qe ?_
 .unfold isInstance
  repeat (first|(with_reducible refine QJ hx ?_;rw[hc])|(with_reducible refine Jg hC ?_;rw[hcB])|wp_step)
  exact hq
end
end L2
namespace L2
open PySem PySem.Spec PyProof.Rows PySem.Calls PyProof.V
noncomputable def XO(fr:Bool)(e C:Uc)(dd:Bk):Heap->Prop:=λh=>∃vs sl,h.get? e=O {cls:=.ref C,dict:=dd,data:=.fields vs,slots:=sl}/\(fr=C5->vs[1]?=O .none/\∃t0,vs[0]?=O (.ref t0))
noncomputable abbrev VB:C9:=[.type "ValueError", .type "Exception", .type "BaseException", .type "object"]
structure XCls(M:Model)(base:Heap)(C:Uc)(bm:C9)(fI:Uc):Prop where
 obj:∃nm q N bs sn sub ab col dd k0 k1 k2 k3 k5,base.get? C=O (excClassObj nm q C N bs bm C5 sn sub ab col dd k0 k1 k2 k3 k5 "ValueError.__new__")
 tail:ZP VB bm
 init:K3 M C "__init__" (O (.ref fI)) base
 fn:∃o,base.get? fI=O o/\o.cls=.type "function"
 sa:K3 M C "__setattr__" (O (.builtin "object.__setattr__")) base
 ga:K3 M C "__getattribute__" (O (.builtin "BaseException.__getattribute__")) base
 gh:K3 M C "__getattr__" none base
 cl:K3 M C "__class__" (O (.builtin "object.__class__")) base
 pass:∀v,refuseLoop v "__setattr__" bm=pure ()
noncomputable def XD(dx:Uc)(fs:List (Str×V)):Heap->Prop:=λh=>∃mA,h.Ns1 dx mA/\h.ExactDictFk dx/\(∀f,RelO (fs.lookup f) (mA f))/\PySem.Within mA (fs.map (·.1))
end L2
namespace L2
open PySem PySem.Spec
section
variable{prog:Ub}{w:World}{A:Around}{E:J9->Ua->Prop}{h:Heap}{g:Array GenState}{d:Drawn}{t:Nat}{os:OsState}{R:Result->Ua->Prop}
variable{nm q:Str}{C N a:Uc}{bs bm bmB:C9}{hdct:Bool}{sn:List Str}{sub:C9}{ab:Bool}{col:Bi}{dd:Bk}{k0 k1 k2 k3 k5:Bd}{newId:String}{o:Obj}
theorem DV(T:ZP bmB bm)(ho:bmB.contains (.type "object")=C5)(hC:h.get? C=O (excClassObj nm q C N bs bm hdct sn sub ab col dd k0 k1 k2 k3 k5 newId))(hx:h.get? a=O o)(hc:o.cls=.ref C)(hq:R (.ok (.ret (.ref C))) ⟨h,g,d,t,os⟩) :
  codeAny (model prog w) A (.call (.builtin "getset_descriptor.__get__") ⟨[.builtin "object.__class__", .ref a,.ref C],[]⟩) R ⟨h,g,d,t,os⟩:=by
 have hT5:(⟨h,g,d,t,os⟩:Ua).TypeIs (.builtin "object.__class__") "getset_descriptor" :=PySem.F.typeOf_object_class;have hcB:(Value.ref C::bm).contains (.type (".".intercalate ("object.__class__".cutAt '.').dropLast))=C5:=by rw[PySem.F.owner_object_class,List.contains_cons,T _ _ ho];rfl
 refine codeAny_call_builtin PySem.F.slot_gs_get.plain PySem.F.entry_gs_get (PySem.F.slot_gs_get.check _ _ _ _ _ _ _ _ hT5 (PySem.F.args_gs_get _ _ _) ?_)
 repeat (any_goals (first|assumption|(with_reducible refine QJ hx ?_;rw[hc])|(with_reducible refine Jg hC ?_;rw[hcB])|wp_step))
 refine⟨Code.quiet_builtin _ (by decide +kernel),codeAny_builtin PySem.F.entry_object_class ?_⟩;unfold Builtin.«object.__class__»
 repeat (any_goals (first|assumption|(with_reducible refine QJ hx ?_;rw[hc])|wp_step))
theorem CV{tk:Tok}{Q:PySem.Fin->Ua->Prop}(T:ZP bmB bm)(ho:bmB.contains (.type "object")=C5)(hC:h.get? C=O (excClassObj nm q C N bs bm hdct sn sub ab col dd k0 k1 k2 k3 k5 newId))(fc:K3 (model prog w) C "__class__" (O (.builtin "object.__class__")) h)(hx:h.get? a=O o)(hc:o.cls=.ref C)(hq:Q (.done (.ret (.ref C))) ⟨h,g,d,t,os⟩) :
  Ug (model prog w) A (Builtin.«object.__getattribute__» ⟨[.ref a,.str "__class__" tk],[]⟩) Q E ⟨h,g,d,t,os⟩:=by
 have hT5:(⟨h,g,d,t,os⟩:Ua).TypeIs (.builtin "object.__class__") "getset_descriptor" :=PySem.F.typeOf_object_class;have f5:=PySem.F.typeOf_object_class;have f6:=PySem.F.slot_gs_get.lookup;have f7:=PySem.F.slot_gs_set.lookup
 repeat (any_goals (first|assumption|(with_reducible refine QJ hx ?_;rw[hc])|with_reducible refine fc.at ?_|wp_step))
 refine DV T ho hC hx hc ?_
 repeat (any_goals (first|assumption|wp_step))
theorem Ni{Q:Bd->Ua->Prop}(FB:ExcAttrFacts "ValueError")(T:ZP VB bm)(hC:h.get? C=O (excClassObj nm q C N bs bm hdct sn sub ab col dd k0 k1 k2 k3 k5 newId))(fc:K3 (model prog w) C "__class__" (O (.builtin "object.__class__")) h)
  (fg:K3 (model prog w) C "__getattribute__" (O (.builtin "BaseException.__getattribute__")) h) (fa:K3 (model prog w) C "__getattr__" none h) (hx:h.get? a=O o) (hc:o.cls=.ref C) (hq:Q (O (.ref C)) ⟨h,g,d,t+1,os⟩) :
  Ug (model prog w) A (getAttr? (.ref a) "__class__") Q E ⟨h,g,d,t,os⟩:=by
 have f3:=FB.ga.bind (.ref a);have hx0:(C6&&onTheHeap (Value.builtin "BaseException.__getattribute__"))=C6:=rfl;have hx2:(Value.builtin "BaseException.__getattribute__" == Value.builtin "object.__getattribute__")=C6:=by decide +kernel
 have hx1:(onTheHeap (Value.ref C)&&Value.builtin "BaseException.__getattribute__" == Value.builtin "object.__getattribute__")=C6:=by rw[hx2];rfl
 unfold getAttr? getAttrBy?;refine Qe (wpAny_mkText (Qe (wpAny_attempt ?_)))
 repeat (any_goals (first|assumption|(with_reducible refine QJ hx ?_;rw[hc])|with_reducible refine fg.at ?_|with_reducible refine fa.at ?_|wp_step))
 refine codeAny_call_builtin FB.ga.plain PySem.F.entry_bexc_ga (Ci T C3 hC hx hc (CV T C3 hC fc hx hc ?_))
 repeat (any_goals (first|assumption|wp_step))
end
end L2
namespace L2
open PySem PySem.Spec PyProof.Rows
section
variable{prog:Ub}{w:World}{A:Around}{E:J9->Ua->Prop}{h:Heap}{g:Array GenState}{d:Drawn}{t:Nat}{os:OsState}
variable{nm q nm' q':Str}{C N D N' a:Uc}{bs bm bs' bm':C9}{hdct BS:Bool}{sn sn':List Str}{sub sub':C9}{ab ab':Bool}{col col':Bi}{dd B7:Bk}{k0 k1 k2 k3 k5 j0 j1 j2 j3 j5:Bd}{newId newId':String}{o:Obj}{b:Bool}
theorem Fb{Q:J9->Ua->Prop}(T:ZP VB bm)(hC:h.get? C=O (excClassObj nm q C N bs bm hdct sn sub ab col dd k0 k1 k2 k3 k5 newId))(hD:h.get? D=O (excClassObj nm' q' D N' bs' bm' BS sn' sub' ab' col' B7 j0 j1 j2 j3 j5 newId'))
  (fc:K3 (model prog w) C "__class__" (O (.builtin "object.__class__")) h) (fg:K3 (model prog w) C "__getattribute__" (O (.builtin "BaseException.__getattribute__")) h) (fa:K3 (model prog w) C "__getattr__" none h)
  (hx:h.get? a=O o) (hc:o.cls=.ref C) (hb:(Value.ref C::bm).contains (.ref D)=b) (hq:∀tk,Q (.bool b) ⟨h,g,d,tk,os⟩):Ug (model prog w) A (call (.builtin "isinstance") [.ref a,.ref D]) Q E ⟨h,g,d,t,os⟩:=by
 have hT:(⟨h,g,d,t,os⟩:Ua).TypeIs (.ref D) "type" :=⟨_,hD,rfl⟩
 have f2:=tc_sub;refine call_isinstance_of ?_ (λz=>nomatch z);unfold Builtin.«isinstance.nested»;refine Qe ?_;unfold typeOf;refine Qe (QJ hx (Qp ?_));rw[hc];by_cases e:C=D
 .subst e
  have hb1:b=C5:=by rw[←hb];simp
  subst hb1;rw[if_pos (by simp)];exact Qe (wpAny_rule (Qp (hq t)))
 .rw[if_neg (by simp[e])]
  refine Qe (Qe (QJ hD (Qp ?_)));rw[Qq (show(Value.type "type" == Value.type "type")=C5 by decide)]
  k_delta "plainIsInstance"
  unfold isType isInstance
  repeat (first|(with_reducible refine QJ hx ?_;rw[hc])|with_reducible refine QJ hD ?_|with_reducible refine QJ hC ?_|(with_reducible refine Jg hC ?_;rw[hb])|wp_step)
  cases b with
  |true=>wp_walk;exact hq t
  |false=>
   rw[QE (by decide)];refine Qe (Ni PySem.F.excAttr_ValueError T hC fc fg fa hx hc ?_)
   repeat (first|with_reducible refine QJ hC ?_|(with_reducible refine Jg hC ?_;rw[hb])|wp_step)
   exact hq _
theorem Hy{Q:J9->Ua->Prop}{X:String}(T:ZP VB bm)(hC:h.get? C=O (excClassObj nm q C N bs bm hdct sn sub ab col dd k0 k1 k2 k3 k5 newId))(hX:typeOf (.type X)=pure (.type "type"))
  (fc:K3 (model prog w) C "__class__" (O (.builtin "object.__class__")) h) (fg:K3 (model prog w) C "__getattribute__" (O (.builtin "BaseException.__getattribute__")) h) (fa:K3 (model prog w) C "__getattr__" none h)
  (hx:h.get? a=O o) (hc:o.cls=.ref C) (hb:(Value.ref C::bm).contains (.type X)=b) (hq:∀tk,Q (.bool b) ⟨h,g,d,tk,os⟩):Ug (model prog w) A (call (.builtin "isinstance") [.ref a,.type X]) Q E ⟨h,g,d,t,os⟩:=by
 refine call_isinstance_of ?_ (λz=>nomatch z);unfold Builtin.«isinstance.nested»;refine Qe ?_;have ty:∀{M:Model}{A:Around}{Q:J9->Ua->Prop}{E:J9->Ua->Prop},Q (.ref C) ⟨h,g,d,t,os⟩->Ug M A (typeOf (.ref a)) Q E ⟨h,g,d,t,os⟩:=λq=>by unfold typeOf;refine Qe (QJ hx (Qp ?_));rw[hc];exact q
 refine ty ?_;rw[if_neg (by simp)];refine Qe (wpAny_of_eq hX ?_);rw[Qq (show(Value.type "type" == Value.type "type")=C5 by decide)]
 k_delta "plainIsInstance"
 unfold isType isInstance
 repeat (first|(with_reducible refine QJ hx ?_;rw[hc])|with_reducible refine QJ hC ?_|(with_reducible refine Jg hC ?_;rw[hb])|wp_step)
 cases b with
 |true=>wp_walk;exact hq t
 |false=>
  rw[QE (by decide)];refine Qe (Ni PySem.F.excAttr_ValueError T hC fc fg fa hx hc ?_)
  repeat (first|with_reducible refine QJ hC ?_|(with_reducible refine Jg hC ?_;rw[hb])|wp_step)
  exact hq _
end
noncomputable def rIsX(KC:Uc->C9->Prop):List V->Hp->VK->Prop:=λxs H Q=>∃a C dd bm fr c b,xs=[.ref a,c]/\KC C bm/\H a=O (.ext (XO fr a C dd)) /\
 ((∃D bm',c=.ref D/\KC D bm'/\(Value.ref C::bm).contains (.ref D)=b) ∨ ∃T,c=.ty T/\typeOf (.type T)=pure (.type "type")/\(Value.ref C::bm).contains (.type T)=b)/\Q (.bl b) H
theorem F1{X:Cx}{KC:Uc->C9->Prop}(hcls:∀C bm,KC C bm->∃fI,XCls (model X.prog X.w) X.base C bm fI):ZC X (.builtin "isinstance") (rIsX KC):=by
 rintro pins s σ H xs us Q I r ⟨a,C,dd,bm,fr,c,b,rfl,kc,hx,hD,q⟩;cases r with
 |cons ra r=>
 cases r with
 |cons rc r=>
 cases r;have ra':_=Value.ref a:=ra;subst ra';obtain⟨fI,XC⟩:=hcls C bm kc;obtain⟨nm,qn,N,bs,sn,sub,ab,col,dd1,k0,k1,k2,k3,k5,hC⟩:=XC.obj;obtain⟨⟨vs,sl,ga,_⟩,_,_⟩:=I.hok a _ hx;obtain⟨hp,g,d,tk,os⟩:=s;rcases hD with ⟨D,bm',rfl,kd,hb⟩|⟨T,rfl,hT,hb⟩
 .have rc':_=Value.ref D:=rc
  subst rc';obtain⟨fI',XD'⟩:=hcls D bm' kd;obtain⟨nm',qn',N',bs',sn',sub',ab',col',dd2,j0,j1,j2,j3,j5,Ae⟩:=XD'.obj;exact Fb XC.tail (I.bk _ _ hC) (I.bk _ _ Ae) (XC.cl.keeps I.bk) (XC.ga.keeps I.bk) (XC.gh.keeps I.bk) ga C3 hb λtk'=>⟨.bl b,H,I.tok tk',rfl,q⟩
 .have rc':_=Value.type T:=rc
  subst rc';exact Hy XC.tail (I.bk _ _ hC) hT (XC.cl.keeps I.bk) (XC.ga.keeps I.bk) (XC.gh.keeps I.bk) ga C3 hb λtk'=>⟨.bl b,H,I.tok tk',rfl,q⟩
noncomputable def Mk(nm:Str):List Str:=if nm = "NoWishes" then ["part", "number"]else if nm = "NoAim" then ["part"]else if nm = "NoText" then ["row"]else []
noncomputable def RB(K:Frag)(nm:Str):Bk:=match PySem.W.nsIn K mainGlobals nm with|some (O (.ref C))=>O C|_=>C4
def NmAt(K:Frag)(nm:Str)(C:Uc):Prop:=∃o cd,K.lookup C=O o/\o.data=.cls cd/\cd.name=nm
structure ClsK(K:Frag)(nm:Str)(C:Uc)(bm:C9):Prop where
 ad:RB K nm=O C
 nmd:NmAt K nm C
 up:nm = "DealError" /\ bm=VB∨nm ≠ "DealError" /\ ∃D,RB K "DealError" = O D/\bm=.ref D::VB/\NmAt K "DealError" D
 cls:∀(M:Model)(h:Heap),K.In h->∃fI,XCls M h C bm fI
 fld:∀(M:Model)(h:Heap),K.In h->∀f∈(["part", "number", "row"]:List Str),K3 M C f C4 h
noncomputable def KC(K:Frag):Uc->C9->Prop:=λC bm=>∃nm,ClsK K nm C bm
section
variable{K:Frag}{nm x:Str}{C D:Uc}{bm bm':C9}
theorem ClsK.ty(c:ClsK K nm C bm)(T:String):(Value.ref C::bm).contains (.type T)=VB.contains (.type T):=by
 rcases c.up with ⟨_,rfl⟩|⟨_,D',g,rfl,n⟩
 .rfl
 .rfl
end
section
variable{X:Cx}{e:Ue}{st:Stmt}{sts:List Stmt}{t:TE}{ts:TS}
theorem Mj(k:X.K.In X.base):∀C bm,KC X.K C bm->∃fI,XCls (model X.prog X.w) X.base C bm fI:=λ_ _ ⟨_,c⟩=>c.cls _ _ k
end
end L2
namespace DL
open PySem PySem.Spec L2
open PyProof.Rows hiding St
abbrev D:=PyData
abbrev C7:=List D
abbrev Bb:=Option D
abbrev XW:=V->St->Hp->Prop
noncomputable abbrev KX0:XW:=λ_ _ _=>False
def XFs(G:Hp)(dd:Bk)(fs:List Str)(vs:List V):Prop:=match dd with
 |none=>fs=[]/\vs=[]
 |some dx=>fs.length=vs.length/\G dx=O (.ext (XD dx (fs.zip vs)))
theorem XFs.mono{G G1:Hp}{dd:Bk}{fs:List Str}{vs:List V}(e:Same G G1)(h:XFs G dd fs vs):XFs G1 dd fs vs:=by
 cases dd with
 |none=>exact h
 |some dx=>exact⟨h.1,e _ _ h.2⟩
noncomputable def kD:Key->D
 |.inl i=>.int i
 |.inr x=>.str x
noncomputable def tkD(k:Bh):D:=.tuple (k.map kD)
noncomputable def pdD(ks:List Bh)(ds:C7):List (D×D):=(.bool C5,.none)::(ks.map tkD).zip ds
mutual
inductive Rep(K:Frag)(G:Hp):V->D->Prop where
 |non:Rep K G .non .none
 |bl (b:Bool):Rep K G (.bl b) (.bool b)
 |int (i:Int):Rep K G (.int i) (.int i)
 |str (x:Str):Rep K G (.str x) (.str x)
 |lst {a:Uc} {vs:List V} {ds:C7} (h:SqL K G a vs) (r:Reps K G vs ds):Rep K G (.ref a) (.list ds)
 |tup {a:Uc} {vs:List V} {ds:C7} (h:SqT K G a vs) (r:Reps K G vs ds):Rep K G (.ref a) (.tuple ds)
 |dic {a:Uc} (h:G a=O (.dK [])):Rep K G (.ref a) (.dict [])
 |exc {a C:Uc} {dd:Bk} {bm:C9} {nm:Str} {vs:List V} {ds:C7} (c:ClsK K nm C bm) (h:G a=O (.ext (XO C6 a C dd))) (hd:XFs G dd (Mk nm) vs) (r:Reps K G vs ds):Rep K G (.ref a) (.dict [(.none,.tuple [.str nm,.list ds])])
 |dct {a:Uc} {ks:Bh} {vs:List V} {ds:C7} {kvs:List (D×D)} (e:kvs=(ks.map kD).zip ds) (hne:ks≠[]) (hl:ks.length=ds.length) (h:G a=O (.dK (ks.zip vs))) (r:Reps K G vs ds):Rep K G (.ref a) (.dict kvs)
 |dtt {a:Uc} {o:Obj} {ks:List Bh} {vs:List V} {ds:C7} {kvs:List (D×D)} (e:kvs=pdD ks ds) (hl:ks.length=ds.length) (h:G a=O (.frz o (.dT (ks.zip vs)))) (r:Reps K G vs ds):Rep K G (.ref a) (.dict kvs)
inductive Reps(K:Frag)(G:Hp):List V->C7->Prop where
 |nil:Reps K G [] []
 |cons {v:V} {d:D} {vs:List V} {ds:C7} (h:Rep K G v d) (t:Reps K G vs ds):Reps K G (v::vs) (d::ds)
end
variable{K:Frag}{B G0 G G1 G2 H H1 H2:Hp}
theorem ZB{a:Uc}{xs:List V}(e:Same G G1)(h:SqT K G a xs):SqT K G1 a xs:=by
 rcases h with (h|⟨o,h⟩)|h
 .exact .inl (.inl (e _ _ h))
 .exact .inl (.inr ⟨o,e _ _ h⟩)
 .exact .inr h
theorem Rep.mono(e:Same G G1){v:V}{d:D}(r:Rep K G v d):Rep K G1 v d:=Rep.rec (motive_1:=λv d _=>Rep K G1 v d) (motive_2:=λvs ds _=>Reps K G1 vs ds) .non .bl .int .str (λh _ r=>.lst (e.seq h) r) (λh _ r=>.tup (ZB e h) r) (λh=>.dic (e _ _ h)) (λc h hd _ r=>.exc c (e _ _ h) (hd.mono e) r) (λz n l h _ r=>.dct z n l (e _ _ h) r) (λz l h _ r=>.dtt z l (e _ _ h) r) .nil (λ_ _=>.cons) r
theorem Reps.mono(e:Same G G1){vs:List V}{ds:C7}(r:Reps K G vs ds):Reps K G1 vs ds:=Reps.rec (motive_1:=λv d _=>Rep K G1 v d) (motive_2:=λvs ds _=>Reps K G1 vs ds) .non .bl .int .str (λh _ r=>.lst (e.seq h) r) (λh _ r=>.tup (ZB e h) r) (λh=>.dic (e _ _ h)) (λc h hd _ r=>.exc c (e _ _ h) (hd.mono e) r) (λz n l h _ r=>.dct z n l (e _ _ h) r) (λz l h _ r=>.dtt z l (e _ _ h) r) .nil (λ_ _=>.cons) r
section
variable{v:V}{vs ws:List V}{ds es:C7}
theorem Rep.bl_inv{b:Bool}(h:Rep K G v (.bool b)):v=.bl b:=by cases h;rfl
theorem Rep.int_inv{i:Int}(h:Rep K G v (.int i)):v=.int i:=by cases h;rfl
theorem Rep.str_inv{x:Str}(h:Rep K G v (.str x)):v=.str x:=by cases h;rfl
theorem Rep.lst_inv(h:Rep K G v (.list ds)):∃a vs,v=.ref a/\SqL K G a vs/\Reps K G vs ds:=by
 cases h with
 |lst h r=>exact⟨_,_,rfl,h,r⟩
theorem Rep.tup_inv(h:Rep K G v (.tuple ds)):∃a vs,v=.ref a/\SqT K G a vs/\Reps K G vs ds:=by
 cases h with
 |tup h r=>exact⟨_,_,rfl,h,r⟩
theorem Reps.length:∀{vs:List V}{ds:C7},Reps K G vs ds->vs.length=ds.length
 |_,_,.nil=>rfl
 |_,_,.cons _ t=>by rw[Qz,Qz,Reps.length t]
theorem Reps.get:∀{vs:List V}{ds:C7}{i:Nat}{d:D},Reps K G vs ds->ds[i]?=O d->∃v,vs[i]?=O v/\Rep K G v d
 |_,_,_,_,.nil,e=>by simp at e
 |_,_,0,_,.cons h _,e=>by simp at e;subst e;exact⟨_,rfl,h⟩
 |_,_,i+1,d,.cons _ t,e=>by obtain⟨u,h1,h2⟩:=Reps.get (i:=i) (d:=d) t (by simpa using e);exact⟨u,by simpa using h1,h2⟩
theorem Reps.append:∀{vs ws:List V}{ds es:C7},Reps K G vs ds->Reps K G ws es->Reps K G (vs++ws) (ds++es)
 |_,_,_,_,.nil,s=>s
 |_,_,_,_,.cons r t,s=>.cons r (Reps.append t s)
theorem Reps.take:∀{vs:List V}{ds:C7}(n:Nat),Reps K G vs ds->Reps K G (vs.take n) (ds.take n)
 |_,_,0,_=>by rw[JO,JO];exact .nil
 |_,_,_+1,.nil=>.nil
 |_,_,n+1,.cons r t=>.cons r (Reps.take n t)
theorem Reps.drop:∀{vs:List V}{ds:C7}(n:Nat),Reps K G vs ds->Reps K G (vs.drop n) (ds.drop n)
 |_,_,0,r=>r
 |_,_,_+1,.nil=>.nil
 |_,_,n+1,.cons _ t=>Reps.drop n t
theorem Reps.reverse:∀{vs:List V}{ds:C7},Reps K G vs ds->Reps K G vs.reverse ds.reverse
 |_,_,.nil=>.nil
 |_,_,.cons r t=>by rw[List.reverse_cons,List.reverse_cons];exact Reps.append (Reps.reverse t) (.cons r .nil)
theorem Reps.set{v:V}{d:D}(r:Rep K G v d):∀{vs:List V}{ds:C7}(i:Nat),Reps K G vs ds->Reps K G (vs.set i v) (ds.set i d)
 |_,_,_,.nil=>.nil
 |_,_,0,.cons _ t=>.cons r t
 |_,_,i+1,.cons q t=>.cons q (Reps.set r i t)
theorem Reps.ints:∀(ns:C8),Reps K G (ns.map V.int) (ns.map int)
 |[]=>.nil
 |n::ns=>.cons (.int n) (Reps.ints ns)
end
inductive MO where
 |l (vs:List V)|k (kvs:List (Key×V))|t (kvs:List (Bh×V))|s (S:Int->Bool) (n:Nat)
noncomputable def MO.ho:MO->HO
 |.l vs=>.lst vs
 |.k kvs=>.dK kvs
 |.t kvs=>.dT kvs
 |.s S n=>.set S n
structure Ext(G H G' H':Hp):Prop where
 h:Same H H'
 g:Same G G'
 gh:Same G' H'
 np:∀a(u:MO),H a=O u.ho->G a=C4->G' a=C4
theorem Ext.refl(e:Same G H):Ext G H G H:=⟨.refl _,.refl _,e,λ_ _ _ q=>q⟩
theorem KB{p:Uc}{o:HO}(h:H p=C4):Same H (upd H p o):=λb u e=>by rw[US (KO e h)];exact e
theorem Ext.new{p:Uc}{o:HO}(e:Same G H)(h:H p=C4):Ext G H (upd G p o) (upd H p o):=by
 have hg:G p=C4:=e.free h;refine⟨KB h,KB hg,λb u q=>?_,λa u q n=>?_⟩
 .by_cases z:b=p
  .subst z;rw[Kd]at q⊢;exact q
  .rw[US z]at q⊢;exact e b u q
 .rw[US (KO q h)];exact n
theorem Ext.hid{p:Uc}{o:HO}(e:Same G H)(h:H p=C4):Ext G H G (upd H p o):=
 ⟨KB h,.refl _,e.trans (KB h),λ_ _ _ n=>n⟩
inductive Pat where
 |leaf|lst (p:Pat)|tup (ps:List Pat)|dic
mutual
inductive RepO(K:Frag)(G H:Hp):Pat->V->D->Be->Prop where
 |leaf {v:V} {d:D} (r:Rep K G v d):RepO K G H .leaf v d []
 |lst {p:Pat} {a:Uc} {vs:List V} {ds:C7} {fp:Be} (h:H a=O (.lst vs)) (r:RepOl K G H p vs ds fp):RepO K G H (.lst p) (.ref a) (.list ds) (a::fp)
 |tup {ps:List Pat} {a:Uc} {vs:List V} {ds:C7} {fp:Be} (h:H a=O (.tup vs)) (r:RepOs K G H ps vs ds fp):RepO K G H (.tup ps) (.ref a) (.tuple ds) fp
 |dic {a:Uc} {ks:Bh} {vs:List V} {ds:C7} {kvs:List (D×D)} (e:kvs=(ks.map kD).zip ds) (hl:ks.length=ds.length) (h:H a=O (.dK (ks.zip vs))) (r:Reps K G vs ds):RepO K G H .dic (.ref a) (.dict kvs) [a]
inductive RepOl(K:Frag)(G H:Hp):Pat->List V->C7->Be->Prop where
 |nil {p:Pat}:RepOl K G H p [] [] []
 |cons {p:Pat} {v:V} {d:D} {vs:List V} {ds:C7} {f1 f2:Be} (h:RepO K G H p v d f1) (t:RepOl K G H p vs ds f2):RepOl K G H p (v::vs) (d::ds) (f1++f2)
inductive RepOs(K:Frag)(G H:Hp):List Pat->List V->C7->Be->Prop where
 |nil:RepOs K G H [] [] [] []
 |cons {p:Pat} {ps:List Pat} {v:V} {d:D} {vs:List V} {ds:C7} {f1 f2:Be} (h:RepO K G H p v d f1) (t:RepOs K G H ps vs ds f2):RepOs K G H (p::ps) (v::vs) (d::ds) (f1++f2)
end
def Zm(K:Frag)(G H:Hp)(M1:Pat->V->D->Be->Prop)(M2:Pat->List V->C7->Be->Prop)(M3:List Pat->List V->C7->Be->Prop):Prop:=
 (∀{p v d fp},RepO K G H p v d fp->M1 p v d fp)/\(∀{p vs ds fp},RepOl K G H p vs ds fp->M2 p vs ds fp)/\∀{ps vs ds fp},RepOs K G H ps vs ds fp->M3 ps vs ds fp
theorem RepO.ind3{M1:Pat->V->D->Be->Prop}{M2:Pat->List V->C7->Be->Prop}{M3:List Pat->List V->C7->Be->Prop}
  (c1:∀{v d},Rep K G v d->M1 .leaf v d []) (c2:∀{p a vs ds fp},H a=O (.lst vs)->M2 p vs ds fp->M1 (.lst p) (.ref a) (.list ds) (a::fp)) (c3:∀{ps a vs ds fp},H a=O (.tup vs)->M3 ps vs ds fp->M1 (.tup ps) (.ref a) (.tuple ds) fp)
  (c4:∀{a:Uc}{ks:Bh}{vs:List V}{ds:C7}{kvs:List (D×D)},kvs=(ks.map kD).zip ds->ks.length=ds.length->H a=O (.dK (ks.zip vs))->Reps K G vs ds->M1 .dic (.ref a) (.dict kvs) [a])
  (c5:∀{p},M2 p [] [] []) (c6:∀{p v d vs ds f1 f2},M1 p v d f1->M2 p vs ds f2->M2 p (v::vs) (d::ds) (f1++f2)) (c7:M3 [] [] [] []) (c8:∀{p ps v d vs ds f1 f2},M1 p v d f1->M3 ps vs ds f2->M3 (p::ps) (v::vs) (d::ds) (f1++f2)) :
  Zm K G H M1 M2 M3:=
 ⟨λh=>RepO.rec (motive_1:=λp v d fp _=>M1 p v d fp) (motive_2:=λp v d fp _=>M2 p v d fp) (motive_3:=λp v d fp _=>M3 p v d fp) c1 (λh _=>c2 h) (λh _=>c3 h) c4 c5 (λ_ _=>c6) c7 (λ_ _=>c8) h,
  λh=>RepOl.rec (motive_1:=λp v d fp _=>M1 p v d fp) (motive_2:=λp v d fp _=>M2 p v d fp) (motive_3:=λp v d fp _=>M3 p v d fp) c1 (λh _=>c2 h) (λh _=>c3 h) c4 c5 (λ_ _=>c6) c7 (λ_ _=>c8) h,
  λh=>RepOs.rec (motive_1:=λp v d fp _=>M1 p v d fp) (motive_2:=λp v d fp _=>M2 p v d fp) (motive_3:=λp v d fp _=>M3 p v d fp) c1 (λh _=>c2 h) (λh _=>c3 h) c4 c5 (λ_ _=>c6) c7 (λ_ _=>c8) h⟩
theorem RepO.mono3(sg:Same G G1)(sh:Same H H1):Zm K G H (RepO K G1 H1) (RepOl K G1 H1) (RepOs K G1 H1):=
 RepO.ind3 (λr=>.leaf (r.mono sg)) (λh r=>.lst (sh _ _ h) r) (λh r=>.tup (sh _ _ h) r) (λe hl h r=>.dic e hl (sh _ _ h) (r.mono sg)) .nil .cons .nil .cons
theorem RepO.mono(sg:Same G G1)(sh:Same H H1){p:Pat}{v:V}{d:D}{fp:Be}(r:RepO K G H p v d fp):RepO K G1 H1 p v d fp:=(RepO.mono3 sg sh).1 r
theorem RepO.upd3{a:Uc}{o:HO}(nt:∀vs,H a≠O (.tup vs)):Zm K G H (λp v d fp=>a∉fp->RepO K G (upd H a o) p v d fp) (λp v d fp=>a∉fp->RepOl K G (upd H a o) p v d fp) (λp v d fp=>a∉fp->RepOs K G (upd H a o) p v d fp):=
 RepO.ind3
 (λr _=>.leaf r) (λh r n=>.lst (by rw[US (λz=>n (by rw[z];exact Qh))];exact h) (r λz=>n (Qm _ z))) (λh r n=>.tup (by rw[US (λz=>by subst z;exact nt _ h)];exact h) (r n))
 (λe hl h r n=>.dic e hl (by rw[US (λz=>n (by rw[z];exact Qh))];exact h) r) (λ_=>.nil) (λh t n=>.cons (h λz=>n (QI _ z)) (t λz=>n (Qr _ z))) (λ_=>.nil) (λh t n=>.cons (h λz=>n (QI _ z)) (t λz=>n (Qr _ z)))
theorem RepO.upd{a:Uc}{o:HO}(nt:∀vs,H a≠O (.tup vs)){p:Pat}{v:V}{d:D}{fp:Be}(r:RepO K G H p v d fp)(n:a∉fp):RepO K G (upd H a o) p v d fp:=(RepO.upd3 nt).1 r n
theorem RepOl.upd{a:Uc}{o:HO}(nt:∀vs,H a≠O (.tup vs)){p:Pat}{v:List V}{d:C7}{fp:Be}(r:RepOl K G H p v d fp)(n:a∉fp):RepOl K G (upd H a o) p v d fp:=(RepO.upd3 nt).2.1 r n
theorem RepO.rep3(gh:Same G H):Zm K G H (λ_ v d _=>Rep K H v d) (λ_ v d _=>Reps K H v d) (λ_ v d _=>Reps K H v d):=
 RepO.ind3 (λr=>r.mono gh) (λh r=>.lst (SqL.of h) r) (λh r=>.tup (SqT.of h) r)
 (λ{a ks vs ds kvs} e hl h r=>by
  cases ks with
  |nil=>subst e;exact .dic h
  |cons k ks=>exact .dct e (λz=>by cases z) hl h (r.mono gh)) .nil .cons .nil .cons
theorem RepO.rep(gh:Same G H){p:Pat}{v:V}{d:D}{fp:Be}(r:RepO K G H p v d fp):Rep K H v d:=(RepO.rep3 gh).1 r
theorem RepO.isl3:Zm K G H (λ_ _ _ fp=>∀a∈fp,∃u:MO,H a=O u.ho) (λ_ _ _ fp=>∀a∈fp,∃u:MO,H a=O u.ho) (λ_ _ _ fp=>∀a∈fp,∃u:MO,H a=O u.ho):=
 RepO.ind3 (λ_ a m=>by cases m)
 (λh r b m=>(QM.mp m).elim (λe=>⟨.l _,e ▸ h⟩) (r b)) (λ_ r=>r) (λ_ _ h _ b m=>⟨.k _,Qw.mp m ▸ h⟩) (λa m=>by cases m) (λh t b m=>(QF.mp m).elim (h b) (t b)) (λa m=>by cases m) (λh t b m=>(QF.mp m).elim (h b) (t b))
theorem RepO.isl{p:Pat}{v:V}{d:D}{fp:Be}(r:RepO K G H p v d fp):∀a∈fp,∃u:MO,H a=O u.ho:=RepO.isl3.1 r
theorem RepO.uniq3(sh:Same H H1):Zm K G H (λp v _ fp=>∀d' fp',RepO K G1 H1 p v d' fp'->fp=fp') (λp v _ fp=>∀d' fp',RepOl K G1 H1 p v d' fp'->fp=fp') (λp v _ fp=>∀d' fp',RepOs K G1 H1 p v d' fp'->fp=fp'):=
 RepO.ind3
 (λ_ d' fp' h=>by cases h;rfl)
 (λh r d' fp' h'=>by
  cases h' with
  |lst h2 r2=>have e:=sh _ _ h;rw[h2]at e;cases e;rw[r _ _ r2])
 (λh r d' fp' h'=>by
  cases h' with
  |tup h2 r2=>have e:=sh _ _ h;rw[h2]at e;cases e;exact r _ _ r2)
 (λ_ _ _ _ d' fp' h=>by cases h;rfl) (λd' fp' h=>by cases h;rfl)
 (λh t d' fp' h'=>by
  cases h' with
  |cons h2 t2=>rw[h _ _ h2,t _ _ t2])
 (λd' fp' h=>by cases h;rfl)
 (λh t d' fp' h'=>by
  cases h' with
  |cons h2 t2=>rw[h _ _ h2,t _ _ t2])
theorem RepO.uniq(sh:Same H H1){p:Pat}{v:V}{d d':D}{fp fp':Be}(r:RepO K G H p v d fp)(r':RepO K G1 H1 p v d' fp'):fp=fp':=(RepO.uniq3 sh).1 r _ _ r'
inductive Sl where
 |pub (d:D)|own (ds:C7)|deep (p:Pat) (d:D)
abbrev UA:=List (Option Sl)
abbrev Bg:=Option UA
def DpOk(K:Frag)(B G H:Hp)(σ:St)(ρ:UA):Prop:=∃ω:Uc->Nat,
 (∀(i:Nat) p d,ρ[i]?=O (O (.deep p d))->∃v fp,σ[i]?=O (O v)/\RepO K G H p v d fp/\fp.Nodup/\∀a∈fp,B a=C4/\G a=C4/\ω a=i) /\
 (∀(i:Nat) ds a,ρ[i]?=O (O (.own ds))->σ[i]?=O (O (.ref a))->ω a=i)
theorem DpOk.of{σ:St}{ρ:UA}(h1:∀(i:Nat) p d,ρ[i]?=O (O (.deep p d))->False)(h2:∀(i:Nat) ds,ρ[i]?=O (O (.own ds))->False):DpOk K B G H σ ρ:=
 ⟨λ_=>0,λi p d q=>(h1 i p d q).elim,λi ds a q=>(h2 i ds q).elim⟩
theorem DpOk.map{B1:Hp}{σ σ1:St}{ρ ρ1:UA}(k:DpOk K B G H σ ρ)
  (h1:∀(i:Nat) p d,ρ1[i]?=O (O (.deep p d))->ρ[i]?=O (O (.deep p d))/\σ1[i]?=σ[i]?)
  (h2:∀(i:Nat) ds,ρ1[i]?=O (O (.own ds))->∃es,ρ[i]?=O (O (.own es))/\σ1[i]?=σ[i]?)
  (h3:∀(i:Nat) p d v fp,ρ[i]?=O (O (.deep p d))->σ[i]?=O (O v)->RepO K G H p v d fp->(∀a∈fp,B a=C4/\G a=C4)->(∀(j:Nat) ds a,ρ[j]?=O (O (.own ds))->σ[j]?=O (O (.ref a))->a∉fp)->RepO K G1 H1 p v d fp/\∀a∈fp,B1 a=C4/\G1 a=C4):DpOk K B1 G1 H1 σ1 ρ1:=by
 obtain⟨ω,k1,k2⟩:=k;refine⟨ω,λi p d q=>?_,λi ds a q s=>?_⟩
 .obtain⟨q1,e1⟩:=h1 i p d q
  obtain⟨v,fp,s,r,n,w⟩:=k1 i p d q1;obtain⟨r1,w1⟩:=h3 i p d v fp q1 s r (λa m=>⟨(w a m).1,(w a m).2.1⟩) λj ds a qj sj m=>by have z1:=k2 j ds a qj sj;have z2:=(w a m).2.2;rw[z1]at z2;subst z2;rw[q1]at qj;cases qj
  exact⟨v,fp,by rw[e1];exact s,r1,n,λa m=>⟨(w1 a m).1,(w1 a m).2,(w a m).2.2⟩⟩
 .obtain⟨es,q1,e1⟩:=h2 i ds q
  rw[e1]at s;exact k2 i es a q1 s
structure EOk(K:Frag)(B G0 G H:Hp)(σ:St)(ρ:UA):Prop where
 bh:Same B H
 gh:Same G H
 g0:Same G0 G
 np:∀a(u:MO),B a=O u.ho->G0 a=C4->G a=C4
 len:ρ.length=σ.length
 pub:∀(i:Nat) d,ρ[i]?=O (O (.pub d))->∃v,σ[i]?=O (O v)/\Rep K G v d
 own:∀(i:Nat) ds,ρ[i]?=O (O (.own ds))->∃a vs,σ[i]?=O (O (.ref a))/\B a=C4/\G a=C4/\H a=O (.lst vs)/\Reps K G vs ds
 sep:∀(i j:Nat) a ds es,ρ[i]?=O (O (.own ds))->ρ[j]?=O (O (.own es))->σ[i]?=O (O (.ref a))->σ[j]?=O (O (.ref a))->i=j
 dp:DpOk K B G H σ ρ
theorem EOk.ext{G' H':Hp}{σ:St}{ρ:UA}(k:EOk K B G0 G H σ ρ)(e:Ext G H G' H'):EOk K B G0 G' H' σ ρ where
 bh:=k.bh.trans e.h
 gh:=e.gh
 g0:=k.g0.trans e.g
 np:=λa o q n=>e.np a o (k.bh a _ q) (k.np a o q n)
 len:=k.len
 pub:=λi d q=>let ⟨v,h1,h2⟩:=k.pub i d q;⟨v,h1,h2.mono e.g⟩
 own:=λi ds q=>let ⟨a,vs,h1,h2,h3,h4,h5⟩:=k.own i ds q;⟨a,vs,h1,h2,e.np a (.l _) h4 h3,e.h a _ h4,h5.mono e.g⟩
 sep:=k.sep
 dp:=k.dp.map (λ_ _ _ q=>⟨q,rfl⟩) (λ_ ds q=>⟨ds,q,rfl⟩) λi p d v fp q s r w n=>⟨r.mono e.g e.h,λa m=>let ⟨_,hl⟩:=r.isl a m;⟨(w a m).1,e.np a _ hl (w a m).2⟩⟩
theorem EOk.publish{σ:St}{ρ:UA}{i:Nat}{ds:C7}(k:EOk K B G0 G H σ ρ)(h:ρ[i]?=O (O (.own ds))) :
  ∃a G',σ[i]?=O (O (.ref a))/\Same G G'/\Rep K G' (.ref a) (.list ds)/\EOk K B G0 G' H σ (ρ.set i (O (.pub (.list ds)))):=by
 obtain⟨a,vs,h1,h2,h3,h4,h5⟩:=k.own i ds h;have sg:Same G (upd G a (.lst vs)):=KB h3;have hr:Rep K (upd G a (.lst vs)) (.ref a) (.list ds):=.lst (SqL.of Kd) (h5.mono sg);refine⟨a,upd G a (.lst vs),h1,sg,hr,⟨k.bh,λb u q=>?_,k.g0.trans sg,λb o q n=>?_,by rw[QH];exact k.len,λj d q=>?_,λj es q=>?_,λj l c es fs q1 q2 s1 s2=>?_,?_⟩⟩
 .by_cases z:b=a
  .subst z;rw[Kd]at q;cases q;exact h4
  .rw[US z]at q;exact k.gh b u q
 .have z:b≠a:=λz=>by subst z;rw[h2]at q;cases q
  rw[US z];exact k.np b o q n
 .by_cases z:i=j
  .subst z
   have hl:i<ρ.length:=(Qg.mp h).1;rw[QD hl]at q;cases q;exact⟨.ref a,h1,hr⟩
  .rw[Qf z]at q
   obtain⟨v,g1,g2⟩:=k.pub j d q;exact⟨v,g1,g2.mono sg⟩
 .by_cases z:i=j
  .subst z
   have hl:i<ρ.length:=(Qg.mp h).1;rw[QD hl]at q;cases q
  .rw[Qf z]at q
   obtain⟨b,ws,g1,g2,g3,g4,g5⟩:=k.own j es q;have zb:b≠a:=λe=>z (k.sep i j a ds es h q h1 (by rw[←e];exact g1))
   exact⟨b,ws,g1,g2,by rw[US zb];exact g3,g4,g5.mono sg⟩
 .have nz:∀{m:Nat}{ts:C7},(ρ.set i (O (Sl.pub (.list ds))))[m]?=O (O (.own ts))->ρ[m]?=O (O (.own ts)):=λ{m ts} q=>by
   by_cases z:i=m
   .subst z
    have hl:i<ρ.length:=(Qg.mp h).1;rw[QD hl]at q;cases q
   .rw[Qf z]at q;exact q
  exact k.sep j l c es fs (nz q1) (nz q2) s1 s2
 .have hl:i<ρ.length:=(Qg.mp h).1
  have nz:∀{m:Nat}{s:Sl},(ρ.set i (O (Sl.pub (.list ds))))[m]?=O (O s)->(∃d,s=.pub d)∨ρ[m]?=O (O s):=λ{m s} q=>by
   by_cases z:i=m
   .subst z
    rw[QD hl]at q;cases q;exact .inl ⟨_,rfl⟩
   .rw[Qf z]at q;exact .inr q
  refine k.dp.map (λm p d q=>?_) (λm es q=>?_) λm p d v fp q s r w n=>⟨r.mono sg (.refl _),λb mb=>⟨(w b mb).1,?_⟩⟩
  .rcases nz q with ⟨_,e⟩|q
   .cases e
   .exact⟨q,rfl⟩
  .rcases nz q with ⟨_,e⟩|q
   .cases e
   .exact⟨es,q,rfl⟩
  .rw[US (λz=>by subst z;exact n i ds b h h1 mb)];exact(w b mb).2
inductive Res(α:Type) where
 |ok (a:α) (ρ:UA)|bad
noncomputable abbrev M(α:Type):=UA->Res α
noncomputable def UE{α:Type}(a:α):M α:=λρ=>.ok a ρ
noncomputable def UN{α:Type}(o:Option α):M α:=λρ=>match o with|some a=>.ok a ρ|none=>.bad
noncomputable def UM{α β:Type}(f:M α)(k:α->M β):M β:=λρ=>match f ρ with | .ok a ρ'=>k a ρ' | .bad=>.bad
section
variable(K:Frag)(B G0:Hp)
def aft{α γ:Type}(R:Hp->γ->α->Prop)(r:Res α)(G:Hp)(σ:St)(Q:γ->Hp->Prop):Prop:=
 match r with
 |.ok d ρ'=>∀v G' H',EOk K B G0 G' H' σ ρ'->Same G G'->R G' v d->Q v H'
 |.bad=>False
noncomputable def tM{α γ:Type}(R:Hp->γ->α->Prop)(f:M α):St->Hp->(γ->Hp->Prop)->Prop:=λσ H Q=>
 ∃G ρ,EOk K B G0 G H σ ρ/\aft K B G0 R (f ρ) G σ Q
noncomputable abbrev tD(f:M D):TE:=tM K B G0 (Rep K) f
noncomputable abbrev tDs(f:M C7):TA:=tM K B G0 (Reps K) f
noncomputable abbrev tBo(f:M Bool):TT:=tM K B G0 (λ_ b c=>b=c) f
noncomputable abbrev tOi(f:M Bf):TO:=tM K B G0 (λ_ b c=>b=c) f
end
section
variable{K:Frag}{B G0:Hp}{α β γ δ ε:Type}{R:Hp->γ->α->Prop}{S:Hp->δ->β->Prop}{T:Hp->ε->α->Prop}{σ:St}{H:Hp}
theorem aft.mono{r:Res α}{G G':Hp}{Q:γ->Hp->Prop}(e:Same G G')(h:aft K B G0 R r G σ Q):aft K B G0 R r G' σ Q:=by
 cases r with
 |ok d ρ=>exact λv G2 H2 k s q=>h v G2 H2 k (e.trans s) q
 |bad=>exact h
theorem aft.done{d:α}{ρ:UA}{G G' H H':Hp}{v:γ}{Q:γ->Hp->Prop}(h:aft K B G0 R (.ok d ρ) G σ Q)(k:EOk K B G0 G H σ ρ)(e:Ext G H G' H')(r:R G' v d):Q v H':=
 h v G' H' (k.ext e) e.g r
theorem aft.now{d:α}{ρ:UA}{G H:Hp}{v:γ}{Q:γ->Hp->Prop}(h:aft K B G0 R (.ok d ρ) G σ Q)(k:EOk K B G0 G H σ ρ)(r:R G v d):Q v H:=
 h v G H k (.refl _) r
theorem aft.opt{o:Option α}{ρ:UA}{G:Hp}{Q:γ->Hp->Prop}(h:aft K B G0 R (UN o ρ) G σ Q):∃d,o=O d/\aft K B G0 R (.ok d ρ) G σ Q:=by
 cases o with
 |none=>exact h.elim
 |some d=>exact⟨d,rfl,h⟩
theorem tM.bind{f:M α}{k:α->M β}{Q:δ->Hp->Prop}(h:tM K B G0 S (UM f k) σ H Q) :
  tM K B G0 R f σ H (λv H1=>∃G ρ d,EOk K B G0 G H1 σ ρ/\R G v d/\aft K B G0 S (k d ρ) G σ Q):=by
 obtain⟨G,ρ,e,a⟩:=h;refine⟨G,ρ,e,?_⟩;unfold UM at a;cases q:f ρ with
 |bad=>rw[q]at a;exact a.elim
 |ok d ρ1=>rw[q]at a;exact λv G' H' e' s r=>⟨G',ρ1,d,e',r,aft.mono s a⟩
theorem tM.bind2{α' γ':Type}{R':Hp->γ'->α'->Prop}{f:M α}{g:α->M α'}{k:α->α'->M β}{Q:δ->Hp->Prop}(mo:∀G G' v d,Same G G'->R G v d->R G' v d)
  (h:tM K B G0 S (UM f λx=>UM (g x) λy=>k x y) σ H Q) :
  tM K B G0 R f σ H (λv H1=>∃x,tM K B G0 R' (g x) σ H1 λu H2=>∃G ρ y,EOk K B G0 G H2 σ ρ/\R G v x/\R' G u y/\aft K B G0 S (k x y ρ) G σ Q):=by
 obtain⟨G,ρ,e,a⟩:=tM.bind (R:=R) h;refine⟨G,ρ,e,?_⟩;cases q:f ρ with
 |bad=>rw[q]at a;exact a.elim
 |ok d ρ1=>
  rw[q]at a;intro v G' H' e' s r;obtain⟨G2,ρ2,d2,e2,r2,a2⟩:=a v G' H' e' s r;refine⟨d2,G2,ρ2,e2,?_⟩;unfold UM at a2;cases q2:g d2 ρ2 with
  |bad=>rw[q2]at a2;exact a2.elim
  |ok d3 ρ3=>rw[q2]at a2;exact λu G3 H3 e3 s3 r3=>⟨G3,ρ3,d3,e3,mo _ _ _ _ s3 r2,r3,aft.mono s3 a2⟩
end
theorem Pt{K:Frag}(G G':Hp)(v:V)(d:D)(e:Same G G')(r:Rep K G v d):Rep K G' v d:=r.mono e
theorem tM.two{K:Frag}{B G0:Hp}{β δ:Type}{S:Hp->δ->β->Prop}{σ:St}{H:Hp}{f g:M D}{k:D->D->M β}{Q:δ->Hp->Prop}{P:V->V->Hp->Prop}
  (h:tM K B G0 S (UM f λx=>UM g λy=>k x y) σ H Q)
  (i:∀v u H2 G ρ x y,EOk K B G0 G H2 σ ρ->Rep K G v x->Rep K G u y->aft K B G0 S (k x y ρ) G σ Q->P v u H2) :
  tD K B G0 f σ H (λv H1=>tD K B G0 g σ H1 λu H2=>P v u H2):=by
 obtain⟨G,ρ,e,a⟩:=tM.bind2 (R:=Rep K) (R':=Rep K) Pt h;refine⟨G,ρ,e,?_⟩;cases q:f ρ with
 |bad=>rw[q]at a;exact a.elim
 |ok d ρ1=>
  rw[q]at a;intro v G' H' e' s r;obtain⟨x,G2,ρ2,e2,a2⟩:=a v G' H' e' s r;refine⟨G2,ρ2,e2,?_⟩;cases q2:g ρ2 with
  |bad=>rw[q2]at a2;exact a2.elim
  |ok d3 ρ3=>rw[q2]at a2;intro u G3 H3 e3 s3 r3;obtain⟨G4,ρ4,y,e4,r4,r5,a5⟩:=a2 u G3 H3 e3 s3 r3;exact i v u H3 G4 ρ4 x y e4 r4 r5 a5
theorem tM.one{K:Frag}{B G0:Hp}{α β γ δ:Type}{R:Hp->γ->α->Prop}{S:Hp->δ->β->Prop}{σ:St}{H:Hp}{f:M α}{k:α->M β}{Q:δ->Hp->Prop}{P:γ->Hp->Prop}
  (h:tM K B G0 S (UM f k) σ H Q) (i:∀v H2 G ρ x,EOk K B G0 G H2 σ ρ->R G v x->aft K B G0 S (k x ρ) G σ Q->P v H2):tM K B G0 R f σ H P:=by
 obtain⟨G,ρ,e,a⟩:=tM.bind (R:=R) h;refine⟨G,ρ,e,?_⟩;cases q:f ρ with
 |bad=>rw[q]at a;exact a.elim
 |ok d ρ1=>rw[q]at a;intro v G' H' e' s r;obtain⟨G2,ρ2,d2,e2,r2,a2⟩:=a v G' H' e' s r;exact i v H' G2 ρ2 d2 e2 r2 a2
section
variable{X:Cx}{B G0:Hp}{e a b:Ue}{pos:Pos}
theorem UR{t t':TE}(h:PE X e t)(i:∀σ H Q,t' σ H Q->t σ H Q):PE X e t':=λpins s σ H Q I q=>h pins s σ H Q I (i σ H Q q)
theorem Ze{t t':TT}(h:PT X e t)(i:∀σ H Q,t' σ H Q->t σ H Q):PT X e t':=λpins s σ H Q I q=>h pins s σ H Q I (i σ H Q q)
theorem paof{es:Ba}{t t':TA}(h:PA X es t)(i:∀σ H Q,t' σ H Q->t σ H Q):PA X es t':=λps pins s σ H Q I q=>h ps pins s σ H Q I (i σ H Q q)
theorem poof{eo:Option Ue}{t t':TO}(h:PO X eo t)(i:∀σ H Q,t' σ H Q->t σ H Q):PO X eo t':=λpins s σ H Q I q=>h pins s σ H Q I (i σ H Q q)
theorem Kf{st:Stmt}{t t':TS}(h:PS X st t)(i:∀D σ H,t' D σ H->t D σ H):PS X st t':=λpins s σ H D I q=>h pins s σ H D I (i D σ H q)
theorem Xs{st:List Stmt}{t t':TS}(h:PSs X st t)(i:∀D σ H,t' D σ H->t D σ H):PSs X st t':=λpins s σ H D I q=>h pins s σ H D I (i D σ H q)
noncomputable def Uz(i:Nat):M D:=λρ=>match ρ[i]? with
 |some (O (.pub d))=>.ok d ρ
 |some (O (.own ds))=>.ok (.list ds) (ρ.set i (O (.pub (.list ds))))
 |_=>.bad
theorem RM{i:Nat}(h:PE X e (U2 i)):PE X e (tD X.K B G0 (Uz i)):=UR h λσ H Q ⟨G,ρ,k,a⟩=>by
 unfold Uz at a;cases q:ρ[i]? with
 |none=>rw[q]at a;exact a.elim
 |some o=>
  cases o with
  |none=>rw[q]at a;exact a.elim
  |some sl=>
   cases sl with
   |deep _ _=>rw[q]at a;exact a.elim
   |pub d=>rw[q]at a;obtain⟨v,h1,h2⟩:=k.pub i d q;exact⟨v,h1,a.now k h2⟩
   |own ds=>rw[q]at a;obtain⟨ad,G',h1,h2,h3,h4⟩:=k.publish q;exact⟨.ref ad,h1,a (.ref ad) G' H h4 h2 h3⟩
theorem T6{v:V}{d:D}(h:PE X e (tC v))(r:∀G,Rep X.K G v d):PE X e (tD X.K B G0 (UE d)):=UR h λσ H Q ⟨G,ρ,k,a⟩=>a.now k (r G)
theorem Hx{i:Int}{j}:PE X (.Constant (.int i) j pos) (tD X.K B G0 (UE (.int i))):=T6 Hs λ_=>.int i
theorem Fa{i:Bool}{j}:PE X (.Constant (.bool i) j pos) (tD X.K B G0 (UE (.bool i))):=T6 NV λ_=>.bl i
theorem GZ{j}:PE X (.Constant .none j pos) (tD X.K B G0 (UE .none)):=T6 RU λ_=>.non
noncomputable def UF{β:Type}(op:D->D->Option β)(f g:M D):M β:=UM f λx=>UM g λy=>UN (op x y)
def OpD(X:Cx)(f:J9->J9->Sem J9)(op:D->D->Bb):Prop:=
 ∃r:R2,OpR X f r/\∀v u G H x y d Q,Same G H->Rep X.K G v x->Rep X.K G u y->op x y=O d->(∀w G' H',Ext G H G' H'->Rep X.K G' w d->Q w H')->r v u H Q
theorem XQ{op:Operator}{p:D->D->Bb}{f g:M D}(o:OpD X (binaryOp op) p)(ha:PE X a (tD X.K B G0 f))(hb:PE X b (tD X.K B G0 g)):PE X (.BinOp a op b pos) (tD X.K B G0 (UF p f g)):=by
 obtain⟨r,h,i⟩:=o;refine UR (NK h ha hb) λσ H Q q=>?_;refine tM.two q λv u H2 G ρ x y k rx ry a=>?_
 obtain⟨d,e,a⟩:=a.opt;exact i v u G H2 x y d Q k.gh rx ry e λw G' H' ex rw=>a.done k ex rw
theorem OpD.or{f:J9->J9->Sem J9}{p q:D->D->Bb}(h:OpD X f p)(h':OpD X f q):OpD X f (λx y=>(p x y).orElse λ_=>q x y):=by
 obtain⟨r,h1,i1⟩:=h;obtain⟨r',h2,i2⟩:=h';refine⟨_,h1.or h2,λv u G H x y d Q s rx ry e k=>?_⟩;dsimp only at e;cases z:p x y with
 |some d'=>rw[z]at e;have e':d'=d:=Qu e;subst e';exact .inl (i1 v u G H x y d' Q s rx ry z k)
 |none=>rw[z]at e;exact .inr (i2 v u G H x y d Q s rx ry e k)
noncomputable def oII(g:Int->Int->Bb):D->D->Bb
 |.int i,.int j=>g i j
 |_,_=>C4
theorem Ps{g:Int->Int->Bb}{x y d:D}(e:oII g x y=O d):∃i j,x=.int i/\y=.int j/\g i j=O d:=by
 unfold oII at e;split at e
 .exact⟨_,_,rfl,rfl,e⟩
 .cases e
theorem OpD.int{f:J9->J9->Sem J9}{C:Int->Int->Prop}{g:Int->Int->V}{p:Int->Int->Bb}(h:OpR X f (rI C g))(i:∀i j d,p i j=O d->C i j/\∀G,Rep X.K G (g i j) d):OpD X f (oII p):=by refine⟨_,h,λv u G H x y d Q s rx ry e k=>?_⟩;obtain⟨a,b,rfl,rfl,e⟩:=Ps e;obtain⟨c,r⟩:=i a b d e;exact⟨a,b,rx.int_inv,ry.int_inv,c,k _ G H (.refl s) (r G)⟩
theorem OpD.int0{f:J9->J9->Sem J9}{g:Int->Int->V}{p:Int->Int->D}(h:OpR X f (rI0 g))(i:∀i j G,Rep X.K G (g i j) (p i j)):OpD X f (oII λi j=>O (p i j)):=by refine⟨_,h,λv u G H x y d Q s rx ry e k=>?_⟩;obtain⟨a,b,rfl,rfl,e⟩:=Ps e;cases e;exact⟨a,b,rx.int_inv,ry.int_inv,k _ G H (.refl s) (i a b G)⟩
end
section
variable{X:Cx}{B G0:Hp}{e a b c:Ue}{pos:Pos}
theorem Hw:OpD X (binaryOp .Add) (oII λi j=>O (.int (i+j))):=.int0 Hf λ_ _ _=>.int _
theorem Hv:OpD X (binaryOp .Sub) (oII λi j=>O (.int (i-j))):=.int0 He λ_ _ _=>.int _
noncomputable def Yx(i j:Int):Bb:=if(-(2 ^ 64)<i/\i<2 ^ 64)∨(-(2 ^ 64)<j/\j<2 ^ 64)then O (.int (i*j))else C4
theorem GY:OpD X (binaryOp .Mult) (oII Yx):=.int Hd λi j d h=>by
 unfold Yx at h;split at h
 .rename_i c
  cases h;exact⟨c,λ_=>.int _⟩
 .cases h
noncomputable def Xb(i j:Int):Bb:=if 0<j then O (.int (i % j))else C4
theorem M5:OpD X (binaryOp .Mod) (oII Xb):=.int Hc λi j d h=>by
 unfold Xb at h;split at h
 .rename_i c
  cases h;exact⟨c,λ_=>.int _⟩
 .cases h
theorem F0:OpR X (binaryOp .FloorDiv) (rI (λi j=>0<j/\j<2 ^ 64) λi j=>.int (i / j)):=opI λi j _ _ _ _ _ hc q=>by
 have h1:(0:Int)<j:=hc.1;have h2:j<2 ^ 64:=hc.2;refine floordiv_int (by lia) (by rw[Int.fdiv_eq_ediv_of_nonneg i (by lia)];exact q) (.inl (PyProof.noPylong_of_log2 ?_));have h0:j.natAbs≠0:=by lia
 have:j.natAbs.log2<64:=(Nat.log2_lt h0).mpr (by lia)
 lia
noncomputable def Xc(i j:Int):Bb:=if 0<j/\j<2 ^ 64 then O (.int (i / j))else C4
theorem M4:OpD X (binaryOp .FloorDiv) (oII Xc):=.int F0 λi j d h=>by
 unfold Xc at h;split at h
 .rename_i c
  cases h;exact⟨c,λ_=>.int _⟩
 .cases h
noncomputable def Xa(i j:Int):Bb:=if 0<=j/\j<=1000000/\i.natAbs<2 ^ 64 then O (.int (i ^ j.toNat))else C4
theorem M0:OpD X (binaryOp .Pow) (oII Xa):=.int Hb λi j d h=>by
 unfold Xa at h;split at h
 .rename_i c
  cases h;exact⟨c,λ_=>.int _⟩
 .cases h
theorem lim:(1000000:Nat)<=Uf:=by decide
noncomputable def VL:D->D->Bb
 |.str x,.str y=>if x.length+y.length<=1000000 then O (.str (x++y))else C4
 |_,_=>C4
theorem FE:OpD X (binaryOp .Add) VL:=by
 refine⟨_,DW,λv u G H x y d Q s rx ry e k=>?_⟩;unfold VL at e;split at e
 .split at e
  .rename_i c
   cases e;exact⟨_,_,rx.str_inv,ry.str_inv,Qy c lim,k _ G H (.refl s) (.str _)⟩
  .cases e
 .cases e
noncomputable def Mi(K:Frag):R2:=λx y H Q=>∃l b xs zs,x=.ref l/\y=.ref b/\SqL K H l xs/\SqL K H b zs/\xs.length+zs.length<=Uf/\∀p,H p=C4->Q (.ref p) (upd H p (.lst (xs++zs)))
theorem FD:OpR X (binaryOp .Add) (Mi X.K):=by
 intro pins s σ H x y v u Q I rx ry h;obtain⟨l,b,xs,zs,rfl,rfl,hH,hB,hz,q⟩:=h;cases rx;cases ry;obtain⟨its,r,⟨⟨c1,d1,t1,s1⟩,n1,e1,AG,AF,AE⟩,z1⟩:=I.list hH;obtain⟨its2,r2,⟨⟨c2,d2,t2,s2⟩,n2,e2,ec2,ed2,et2⟩,z2⟩:=I.list hB;simp only at AG AF AE ec2 ed2 et2;subst AG AF AE ec2 ed2 et2;have hl:=r.length;have hl2:=r2.length;refine concat_meets ⟨_,e1,rfl⟩ ⟨_,e2,rfl⟩ noFill_list_add seq_list_add PySem.F.slot_list_add PySem.F.entry_list_add (PySem.F.args_list_add_2 _ _) (list_addW l b its.toArray its2.toArray n1 n2 C4 C4 s1 s2 (by rw[QL,QL];lia)) ⟨e1,e2,?_⟩;have ea:its.toArray++its2.toArray=(its++its2).toArray:=by simp
 rw[ea];exact⟨.ref _,_,I.lnew (t':=s.toks) (r.append r2) (by rw[Qk];lia),rfl,q _ I.fresh⟩
theorem Mh(a:Int)(t:Tok)(l:Uc)(items:Array J9)(n:Nat)(sl:Array Bd) :
  Meets (Builtin.«int.__rmul__» ⟨[.int a t,.ref l],[]⟩) (λ_ R s=>s.heap.get? l=O {cls:=.type "list", dict:=C4,data:=.seq items n,slots:=sl}/\R (.ok (.ret Value.notImplemented)) s):=
 .of_wp λprog w A R s h=>by obtain⟨hp,g,d,tk,os⟩:=s;obtain⟨hl,h⟩:=h;wp_walk;exact⟨_,rfl,h⟩
theorem mulW(l:Uc)(items:Array J9)(n:Nat)(x:Int)(u:Tok)(sl:Array Bd)(hc0:¬(!Builtin.List.listFitsIndex x)=C5)(hc1:¬items.size*x.toNat > (2 ^ 63-1) / 8)(hc2:¬Builtin.List.listTooLong (items.size*x.toNat)=C5) :
  Meets (Builtin.«list.__mul__» ⟨[.ref l,.int x u],[]⟩) (λ_ R s=>s.heap.get? l=O {cls:=.type "list", dict:=C4,data:=.seq items n,slots:=sl}/\R (.ok (.ret (Value.ref s.heap.objs.size))) {s with heap:=s.heap.push {cls:=Value.type "list", data:=Data.seq (List.foldl (λx1 x2=>x1++x2) #[] (Uk (if items.isEmpty=C5 then 0 else x.toNat) items))},toks:=s.toks}):=
 .of_wp λprog w A R s h=>by
  obtain⟨hp,g,d,tk,os⟩:=s;obtain⟨hl,h⟩:=h;have hsz:=AutoListH.joined_fits hc2
  wp_walk;refine wpAny_ite_false (QG (Nat.not_lt.mpr hsz)) ?_;wp_walk;exact⟨_,rfl,h⟩
noncomputable def Mg(K:Frag):R2:=λx y H Q=>∃l k xs,x=.ref l/\y=.int k/\SqL K H l xs /\ -(2 ^ 63)<=k/\k<2 ^ 63/\xs.length*k.toNat<=Uf /\
 ∀p,H p=C4->Q (.ref p) (upd H p (.lst (Uk k.toNat xs).flatten))
theorem FC:OpR X (binaryOp .Mult) (Mg X.K):=by
 intro pins s σ H x y v u Q I rx ry h;obtain⟨l,k,xs,rfl,rfl,hH,h1,h2,hz,q⟩:=h;cases rx;obtain⟨t,rfl⟩:=ry;obtain⟨its,r,⟨⟨c1,d1,t1,sl⟩,n,e,AG,AF,AE⟩,z⟩:=I.list hH;simp only at AG AF AE;subst AG AF AE;have hl:=r.length;have hlen:its.toArray.size*k.toNat<=Uf:=by rw[QL,←hl];exact hz
 have hcap:¬its.toArray.size*k.toNat > (2 ^ 63-1) / 8:=by
  have:(Uf:Nat)<=(2 ^ 63-1) / 8:=by decide
  lia
 have hfit:¬(!Builtin.List.listFitsIndex k)=C5:=by rw[fitsIndex_both h1 h2];exact Js
 have BA:¬Builtin.List.listTooLong (its.toArray.size*k.toNat)=C5:=by rw[Oc hlen];exact Js
 have hnew:List.foldl (λx1 x2=>x1++x2) #[] (Uk (if its.toArray.isEmpty=C5 then 0 else k.toNat) its.toArray)=(Uk k.toNat its).flatten.toArray:=by
  have f0:∀m:Nat,List.foldl (λx1 x2=>x1++x2) #[] (Uk m its.toArray)=(Uk m its).flatten.toArray:=λm=>by have:=O2 its m [];rw[Jb]at this;exact this
  rw[f0];cases its with
  |nil=>simp
  |cons a r'=>rw[if_neg (by simp)]
 refine wpAny_binaryOp_repeat_ref (T:= "list") (U:= "int") (by decide) ⟨_,e,rfl⟩ (λs'=>typeIs_int s' k t) noFill_list_mul F.fills_int_mul F.slot_int_rmul repeat_list F.slot_int_index.lookup
  (call_meets F.slot_int_rmul (typeIs_int s k t) F.entry_int_rmul (F.args_int_rmul_2 _ _) (Mh k t l its.toArray n sl)
   ⟨e,rfl,⟨_,e,rfl⟩,call_meets F.slot_list_mul ⟨_,e,rfl⟩ F.entry_list_mul (F.args_list_mul_2 _ _) (mulW l its.toArray n k t sl hfit hcap BA) ⟨e,?_⟩⟩)
 rw[hnew];exact⟨.ref _,_,I.lnew (t':=s.toks) (r.rep k.toNat) (by rw[Fe,Nat.mul_comm];exact hz),rfl,q _ I.fresh⟩
noncomputable def VJ:D->D->Bb
 |.list x,.list y=>if x.length+y.length<=1000000 then O (.list (x++y))else C4
 |_,_=>C4
theorem FA:OpD X (binaryOp .Add) VJ:=by
 refine⟨_,FD,λv u G H x y d Q s rx ry e k=>?_⟩;unfold VJ at e;split at e
 .split at e
  .rename_i c
   cases e;obtain⟨l,vs,rfl,h1,r1⟩:=rx.lst_inv;obtain⟨b,ws,rfl,h2,r2⟩:=ry.lst_inv;refine⟨l,b,vs,ws,rfl,rfl,s.seq h1,s.seq h2,by rw[r1.length,r2.length];exact Qy c lim,λp hp=>k _ _ _ (Ext.new s hp) ?_⟩;exact .lst (SqL.of Kd) ((r1.append r2).mono (KB (s.free hp)))
  .cases e
 .cases e
theorem Reps.rep{K:Frag}{G:Hp}{vs:List V}{ds:C7}(r:Reps K G vs ds):∀n:Nat,Reps K G (Uk n vs).flatten (Uk n ds).flatten
 |0=>.nil
 |n+1=>by rw[Ja,Ja,QN,QN];exact r.append (r.rep n)
noncomputable def VI:D->D->Bb
 |.list x,.int k=>if -1000000<=k/\k<=1000000/\x.length*k.toNat<=1000000 then O (.list (Uk k.toNat x).flatten)else C4
 |_,_=>C4
theorem Fz:OpD X (binaryOp .Mult) VI:=by
 refine⟨_,FC,λv u G H x y d Q s rx ry e k=>?_⟩;unfold VI at e;split at e
 .split at e
  .rename_i c
   cases e;obtain⟨l,vs,rfl,h1,r1⟩:=rx.lst_inv;refine⟨l,_,vs,rfl,ry.int_inv,s.seq h1,by lia,by lia,by rw[r1.length];exact Qy c.2.2 lim,λp hp=>k _ _ _ (Ext.new s hp) ?_⟩;exact .lst (SqL.of Kd) ((r1.rep _).mono (KB (s.free hp)))
  .cases e
 .cases e
noncomputable def UX:D->D->Bb
 |.int i,.int j=>O (.int (i+j))
 |.str x,.str y=>if x.length+y.length<=1000000 then O (.str (x++y))else C4
 |.list x,.list y=>if x.length+y.length<=1000000 then O (.list (x++y))else C4
 |_,_=>C4
noncomputable def Z7:D->D->Bb
 |.int i,.int j=>O (.int (i-j))
 |_,_=>C4
noncomputable def U8:D->D->Bb
 |.int i,.int j=>Yx i j
 |.list x,.int k=>if -1000000<=k/\k<=1000000/\x.length*k.toNat<=1000000 then O (.list (Uk k.toNat x).flatten)else C4
 |_,_=>C4
noncomputable def K6:D->D->Bb
 |.int i,.int j=>Xb i j
 |_,_=>C4
noncomputable def Yw:D->D->Bb
 |.int i,.int j=>Xc i j
 |_,_=>C4
noncomputable def Yv:D->D->Bb
 |.int i,.int j=>Xa i j
 |_,_=>C4
theorem OpD.congr{f:J9->J9->Sem J9}{p q:D->D->Bb}(h:OpD X f p)(e:∀x y,q x y=p x y):OpD X f q:=by
 have:q=p:=by funext x y;exact e x y
 rw[this];exact h
theorem Rs:OpD X (binaryOp .Add) UX:=(Hw.or (FE.or FA)).congr λx y=>by cases x<;>cases y<;>first|rfl|(simp only[UX,oII,VL,VJ,Option.orElse];done)|(simp only[UX,oII,VL,VJ,Option.orElse];split<;>rfl)
theorem Mf:OpD X (binaryOp .Sub) Z7:=Hv.congr λx y=>by cases x<;>cases y<;>rfl
theorem Rr:OpD X (binaryOp .Mult) U8:=(GY.or Fz).congr λx y=>by cases x<;>cases y<;>first|rfl|(simp only[U8,oII,VI,Option.orElse];done)|(simp only[U8,oII,VI,Option.orElse];split<;>first|rfl|assumption)
theorem Me:OpD X (binaryOp .Mod) K6:=M5.congr λx y=>by cases x<;>cases y<;>rfl
theorem Md:OpD X (binaryOp .FloorDiv) Yw:=M4.congr λx y=>by cases x<;>cases y<;>rfl
theorem Mc:OpD X (binaryOp .Pow) Yv:=M0.congr λx y=>by cases x<;>cases y<;>rfl
end
section
variable{X:Cx}{B G0:Hp}{e a b c:Ue}{pos:Pos}
def OpB(X:Cx)(f:J9->J9->Sem J9)(op:D->D->Bi):Prop:=
 ∃r:R2,OpR X f r/\∀v u G H x y d Q,Same G H->Rep X.K G v x->Rep X.K G u y->op x y=O d->Q (.bl d) H->r v u H Q
theorem OpB.or{f:J9->J9->Sem J9}{p q:D->D->Bi}(h:OpB X f p)(h':OpB X f q):OpB X f (λx y=>(p x y).orElse λ_=>q x y):=by
 obtain⟨r,h1,i1⟩:=h;obtain⟨r',h2,i2⟩:=h';refine⟨_,h1.or h2,λv u G H x y d Q s rx ry e k=>?_⟩;dsimp only at e;cases z:p x y with
 |some d'=>rw[z]at e;have e':d'=d:=Qu e;subst e';exact .inl (i1 v u G H x y d' Q s rx ry z k)
 |none=>rw[z]at e;exact .inr (i2 v u G H x y d Q s rx ry e k)
theorem OpB.congr{f:J9->J9->Sem J9}{p q:D->D->Bi}(h:OpB X f p)(e:∀x y,q x y=p x y):OpB X f q:=by
 have:q=p:=by funext x y;exact e x y
 rw[this];exact h
theorem Fy{op:CmpOp}{p:D->D->Bi}{f g:M D}(o:OpB X (Ui op) p)(ha:PE X a (tD X.K B G0 f))(hb:PE X b (tD X.K B G0 g))(hm:behindInMarks op b=C6) :
  PT X (.Compare a [op] [b] pos) (tBo X.K B G0 (UF p f g)):=by
 obtain⟨r,h,i⟩:=o;refine Ze (Sw h ha hb hm) λσ H Q q=>?_;refine tM.two q λv u H2 G ρ x y k rx ry a=>?_
 obtain⟨d,e,a⟩:=a.opt;exact i v u G H2 x y d _ k.gh rx ry e ⟨d,rfl,a.now k C3⟩
noncomputable def UL{α β:Type}(h:α->β)(f:M α):M β:=UM f λx=>UE (h x)
theorem tM.map{K:Frag}{α β γ δ:Type}{R:Hp->γ->α->Prop}{S:Hp->δ->β->Prop}{σ:St}{H:Hp}{h:α->β}{f:M α}{Q:δ->Hp->Prop}(j:γ->δ)(q:tM K B G0 S (UL h f) σ H Q)
  (i:∀G v x,R G v x->S G (j v) (h x)):tM K B G0 R f σ H (λv H'=>Q (j v) H'):=
 tM.one (R:=R) (f:=f) q λv H2 G ρ x k r a=>aft.now (show aft K B G0 S (.ok (h x) ρ) G σ Q from a) k (i G v x r)
theorem tBo.val{K:Frag}{σ:St}{H:Hp}{f:M Bool}{Q:VK}(q:tD K B G0 (UL Um f) σ H Q):tBo K B G0 f σ H (λb H'=>Q (.bl b) H'):=
 tM.map (R:=λ_ b c=>b=c) V.bl q λG v x e=>by rw[e];exact .bl x
theorem Fx{op:CmpOp}{p:D->D->Bi}{f g:M D}(o:OpB X (Ui op) p)(ha:PE X a (tD X.K B G0 f))(hb:PE X b (tD X.K B G0 g))(hm:behindInMarks op b=C6) :
  PE X (.Compare a [op] [b] pos) (tD X.K B G0 (UL Um (UF p f g))):=by
 obtain⟨r,h,i⟩:=o;refine UR (PD h ha hb hm) λσ H Q q=>?_;refine tM.two (tBo.val q) λv u H2 G ρ x y k rx ry a=>?_
 obtain⟨d,e,a⟩:=a.opt;exact i v u G H2 x y d _ k.gh rx ry e (a.now k C3)
noncomputable def XY(p q:D->D->Bi)(f g h:M D):M Bool:=UM f λx=>UM g λy=>UM (UN (p x y)) λt=>if t=C5 then UM h λz=>UN (q y z)else UE C6
theorem Df{op op':CmpOp}{p q:D->D->Bi}{f g h:M D}(o:OpB X (Ui op) p)(o':OpB X (Ui op') q)(ha:PE X a (tD X.K B G0 f))(hb:PE X b (tD X.K B G0 g))(hc:PE X c (tD X.K B G0 h))
  (hm:lastMarks [op,op'] [b,c]=C6:=by with_unfolding_all rfl):PT X (.Compare a [op,op'] [b,c] pos) (tBo X.K B G0 (XY p q f g h)):=by
 obtain⟨r,h1,i⟩:=o;obtain⟨r',h2,i'⟩:=o';refine Ze (E2 h1 h2 ha hb hc hm) λσ H Q w=>?_;refine tM.two w λv u H2 G ρ x y k rx ry a=>?_
 cases z:p x y with
 |none=>rw[z]at a;exact a.elim
 |some t=>
  rw[z]at a;refine i v u G H2 x y t _ k.gh rx ry z ⟨t,rfl,?_⟩;cases t with
  |false=>rw[QE Js];exact⟨C6,rfl,aft.now a k C3⟩
  |true=>
   rw[Qq C3];refine⟨G,ρ,k,?_⟩;have a4:aft X.K B G0 (λ_ (b:Bool) c=>b=c) ((UM h λz=>UN (q y z)) ρ) G σ Q:=a;unfold UM at a4;cases z2:h ρ with
   |bad=>rw[z2]at a4;exact a4.elim
   |ok d ρ1=>rw[z2]at a4;intro w G5 H5 k5 s5 r5;obtain⟨t2,e2,a6⟩:=a4.opt;exact i' u w G5 H5 y d t2 _ k5.gh (ry.mono s5) r5 e2 ⟨t2,rfl,a6 t2 G5 H5 k5 s5 C3⟩
theorem De{op op':CmpOp}{p q:D->D->Bi}{f g h:M D}(o:OpB X (Ui op) p)(o':OpB X (Ui op') q)(ha:PE X a (tD X.K B G0 f))(hb:PE X b (tD X.K B G0 g))(hc:PE X c (tD X.K B G0 h))
  (hm:lastMarks [op,op'] [b,c]=C6:=by with_unfolding_all rfl):PE X (.Compare a [op,op'] [b,c] pos) (tD X.K B G0 (UL Um (XY p q f g h))):=by
 obtain⟨r,h1,i⟩:=o;obtain⟨r',h2,i'⟩:=o';refine UR (E3 h1 h2 ha hb hc hm) λσ H Q w=>?_;refine tM.two (tBo.val w) λv u H2 G ρ x y k rx ry a=>?_
 cases z:p x y with
 |none=>rw[z]at a;exact a.elim
 |some t=>
  rw[z]at a;refine i v u G H2 x y t _ k.gh rx ry z ⟨t,rfl,?_⟩;cases t with
  |false=>rw[QE Js];exact aft.now (v:=C6) a k C3
  |true=>
   rw[Qq C3];refine⟨G,ρ,k,?_⟩;have a4:aft X.K B G0 (λ_ (b:Bool) c=>b=c) ((UM h λz=>UN (q y z)) ρ) G σ (λb H'=>Q (.bl b) H'):=a;unfold UM at a4;cases z2:h ρ with
   |bad=>rw[z2]at a4;exact a4.elim
   |ok d ρ1=>rw[z2]at a4;intro w G5 H5 k5 s5 r5;obtain⟨t2,e2,a6⟩:=a4.opt;exact i' u w G5 H5 y d t2 _ k5.gh (ry.mono s5) r5 e2 (a6 t2 G5 H5 k5 s5 C3)
noncomputable def oIB(g:Int->Int->Bool):D->D->Bi
 |.int i,.int j=>O (g i j)
 |_,_=>C4
theorem OpB.int{f:J9->J9->Sem J9}{g:Int->Int->Bool}(h:OpR X f (rI0 λi j=>.bl (g i j))):OpB X f (oIB g):=by
 refine⟨_,h,λv u G H x y d Q s rx ry e k=>?_⟩;unfold oIB at e;split at e
 .cases e
  exact⟨_,_,rx.int_inv,ry.int_inv,k⟩
 .cases e
theorem B_lt:OpB X (Ui .Lt) (oIB λi j=>decide (i<j)):=.int NI
theorem B_le:OpB X (Ui .LtE) (oIB λi j=>decide (i<=j)):=.int NH
theorem B_gt:OpB X (Ui .Gt) (oIB λi j=>decide (j<i)):=.int Mv
theorem B_ge:OpB X (Ui .GtE) (oIB λi j=>decide (j<=i)):=.int Mu
mutual
theorem ZE{pins:List (Uc×Obj)}{s:Ua}{σ:St}{G H:Hp}(I:Inv X pins σ H s)(sg:Same G H):∀{v:V}{d:D}{u:J9},Rep X.K G v d->RelV v u->d.canLay0=C5->∃as,Reads s.heap u d as
 |_,_,_,.non,r,_=>by cases r;exact⟨_,.none⟩
 |_,_,_,.bl b,r,_=>by cases r;exact⟨_,.bool b⟩
 |_,_,_,.int i,r,_=>by obtain⟨t,rfl⟩:=r;exact⟨_,.int i t⟩
 |_,_,_,.str x,r,_=>by obtain⟨t,rfl⟩:=r;exact⟨_,.str x t⟩
 |_,_,_,.lst h q,r,c=>by cases r;obtain⟨its,rv,⟨o,n,e,hc,_,hd⟩,hz⟩:=I.list (sg.seq h);obtain⟨as,ra⟩:=readsAll_of I sg q rv (show Uq _=C5 by simpa[PyData.canLay0]using c);exact⟨_,.list e hc hd (by simpa using ra)⟩
 |_,_,_,.tup h q,r,c=>by cases r;obtain⟨its,rv,p,hz⟩:=I.tuple (ZB sg h);obtain⟨o,e,hc,n,hd⟩:=p;obtain⟨as,ra⟩:=readsAll_of I sg q rv (show Uq _=C5 by simpa[PyData.canLay0]using c);exact⟨_,.tuple e hc hd (by simpa using ra)⟩
 |_,_,_,.dic h,r,c=>by simp[PyData.canLay0]at c
 |_,_,_,.exc _ _ _ _,r,c=>by simp[PyData.canLay0]at c
 |_,_,_,.dct _ _ _ _ _,r,c=>by simp[PyData.canLay0]at c
 |_,_,_,.dtt _ _ _ _,r,c=>by simp[PyData.canLay0]at c
theorem readsAll_of{pins:List (Uc×Obj)}{s:Ua}{σ:St}{G H:Hp}(I:Inv X pins σ H s)(sg:Same G H):∀{vs:List V}{ds:C7}{us:C9},Reps X.K G vs ds->Vals vs us->Uq ds=C5->∃as,ReadsAll s.heap us ds as
 |_,_,_,.nil,r,_=>by cases r;exact⟨_,.nil⟩
 |_,_,_,.cons h t,r,c=>by
  cases r with
  |cons r1 r2=>have c':=c;rw[Uq,QQ]at c';obtain⟨as,ra⟩:=ZE I sg h r1 c'.1;obtain⟨bs,rb⟩:=readsAll_of I sg t r2 c'.2;exact⟨_,.cons ra rb⟩
end
noncomputable def oEq(x y:D):Bi:=if x.canLay0=C5/\y.canLay0=C5/\x.depth<=60 then O (Us x y)else C4
noncomputable def oNe(x y:D):Bi:=if x.canLay0=C5/\y.canLay0=C5/\x.depth<=60 then O (!Us x y)else C4
theorem B_eq(hu:X.A.units+64<cLine):OpB X (Ui .Eq) oEq:=by
 refine⟨λv u H Q=>∃G x y d,Same G H/\Rep X.K G v x/\Rep X.K G u y/\oEq x y=O d/\Q (.bl d) H,?_,λv u G H x y d Q s rx ry e k=>⟨G,x,y,d,s,rx,ry,e,k⟩⟩;intro pins s σ H x y v u Q I rx ry ⟨G,dx,dy,d,sg,px,py,e,q⟩;unfold oEq at e;split at e
 .rename_i c
  cases e;obtain⟨as,ra⟩:=ZE I sg px rx c.1;obtain⟨bs,rb⟩:=ZE I sg py ry c.2.1;exact SeqAt.compareEq_reads ra rb c.1 c.2.1 (by have:=c.2.2;lia) ⟨.bl _,H,I,rfl,q⟩
 .cases e
theorem B_ne(hu:X.A.units+64<cLine):OpB X (Ui .NotEq) oNe:=by
 refine⟨λv u H Q=>∃G x y d,Same G H/\Rep X.K G v x/\Rep X.K G u y/\oNe x y=O d/\Q (.bl d) H,?_,λv u G H x y d Q s rx ry e k=>⟨G,x,y,d,s,rx,ry,e,k⟩⟩;intro pins s σ H x y v u Q I rx ry ⟨G,dx,dy,d,sg,px,py,e,q⟩;unfold oNe at e;split at e
 .rename_i c
  cases e;obtain⟨as,ra⟩:=ZE I sg px rx c.1;obtain⟨bs,rb⟩:=ZE I sg py ry c.2.1;exact SeqAt.compareNe_reads ra rb c.1 c.2.1 (by have:=c.2.2;lia) ⟨.bl _,H,I,rfl,q⟩
 .cases e
noncomputable def isNon:D->Bool
 |.none=>C5
 |_=>C6
theorem Rep.isNon{K:Frag}{G:Hp}{v:V}{d:D}(r:Rep K G v d):DL.isNon d=decide (v=.non):=by cases r<;>simp[DL.isNon]
end
section
variable{X:Cx}{B G0:Hp}{e a b c:Ue}{pos:Pos}{es rest:Ba}
theorem tM.nx{K:Frag}{α β γ δ:Type}{R:Hp->γ->α->Prop}{S:Hp->δ->β->Prop}{σ:St}{G H:Hp}{ρ:UA}{f:M α}{g:α->M β}{Q:δ->Hp->Prop}{P:γ->Hp->Prop}
  (k:EOk K B G0 G H σ ρ) (a:aft K B G0 S (UM f g ρ) G σ Q) (i:∀v H' G' ρ' x,EOk K B G0 G' H' σ ρ'->Same G G'->R G' v x->aft K B G0 S (g x ρ') G' σ Q->P v H'):tM K B G0 R f σ H P:=by
 refine⟨G,ρ,k,?_⟩;unfold UM at a;cases q:f ρ with
 |bad=>rw[q]at a;exact a.elim
 |ok d ρ1=>rw[q]at a;exact λv G' H' e s r=>i v H' G' ρ1 d e s r (aft.mono s a)
noncomputable def KY(f g:M Bool):M Bool:=UM f λt=>if t=C5 then g else UE C6
noncomputable def mOr(f g:M Bool):M Bool:=UM f λt=>if t=C5 then UE C5 else g
noncomputable def U9(f:M Bool):M Bool:=UL (λt=>!t) f
theorem Fw{K:Frag}{f g:M Bool}{σ:St}{H:Hp}{Q:Bool->Hp->Prop}(q:tBo K B G0 (KY f g) σ H Q):tAnd (tBo K B G0 f) (tBo K B G0 g) σ H Q:=
 tM.one (R:=λ_ b c=>b=c) q λv H2 G ρ x k r a=>by
  have r:v=x:=r;subst r;cases v with
  |true=>exact⟨G,ρ,k,a⟩
  |false=>exact aft.now (v:=C6) a k C3
theorem MZ{K:Frag}{f g:M Bool}{σ:St}{H:Hp}{Q:Bool->Hp->Prop}(q:tBo K B G0 (mOr f g) σ H Q):tOr (tBo K B G0 f) (tBo K B G0 g) σ H Q:=
 tM.one (R:=λ_ b c=>b=c) q λv H2 G ρ x k r a=>by
  have r:v=x:=r;subst r;cases v with
  |false=>exact⟨G,ρ,k,a⟩
  |true=>exact aft.now (v:=C5) a k C3
theorem pwof{t t':TT}(h:PW X e t)(i:∀σ H Q,t' σ H Q->t σ H Q):PW X e t':=λwh pins s σ H Q I q=>h wh pins s σ H Q I (i σ H Q q)
theorem FZ{f:M Bool}(ha:PT X a (tBo X.K B G0 f)):PW X (.BoolOp .And [a] pos) (tBo X.K B G0 f):=Fn ha
theorem Fv{f:M Bool}(ha:PT X a (tBo X.K B G0 f)):PW X (.BoolOp .Or [a] pos) (tBo X.K B G0 f):=Hn ha
theorem Fu{f g:M Bool}(ha:PT X a (tBo X.K B G0 f))(hb:PW X (.BoolOp .And (b::rest) pos) (tBo X.K B G0 g)):PW X (.BoolOp .And (a::b::rest) pos) (tBo X.K B G0 (KY f g)):=pwof (Hm ha hb) λ_ _ _ q=>Fw q
theorem MY{f g:M Bool}(ha:PT X a (tBo X.K B G0 f))(hb:PW X (.BoolOp .Or (b::rest) pos) (tBo X.K B G0 g)):PW X (.BoolOp .Or (a::b::rest) pos) (tBo X.K B G0 (mOr f g)):=pwof (NT ha hb) λ_ _ _ q=>MZ q
theorem Ge{f:M Bool}(ha:PT X a (tBo X.K B G0 f)):PT X (.UnaryOp .Not a pos) (tBo X.K B G0 (U9 f)):=Ze (Hl ha) λσ H Q q=>tM.map (R:=λ_ b c=>b=c) (λt=>!t) q λ_ v x e=>by rw[e]
noncomputable def KU(f:M D):M Bool:=UM f λx=>match x with | .bool t=>UE t|_=>λ_=>.bad
theorem Gd{f:M D}(h:PE X e (tD X.K B G0 f))(he:∀whole,isTrue e X.env whole=(do let v ←whole;standAt e.pos;holding [v] (truthy v)):=by intro _;rfl):PT X e (tBo X.K B G0 (KU f)):=
 Ze (Hq h he) λσ H Q q=>tM.one (R:=Rep X.K) q λv H2 G ρ x k r a=>by
  cases x with
  |bool t=>exact⟨t,r.bl_inv,aft.now (v:=t) a k C3⟩
  |_=>exact a.elim
noncomputable def YO(f g:M D):M D:=UM f λx=>match x with | .bool C5=>g | .bool C6=>UE (.bool C6)|_=>λ_=>.bad
noncomputable def W9(f:M D):M D:=UM f λx=>match x with | .bool t=>UE (.bool (!t))|_=>λ_=>.bad
theorem Gc{f g:M D}(ha:PE X a (tD X.K B G0 f))(hb:PE X (.BoolOp .And (b::rest) pos) (tD X.K B G0 g)):PE X (.BoolOp .And (a::b::rest) pos) (tD X.K B G0 (YO f g)):=
 UR (Hj ha hb) λσ H Q q=>tM.one (R:=Rep X.K) q λv H2 G ρ x k r a=>by
  cases x with
  |bool t=>
   refine⟨t,r.bl_inv,?_⟩;cases t with
   |true=>exact⟨G,ρ,k,a⟩
   |false=>exact aft.now a k (.bl C6)
  |_=>exact a.elim
theorem Ga{op}{f:M D}(h:PE X a (tD X.K B G0 f)):PE X (.BoolOp op [a] pos) (tD X.K B G0 f):=Hk h
theorem HZ{f:M D}(ha:PE X a (tD X.K B G0 f)):PE X (.UnaryOp .Not a pos) (tD X.K B G0 (W9 f)):=
 UR (Hi ha) λσ H Q q=>tM.one (R:=Rep X.K) q λv H2 G ρ x k r a=>by
  cases x with
  |bool t=>exact⟨t,r.bl_inv,aft.now a k (.bl _)⟩
  |_=>exact a.elim
theorem HY{f:M D}{j p2}(ha:PE X a (tD X.K B G0 f)):PT X (.Compare a [.Is] [.Constant .none j p2] pos) (tBo X.K B G0 (UL isNon f)):=
 Ze (RT (Hr ha)) λσ H Q q=>tM.one (R:=Rep X.K) q λv H2 G ρ x k r a=>⟨_,rfl,aft.now a k (by rw[r.isNon])⟩
theorem FY{f:M D}{j p2}(ha:PE X a (tD X.K B G0 f)):PT X (.Compare a [.IsNot] [.Constant .none j p2] pos) (tBo X.K B G0 (UL (λd=>!isNon d) f)):=
 Ze (RT (Fo ha)) λσ H Q q=>tM.one (R:=Rep X.K) q λv H2 G ρ x k r a=>⟨_,rfl,aft.now a k (by dsimp only;rw[r.isNon])⟩
noncomputable def UB:M C7:=UE []
noncomputable def UG(f:M D)(g:M C7):M C7:=UM f λx=>UM g λxs=>UE (x::xs)
theorem Pr:PA X [] (tDs X.K B G0 UB):=paof Z1 λσ H Q ⟨G,ρ,k,a⟩=>aft.now a k .nil
theorem tM.twoA{K:Frag}{σ:St}{H:Hp}{f:M D}{g:M C7}{β δ:Type}{S:Hp->δ->β->Prop}{k:D->C7->M β}{Q:δ->Hp->Prop}{P:V->List V->Hp->Prop}
  (h:tM K B G0 S (UM f λx=>UM g λy=>k x y) σ H Q)
  (i:∀v u H2 G ρ x y,EOk K B G0 G H2 σ ρ->Rep K G v x->Reps K G u y->aft K B G0 S (k x y ρ) G σ Q->P v u H2) :
  tD K B G0 f σ H (λv H1=>tDs K B G0 g σ H1 λu H2=>P v u H2):=by
 obtain⟨G,ρ,e,a⟩:=tM.bind2 (R:=Rep K) (R':=Reps K) Pt h;refine⟨G,ρ,e,?_⟩;cases q:f ρ with
 |bad=>rw[q]at a;exact a.elim
 |ok d ρ1=>
  rw[q]at a;intro v G' H' e' s r;obtain⟨x,G2,ρ2,e2,a2⟩:=a v G' H' e' s r;refine⟨G2,ρ2,e2,?_⟩;cases q2:g ρ2 with
  |bad=>rw[q2]at a2;exact a2.elim
  |ok d3 ρ3=>rw[q2]at a2;intro u G3 H3 e3 s3 r3;obtain⟨G4,ρ4,y,e4,r4,r5,a5⟩:=a2 u G3 H3 e3 s3 r3;exact i v u H3 G4 ρ4 x y e4 r4 r5 a5
theorem Oa{f:M D}{g:M C7}(ha:PE X e (tD X.K B G0 f))(hr:PA X es (tDs X.K B G0 g))(hs:Uh (e::es) X.env=(C6,eval e X.env)::Uh es X.env:=by rfl) :
  PA X (e::es) (tDs X.K B G0 (UG f g)):=paof (ZZ ha hr hs) λσ H Q q=>tM.twoA q λv u H2 G ρ x y k r1 r2 a=>aft.now a k (.cons r1 r2)
noncomputable def ZM(f:M C7):M D:=UM f λxs=>if xs.length<=1000000 then UE (.tuple xs)else λ_=>.bad
noncomputable def Kg(f:M C7):M D:=UM f λxs=>if xs.length<=1000000 then UE (.list xs)else λ_=>.bad
theorem Pq{x1}{f:M C7}(h:PA X es (tDs X.K B G0 f)):PE X (.Tuple es x1 pos) (tD X.K B G0 (ZM f)):=
 UR (L8 h) λσ H Q q=>tM.one (R:=Reps X.K) q λv H2 G ρ x k r a=>by
  split at a
  .rename_i c
   refine⟨by rw[r.length];exact Qy c lim,λp hp=>?_⟩;exact aft.done a k (Ext.new k.gh hp) (.tup (SqT.of Kd) (r.mono (KB (k.gh.free hp))))
  .exact a.elim
theorem Pp{f:M C7}(h:PA X es (tDs X.K B G0 f)):PE X (.List es pos) (tD X.K B G0 (Kg f)):=
 UR (Sd h) λσ H Q q=>tM.one (R:=Reps X.K) q λv H2 G ρ x k r a=>by
  split at a
  .rename_i c
   refine⟨by rw[r.length];exact Qy c lim,λp hp=>?_⟩;exact aft.done a k (Ext.new k.gh hp) (.lst (SqL.of Kd) (r.mono (KB (k.gh.free hp))))
  .exact a.elim
noncomputable def oIx:D->D->Bb
 |.list xs,.int i=>atI xs i
 |.tuple xs,.int i=>atI xs i
 |.str z,.int i=>if z.length<=1000000 then(atI z.cps.toList i).map λc=>.str ⟨#[c]⟩else C4
 |_,_=>C4
theorem Reps.atI{K:Frag}{G:Hp}{vs:List V}{ds:C7}{i:Int}{d:D}(r:Reps K G vs ds)(h:L2.atI ds i=O d):∃v,L2.atI vs i=O v/\Rep K G v d:=by
 unfold L2.atI at h⊢;rw[r.length];cases z:ixN ds.length i with
 |none=>rw[z]at h;cases h
 |some j=>rw[z]at h;exact r.get (i:=j) h
theorem RL{K:Frag}{v u:V}{G H:Hp}{x y d:D}{Q:VK}(s:Same G H)(rx:Rep K G v x)(ry:Rep K G u y)(e:oIx x y=O d)(k:∀w,Rep K G w d->Q w H):rIx K v u H Q:=by
 unfold oIx at e;split at e
 .obtain⟨l,vs,rfl,h1,r1⟩:=rx.lst_inv
  obtain⟨w,e1,r2⟩:=r1.atI e;exact .inl ⟨l,vs,_,w,rfl,ry.int_inv,s.seq h1,e1,k w r2⟩
 .obtain⟨l,vs,rfl,h1,r1⟩:=rx.tup_inv
  obtain⟨w,e1,r2⟩:=r1.atI e;exact .inr (.inl ⟨l,vs,_,w,rfl,ry.int_inv,ZB s h1,e1,k w r2⟩)
 .split at e
  .rename_i z i hz
   cases q:L2.atI z.cps.toList i with
   |none=>rw[q]at e;cases e
   |some ch=>rw[q]at e;cases e;exact .inr (.inr ⟨z,i,ch,rx.str_inv,ry.int_inv,Qy hz lim,q,k _ (.str _)⟩)
  .cases e
 .cases e
theorem MX{f g:M D}(ha:PE X a (tD X.K B G0 f))(hb:PE X b (tD X.K B G0 g))(hs:SD b):PE X (.Subscript a b pos) (tD X.K B G0 (UF oIx f g)):=
 UR (Ry RP ha hb hs) λσ H Q q=>tM.two q λv u H2 G ρ x y k rx ry a=>by obtain⟨d,e,a⟩:=a.opt;exact RL k.gh rx ry e λw r=>a.now k r
noncomputable def UJ(i:Nat)(g:M D):M D:=λρ=>match ρ[i]? with
 |some (O (.pub d))=>(UM g λy=>UN (oIx d y)) ρ
 |some (O (.own _))=>(UM g λy=>λρ'=>match ρ'[i]? with|some (O (.own ds))=>UN (oIx (.list ds) y) ρ'|_=>.bad) ρ
 |_=>.bad
theorem HX{i:Nat}{g:M D}(ha:PE X a (U2 i))(hb:PE X b (tD X.K B G0 g))(hs:SD b):PE X (.Subscript a b pos) (tD X.K B G0 (UJ i g)):=
 UR (Ry RP ha hb hs) λσ H Q ⟨G,ρ,k,a⟩=>by
  unfold UJ at a;cases q:ρ[i]? with
  |none=>rw[q]at a;exact a.elim
  |some o=>
   cases o with
   |none=>rw[q]at a;exact a.elim
   |some sl=>
    cases sl with
    |deep _ _=>rw[q]at a;exact a.elim
    |pub d=>
     rw[q]at a;obtain⟨v,h1,h2⟩:=k.pub i d q;refine⟨v,h1,G,ρ,k,?_⟩;dsimp only[UM]at a;cases z:g ρ with
     |bad=>rw[z]at a;exact a.elim
     |ok y ρ1=>rw[z]at a;intro u G' H' k' s' r';obtain⟨d',e',a'⟩:=aft.opt a;exact RL k'.gh (h2.mono s') r' e' λw r=>a' w G' H' k' s' r
    |own ds=>
     rw[q]at a;obtain⟨ad,vs,h1,h2,h3,h4,h5⟩:=k.own i ds q;refine⟨.ref ad,h1,G,ρ,k,?_⟩;dsimp only[UM]at a;cases z:g ρ with
     |bad=>rw[z]at a;exact a.elim
     |ok y ρ1=>
      rw[z]at a;dsimp only at a;intro u G' H' k' s' r';cases z2:ρ1[i]? with
      |none=>rw[z2]at a;exact a.elim
      |some o2=>
       cases o2 with
       |none=>rw[z2]at a;exact a.elim
       |some sl2=>
        cases sl2 with
        |deep _ _=>rw[z2]at a;exact a.elim
        |pub d2=>rw[z2]at a;exact a.elim
        |own es2=>
         rw[z2]at a;obtain⟨d',e',a'⟩:=aft.opt a;obtain⟨ad',vs',g1,g2,g3,g4,g5⟩:=k'.own i es2 z2;rw[h1]at g1;cases g1;unfold oIx at e';cases y with
         |int j=>obtain⟨w,e1,r2⟩:=g5.atI e';exact .inl ⟨ad,vs',j,w,rfl,r'.int_inv,SqL.of g4,e1,a' w G' H' k' s' r2⟩
         |_=>cases e'
noncomputable def cutD(xs:C7)(lo hi:Bf):C7:=(xs.drop (HT.sIx xs.length 0 lo)).take (HT.sIx xs.length xs.length hi-HT.sIx xs.length 0 lo)
theorem Reps.cut{K:Frag}{G:Hp}{vs:List V}{ds:C7}(r:Reps K G vs ds)(lo hi:Bf):Reps K G (Yb vs lo hi) (cutD ds lo hi):=by unfold Yb cutD;rw[r.length];exact(r.drop _).take _
noncomputable def XN:D->Option Bf
 |.int i=>O (O i)
 |_=>C4
theorem FX:PO X C4 (tOi X.K B G0 (UE C4)):=poof Fl λσ H Q ⟨G,ρ,k,a⟩=>aft.now a k C3
theorem FW{f:M D}(h:PE X e (tD X.K B G0 f)):PO X (O e) (tOi X.K B G0 (UM f λx=>UN (XN x))):=poof (Fk h) λσ H Q q=>tM.one (R:=Rep X.K) q λv H2 G ρ x k r a=>by
 cases x with
 |int i=>exact⟨i,r.int_inv,aft.now (v:=O i) a k C3⟩
 |_=>exact a.elim
end
noncomputable def ZN:List (D×D)->Bool
 |(.none,_)::_=>C5
 |_=>C6
noncomputable def Z3:D->String
 |.none=> "NoneType"
 |.bool _=> "bool"
 |.int _=> "int"
 |.str _=> "str"
 |.list _=> "list"
 |.tuple _=> "tuple"
 |.dict kvs=>if ZN kvs=C5 then "" else "dict"
noncomputable def U3(d:D)(c:String):Bool:=Z3 d==c || (Z3 d == "bool" && c == "int")
noncomputable def W8:D->Bool
 |.dict kvs=>ZN kvs
 |_=>C6
theorem nty{kvs:List (D×D)}{c:String}(h:(("dict" == c) || ("" == c))=C6):U3 (.dict kvs) c=C6:=by
 obtain⟨h1,h2⟩:=Bool.or_eq_false_iff.mp h
 show((if ZN kvs=C5 then "" else "dict")==c || ((if ZN kvs=C5 then "" else "dict") == "bool" && c == "int"))=C6
 cases ZN kvs with
 |true=>rw[Qq C3,h2];rfl
 |false=>rw[QE (by decide),h1];rfl
theorem RK{ks:Bh}{ds:C7}:Z3 (.dict ((ks.map kD).zip ds)) = "dict" /\ W8 (.dict ((ks.map kD).zip ds))=C6:=by
 cases ks with
 |nil=>exact⟨rfl,rfl⟩
 |cons k ks=>
  cases ds with
  |nil=>exact⟨rfl,rfl⟩
  |cons d ds=>cases k<;>exact⟨rfl,rfl⟩
theorem HW(K:Frag)(d:D)(c:String)(nx:W8 d=C6)(hc:c = "int" ∨ c = "bool" ∨ c = "str" ∨ c = "list" ∨ c = "tuple" ∨ c = "dict"):PySem.W.kitOne K (.type (Z3 d)) (.type c)=O (U3 d c):=by
 cases d with
 |dict kvs=>
  have e:Z3 (.dict kvs) = "dict" :=by
   have nx:ZN kvs=C6:=nx
   show(if ZN kvs=C5 then "" else "dict")=_
   rw[nx];rfl
  unfold U3;rw[e];rcases hc with rfl|rfl|rfl|rfl|rfl|rfl<;>rfl
 |_=>rcases hc with rfl|rfl|rfl|rfl|rfl|rfl<;>rfl
section
variable{X:Cx}{B G0:Hp}{e a b c:Ue}{pos:Pos}{es rest:Ba}
def ZW(X:Cx)(f:J9)(p:C7->Bb):Prop:=
 ∃r,ZC X f r/\∀vs G H ds d Q,Same G H->Reps X.K G vs ds->p ds=O d->(∀w G' H',Ext G H G' H'->Rep X.K G' w d->Q w H')->r vs H Q
noncomputable def Zp(p:C7->Bb)(f:M C7):M D:=UM f λxs=>UN (p xs)
theorem WX{x:Str}{p2:Pos}{id:String}{p:C7->Bb}{f:M C7}(hc:ZW X (.builtin id) p)(hg:Gl X x)(hm:X.mg x=C4)(hv:bootBuiltins x=O (.builtin id))(ha:PA X (e::es) (tDs X.K B G0 f))(hn:x ≠ "__name__" :=by decide)(hdb:(x==("__debug__" : Str))=C6:=by decide)
  (he:Uh (e::es) X.env=(C6,eval e X.env)::Uh es X.env:=by rfl) (hpl:(backTo pos (Uh es X.env)).any (·.1)=C6:=by rfl):PE X (.Call (.Name x p2) (e::es) [] pos) (tD X.K B G0 (Zp p f)):=by
 obtain⟨r,h,i⟩:=hc;refine UR (Tp h hg hm hv ha hn hdb he hpl) λσ H Q q=>tM.one (R:=Reps X.K) q λv H2 G ρ x k rr a=>?_
 obtain⟨d,e,a⟩:=a.opt;exact i v G H2 x d Q k.gh rr e λw G' H' ex rw=>a.done k ex rw
theorem Reps.nil_inv{K:Frag}{G:Hp}{vs:List V}(r:Reps K G vs []):vs=[]:=by cases r;rfl
theorem Reps.one_inv{K:Frag}{G:Hp}{vs:List V}{d:D}(r:Reps K G vs [d]):∃v,vs=[v]/\Rep K G v d:=by
 cases r with
 |cons h t=>cases t;exact⟨_,rfl,h⟩
theorem Reps.two_inv{K:Frag}{G:Hp}{vs:List V}{d d':D}(r:Reps K G vs [d,d']):∃v v',vs=[v,v']/\Rep K G v d/\Rep K G v' d':=by
 cases r with
 |cons h t=>obtain⟨v',rfl,r'⟩:=t.one_inv;exact⟨_,v',rfl,h,r'⟩
noncomputable def Ka:C7->Bb
 |[.list xs]=>O (.int xs.length)
 |[.tuple xs]=>O (.int xs.length)
 |[.str z]=>if z.length<=1000000 then O (.int z.length)else C4
 |_=>C4
theorem Rq:ZW X (.builtin "len") Ka:=by
 refine⟨_,PK,λvs G H ds d Q s r e k=>?_⟩;unfold Ka at e;split at e
 .cases e
  obtain⟨v,rfl,q⟩:=r.one_inv;obtain⟨l,ws,rfl,h1,r1⟩:=q.lst_inv;exact⟨.ref l,ws.length,rfl,.inl ⟨ws,s.seq h1,rfl⟩,by rw[r1.length];exact k _ G H (.refl s) (.int _)⟩
 .cases e
  obtain⟨v,rfl,q⟩:=r.one_inv;obtain⟨l,ws,rfl,h1,r1⟩:=q.tup_inv;exact⟨.ref l,ws.length,rfl,.inr ⟨ws,ZB s h1,rfl⟩,by rw[r1.length];exact k _ G H (.refl s) (.int _)⟩
 .split at e
  .rename_i z hz
   cases e;obtain⟨v,rfl,q⟩:=r.one_inv;exact⟨.str z,z.length,by rw[q.str_inv],⟨Qy hz lim,rfl⟩,k _ G H (.refl s) (.int _)⟩
  .cases e
 .cases e
noncomputable def VH:C7->Bb
 |[.int i,.int j]=>O (.int (if j > i then j else i))
 |_=>C4
theorem MW(hc:X.calm=C5):ZW X (.builtin "max") VH:=by
 refine⟨_,DZ hc,λvs G H ds d Q s r e k=>?_⟩;unfold VH at e;split at e
 .cases e
  obtain⟨v,v',rfl,r1,r2⟩:=r.two_inv;exact⟨_,_,by rw[r1.int_inv,r2.int_inv],k _ G H (.refl s) (.int _)⟩
 .cases e
noncomputable def K0(i:Nat):M D:=λρ=>match ρ[i]? with
 |some (O (.pub d))=>UN (Ka [d]) ρ
 |some (O (.own ds))=>.ok (.int ds.length) ρ
 |_=>.bad
theorem FV{i:Nat}{p2:Pos}(hg:Gl X "len")(hm:X.mg "len" = C4)(ha:PE X e (U2 i))(he:Uh [e] X.env=[(C6,eval e X.env)]:=by rfl):PE X (.Call (.Name "len" p2) [e] [] pos) (tD X.K B G0 (K0 i)):=by
 refine UR (Tp PK hg hm PySem.boot_len (ZZ ha Z1 (by rw[he];rfl)) (by decide) (by decide) (by rw[he];rfl) C3) λσ H Q ⟨G,ρ,k,a⟩=>?_
 unfold K0 at a;cases q:ρ[i]? with
 |none=>rw[q]at a;exact a.elim
 |some o=>
  cases o with
  |none=>rw[q]at a;exact a.elim
  |some sl=>
   cases sl with
   |deep _ _=>rw[q]at a;exact a.elim
   |pub d=>
    rw[q]at a;obtain⟨v,h1,h2⟩:=k.pub i d q;refine⟨v,h1,?_⟩;obtain⟨d',e',a'⟩:=aft.opt a;obtain⟨r,hr,ir⟩:=@Rq X;show ∃x n,[v]=[x]/\LenV X.K x H n/\Q (.int n) H;unfold Ka at e';split at e'
    .rename_i xs he'
     injection he' with Az BE;subst Az;cases e'
     obtain⟨l,ws,rfl,g1,r1⟩:=h2.lst_inv;exact⟨.ref l,ws.length,rfl,.inl ⟨ws,k.gh.seq g1,rfl⟩,by rw[r1.length];exact a'.now k (.int _)⟩
    .rename_i xs he'
     injection he' with Az BE;subst Az;cases e'
     obtain⟨l,ws,rfl,g1,r1⟩:=h2.tup_inv;exact⟨.ref l,ws.length,rfl,.inr ⟨ws,ZB k.gh g1,rfl⟩,by rw[r1.length];exact a'.now k (.int _)⟩
    .rename_i z he'
     injection he' with Az BE;subst Az
     split at e'
     .rename_i hz
      cases e';exact⟨.str z,z.length,by rw[h2.str_inv],⟨Qy hz lim,rfl⟩,a'.now k (.int _)⟩
     .cases e'
    .cases e'
   |own ds=>rw[q]at a;obtain⟨ad,vs,h1,g2,g3,h4,h5⟩:=k.own i ds q;exact⟨.ref ad,h1,.ref ad,vs.length,rfl,.inl ⟨vs,SqL.of h4,rfl⟩,by rw[h5.length];exact aft.now a k (.int _)⟩
theorem HV{pins:List (Uc×Obj)}{s:Ua}{σ:St}{G H:Hp}{v:V}{u:J9}{d:D}{cv:J9}{t:Bool}{A:Around}{E:J9->Ua->Prop}{Q:J9->Ua->Prop}(I:Inv X pins σ H s)(sg:Same G H)(r:Rep X.K G v d)(rv:RelV v u)(nx:W8 d=C6)
  (ek:PySem.W.kitOne X.K (.type (Z3 d)) cv=O t) (h:∀tk,Q (.bool t) {s with toks:=tk}):Ug (model X.prog X.w) A (call (.builtin "isinstance") [u,cv]) Q E s:=by
 cases r with
 |non=>cases rv;exact Jp PySem.W.kitx_none I.kIn True.intro ek (λz=>nomatch z) h
 |bl y=>cases rv;exact Jp PySem.W.kitx_bool I.kIn True.intro ek (λz=>nomatch z) h
 |int i=>obtain⟨t',rfl⟩:=rv;exact Jp PySem.W.kitx_int I.kIn True.intro ek (λz=>nomatch z) h
 |str y=>obtain⟨t',rfl⟩:=rv;exact Jp PySem.W.kitx_str I.kIn True.intro ek (λz=>nomatch z) h
 |lst hl _=>cases rv;obtain⟨its,r,⟨o,n,e,hc,_,hd⟩,hz⟩:=I.list (sg.seq hl);exact Jp PySem.W.kitx_list I.kIn ⟨o,e,hc⟩ ek (λz=>nomatch z) h
 |tup hl _=>cases rv;obtain⟨its,r,p,hz⟩:=I.tuple (ZB sg hl);obtain⟨o,e,hc,_⟩:=p;exact Jp PySem.W.kitx_tuple I.kIn ⟨o,e,hc⟩ ek (λz=>nomatch z) h
 |@dic ad hd=>
  cases rv;obtain⟨_,_,vs,_,p⟩:=(show Ku X.prog X.w H s.heap ad (.dK [])from I.hok ad _ (sg _ _ hd))
  obtain⟨o,es,ep,h1,h2,_⟩:=p;exact Jp PySem.W.kitx_dict I.kIn ⟨o,h1,h2.1⟩ ek (λz=>nomatch z) h
 |exc _ _ _ _=>cases nx
 |@dct ad ks vs ds kvs e0 _ _ hd _=>
  cases rv;subst e0;rw[RK.1]at ek;obtain⟨_,_,vs,_,p⟩:=(show Ku X.prog X.w H s.heap ad (.dK (ks.zip _))from I.hok ad _ (sg _ _ hd))
  obtain⟨o,es,ep,h1,h2,_⟩:=p;exact Jp PySem.W.kitx_dict I.kIn ⟨o,h1,h2.1⟩ ek (λz=>nomatch z) h
 |@dtt ad ob ks vs ds kvs e0 _ hd _=>
  cases rv;subst e0;obtain⟨_,_,_,xs,_,o,es,ep,h1,h2,_⟩:=(show Ku X.prog X.w H s.heap ad (.frz ob (.dT (ks.zip _)))from I.hok ad _ (sg _ _ hd))
  exact Jp PySem.W.kitx_dict I.kIn ⟨o,h1,h2.1⟩ ek (λz=>nomatch z) h
theorem HU(c:String)(hc:c = "int" ∨ c = "bool" ∨ c = "str" ∨ c = "list" ∨ c = "tuple" ∨ c = "dict"):typeOf (.type c)=pure (.type "type"):=by rcases hc with rfl|rfl|rfl|rfl|rfl|rfl<;>kernel_rfl
theorem FT:ZC X (.builtin "isinstance") (λxs H Q=>∃v c G d,xs=[v,.ty c]/\Same G H/\Rep X.K G v d/\(c = "int" ∨ c = "bool" ∨ c = "str" ∨ c = "list" ∨ c = "tuple" ∨ c = "dict")/\Q (.bl (U3 d c)) H):=by
 intro pins s σ H xs us Q I r h;obtain⟨v,c,G,d,rfl,sg,rp,hc,q⟩:=h;obtain⟨u,w',rfl,r1,r2⟩:=TZ r;cases (show w'=Value.type c from r2);by_cases nx:W8 d=C5
 .cases rp with
  |@exc a C dd bm nm vs ds ck hx hd rr=>
   refine F1 (Mj I.ok.mod.kin) pins s σ H [.ref a,.ty c] [u,.type c] Q I r ⟨a,C,dd,bm,C6,.ty c,C6,rfl,⟨nm,ck⟩,sg _ _ hx,.inr ⟨c,rfl,HU c hc,?_⟩,?_⟩
   .rw[ck.ty];rcases hc with rfl|rfl|rfl|rfl|rfl|rfl<;>rfl
   .have e:U3 (.dict [(.none,.tuple [.str nm,.list ds])]) c=C6:=by rcases hc with rfl|rfl|rfl|rfl|rfl|rfl<;>rfl
    rw[e]at q;exact q
  |dct e _ _ _ _=>subst e;rw[RK.2]at nx;cases nx
  |dtt e _ _ _=>subst e;cases nx
  |_=>cases nx
 .have nx:W8 d=C6:=by simpa using nx
  exact HV I sg rp r1 nx (HW X.K d c nx hc) λtk=>⟨.bl _,H,I.tok tk,rfl,q⟩
theorem C0:bootBuiltins "isinstance" = O (.builtin "isinstance"):=by decide +kernel
theorem Tt{f:M D}{p2 p3:Pos}{c:String}(hc:c = "int" ∨ c = "bool" ∨ c = "str" ∨ c = "list" ∨ c = "tuple" ∨ c = "dict")(hg:Gl X "isinstance")(hm:X.mg "isinstance" = C4)(hg2:Gl X (Uu c))(hm2:X.mg (Uu c)=C4)
  (hv2:bootBuiltins (Uu c)=O (.type c)) (ha:PE X e (tD X.K B G0 f)) (hn2:(Uu c) ≠ "__name__") (hd2:((Uu c)==("__debug__" : Str))=C6)
  (hs:Uh [e,.Name (Uu c) p3] X.env=(C6,eval e X.env)::Uh [.Name (Uu c) p3] X.env:=by rfl)
  (hs2:Uh [.Name (Uu c) p3] X.env=[(C6,eval (.Name (Uu c) p3) X.env)]:=by rfl) :
  PE X (.Call (.Name "isinstance" p2) [e,.Name (Uu c) p3] [] pos) (tD X.K B G0 (UL (λd=>.bool (U3 d c)) f)):=by
 refine UR (Tp FT hg hm C0 (ZZ ha (ZZ (Fp (v:=.ty c) hg2 hm2 hv2 C3 hn2 hd2) Z1 (by rw[hs2];rfl)) hs) (by decide) (by decide) hs (by rw[hs2];rfl)) λσ H Q q=>?_
 refine tM.one (R:=Rep X.K) q λv H2 G ρ x k r a=>?_
 exact⟨v,c,G,x,rfl,k.gh,r,hc,aft.now a k (.bl _)⟩
end
noncomputable def spD(K:Frag)(n:Nat)(F:C7->Bb):Sp:=λvs H Q _=>∃G ds d,vs.length=n/\Same G H/\Reps K G vs ds/\F ds=O d/\∀v G' H',Ext G H G' H'->Rep K G' v d->Q v H'
section
variable{K:Frag}{B G0 G H:Hp}{σ:St}{ρ:UA}
theorem EOk.exit(k:EOk K B G0 G H σ ρ):Ext G0 B G H:=⟨k.bh,k.g0,k.gh,k.np⟩
theorem Kk{α:Type}{l:List α}{i:Nat}{x y:α}(h:(l.set i x)[i]?=O y):y=x:=by
 by_cases hl:i<l.length
 .rw[QD hl]at h;cases h;rfl
 .rw[Jd (by rw[QH];lia)]at h;cases h
theorem DpOk.setOther{i:Nat}{x:Option V}{y:Option Sl}(k:DpOk K B G H σ ρ)(hy:∀s,y=O s->∃d,s=.pub d):DpOk K B G H (σ.set i x) (ρ.set i y):=by
 have nz:∀{m:Nat}{s:Sl},(ρ.set i y)[m]?=O (O s)->(∃d,s=.pub d)∨(ρ[m]?=O (O s)/\(σ.set i x)[m]?=σ[m]?):=λ{m s} q=>by
  by_cases z:i=m
  .subst z
   exact .inl (hy s (Kk q).symm)
  .rw[Qf z]at q⊢;exact .inr ⟨q,rfl⟩
 refine k.map (λm p d q=>?_) (λm es q=>?_) λm p d v fp q s r w n=>⟨r,w⟩
 .rcases nz q with ⟨_,e⟩|q
  .cases e
  .exact q
 .rcases nz q with ⟨_,e⟩|q
  .cases e
  .exact⟨es,q⟩
theorem EOk.setPub{i:Nat}{v:V}{d:D}(k:EOk K B G0 G H σ ρ)(r:Rep K G v d)(hi:i<ρ.length):EOk K B G0 G H (σ.set i (O v)) (ρ.set i (O (.pub d))) where
 bh:=k.bh
 gh:=k.gh
 g0:=k.g0
 np:=k.np
 len:=by rw[QH,QH];exact k.len
 pub:=λj d' q=>by
  by_cases z:i=j
  .subst z
   have:=Kk q;cases this;exact⟨v,QD (by rw[←k.len];exact hi),r⟩
  .rw[Qf z]at q⊢
   exact k.pub j d' q
 own:=λj ds q=>by
  by_cases z:i=j
  .subst z
   have:=Kk q;cases this
  .rw[Qf z]at q⊢
   exact k.own j ds q
 sep:=λj l c es fs q1 q2 s1 s2=>by
  have z1:i≠j:=λz=>by subst z;have:=Kk q1;cases this
  have z2:i≠l:=λz=>by subst z;have:=Kk q2;cases this
  rw[Qf z1]at q1 s1;rw[Qf z2]at q2 s2;exact k.sep j l c es fs q1 q2 s1 s2
 dp:=k.dp.setOther (λs e=>by cases e;exact⟨_,rfl⟩)
structure NewL(K:Frag)(B G H:Hp)(σ:St)(ρ:UA)(a:Uc)(vs:List V)(ds:C7):Prop where
 b:B a=C4
 g:G a=C4
 h:H a=O (.lst vs)
 r:Reps K G vs ds
 f:∀(j:Nat) es,ρ[j]?=O (O (.own es))->σ[j]?≠O (O (.ref a))
 dp:∀(j:Nat) p d v fp,ρ[j]?=O (O (.deep p d))->σ[j]?=O (O v)->RepO K G H p v d fp->a∉fp
theorem EOk.freshD{H':Hp}{a:Uc}(k:EOk K B G0 G H σ ρ)(e:Same H H')(ha:H a=C4){G':Hp}{j:Nat}{p:Pat}{d:D}{v:V}{fp:Be}(q:ρ[j]?=O (O (.deep p d)))(s:σ[j]?=O (O v))(r:RepO K G' H' p v d fp):a∉fp:=λm=>by obtain⟨ω,k1,k2⟩:=k.dp;obtain⟨v',fp',s',r',n,w⟩:=k1 j p d q;rw[s]at s';cases s';have u:=r'.uniq e r;subst u;obtain⟨ws,hl⟩:=r'.isl a m;rw[ha]at hl;cases hl
theorem EOk.setOwn{i:Nat}{a:Uc}{vs:List V}{ds:C7}(k:EOk K B G0 G H σ ρ)(n:NewL K B G H σ ρ a vs ds)(hi:i<ρ.length):EOk K B G0 G H (σ.set i (O (.ref a))) (ρ.set i (O (.own ds))) where
 bh:=k.bh
 gh:=k.gh
 g0:=k.g0
 np:=k.np
 len:=by rw[QH,QH];exact k.len
 pub:=λj d' q=>by
  by_cases z:i=j
  .subst z
   have:=Kk q;cases this
  .rw[Qf z]at q⊢
   exact k.pub j d' q
 own:=λj es q=>by
  by_cases z:i=j
  .subst z
   have:=Kk q;cases this;exact⟨a,vs,QD (by rw[←k.len];exact hi),n.b,n.g,n.h,n.r⟩
  .rw[Qf z]at q⊢
   exact k.own j es q
 sep:=λj l c es fs q1 q2 s1 s2=>by
  have hs:i<σ.length:=by rw[←k.len];exact hi
  by_cases z1:i=j
  .subst z1
   rw[QD hs]at s1;cases s1;by_cases z2:i=l
   .exact z2
   .rw[Qf z2]at q2 s2
    exact absurd s2 (n.f l fs q2)
  .by_cases z2:i=l
   .subst z2
    rw[QD hs]at s2;cases s2;rw[Qf z1]at q1 s1;exact absurd s1 (n.f j es q1)
   .rw[Qf z1]at q1 s1
    rw[Qf z2]at q2 s2;exact k.sep j l c es fs q1 q2 s1 s2
 dp:=by
  obtain⟨ω,k1,k2⟩:=k.dp;have hs:i<σ.length:=by rw[←k.len];exact hi
  refine⟨λb=>if b=a then i else ω b,λj p d q=>?_,λj es b q s=>?_⟩
  .by_cases z:i=j
   .subst z;have:=Kk q;cases this
   .rw[Qf z]at q⊢
    obtain⟨v,fp,s,r,nn,w⟩:=k1 j p d q;refine⟨v,fp,s,r,nn,λb m=>⟨(w b m).1,(w b m).2.1,?_⟩⟩;dsimp only;rw[QE (λz=>n.dp j p d v fp q s r (by rw[←z];exact m))];exact(w b m).2.2
  .by_cases z:i=j
   .subst z
    rw[QD hs]at s;cases s;dsimp only;rw[Qq C3]
   .rw[Qf z]at q s
    dsimp only;rw[QE (λe=>n.f j es q (by rw[←e];exact s))];exact k2 j es b q s
theorem EOk.change{i:Nat}{a:Uc}{vs:List V}{ds es:C7}(k:EOk K B G0 G H σ ρ)(q:ρ[i]?=O (O (.own ds)))(ha:σ[i]?=O (O (.ref a)))(r:Reps K G vs es) :
  EOk K B G0 G (upd H a (.lst vs)) σ (ρ.set i (O (.own es))):=by
 obtain⟨a',ws,h1,h2,h3,h4,h5⟩:=k.own i ds q;rw[ha]at h1;cases h1;have hi:i<ρ.length:=(Qg.mp q).1;refine⟨λb o e=>?_,λb o e=>?_,k.g0,k.np,by rw[QH];exact k.len,λj d' e=>?_,λj fs e=>?_,λj l c fs gs q1 q2 s1 s2=>?_,?_⟩
 .rw[US (KO e h2)];exact k.bh b o e
 .rw[US (KO e h3)];exact k.gh b o e
 .by_cases z:i=j
  .subst z
   have:=Kk e;cases this
  .rw[Qf z]at e
   exact k.pub j d' e
 .by_cases z:i=j
  .subst z
   have:=Kk e;cases this;exact⟨a,vs,ha,h2,h3,Kd,r⟩
  .rw[Qf z]at e
   obtain⟨c,us,g1,g2,g3,g4,g5⟩:=k.own j fs e;have zc:c≠a:=λw=>z (k.sep i j a ds fs q e ha (by rw[←w];exact g1))
   exact⟨c,us,g1,g2,g3,by rw[US zc];exact g4,g5⟩
 .have f:∀{m:Nat}{ts:C7},(ρ.set i (O (Sl.own es)))[m]?=O (O (.own ts))->∃ts',ρ[m]?=O (O (.own ts')):=λ{m ts} e=>by
   by_cases z:i=m
   .subst z;exact⟨ds,q⟩
   .rw[Qf z]at e;exact⟨ts,e⟩
  obtain⟨f1,w1⟩:=f q1;obtain⟨f2,w2⟩:=f q2;exact k.sep j l c f1 f2 w1 w2 s1 s2
 .refine k.dp.map (λj p d e=>?_) (λj fs e=>?_) λj p d v fp qj s rj w n=>⟨rj.upd (λ_ z=>by rw[h4]at z;cases z) (n i ds a q ha),w⟩
  .by_cases z:i=j
   .subst z;have:=Kk e;cases this
   .rw[Qf z]at e;exact⟨e,rfl⟩
  .by_cases z:i=j
   .subst z;exact⟨ds,q,rfl⟩
   .rw[Qf z]at e;exact⟨fs,e,rfl⟩
end
inductive Out where
 |nx (ρ:UA)|rt (d:D)|bk (ρ:UA)|ct (ρ:UA)|ex (ρ:UA) (d:D)|ro (ds:C7)|bad
abbrev SM:=UA->Out
section
variable(K:Frag)(B G0:Hp)(KX:XW)
def aftS(o:Out)(G1:Hp)(Dn:Ends):Prop:=
 match o with
 |.nx ρ=>∀σ G H,EOk K B G0 G H σ ρ->Same G1 G->Dn.nx σ H
 |.bk ρ=>∀σ G H,EOk K B G0 G H σ ρ->Same G1 G->Dn.bk σ H
 |.ct ρ=>∀σ G H,EOk K B G0 G H σ ρ->Same G1 G->Dn.ct σ H
 |.rt d=>∀v G H,Ext G0 B G H->Rep K G v d->Dn.rt v H
 |.ro ds=>∀a vs G H,Ext G0 B G H->B a=C4->G a=C4->H a=O (.lst vs)->Reps K G vs ds->Dn.rt (.ref a) H
 |.ex ρ d=>∀v σ G H,EOk K B G0 G H σ ρ->Same G1 G->Rep K G v d->KX v σ H
 |.bad=>False
noncomputable def tS(g:SM):TS:=λDn σ H=>∃G ρ,EOk K B G0 G H σ ρ/\aftS K B G0 KX (g ρ) G Dn
noncomputable def sB{α:Type}(f:M α)(g:α->SM):SM:=λρ=>match f ρ with | .ok a ρ'=>g a ρ' | .bad=>.bad
end
section
variable{X:Cx}{B G0:Hp}{KX:XW}{e a b c:Ue}{pos:Pos}{es rest:Ba}{st:Stmt}{sts sts2:List Stmt}
theorem aftS.mono{K:Frag}{o:Out}{G G':Hp}{Dn:Ends}(e:Same G G')(h:aftS K B G0 KX o G Dn):aftS K B G0 KX o G' Dn:=by
 cases o with
 |nx ρ=>exact λσ G2 H2 k s=>h σ G2 H2 k (e.trans s)
 |bk ρ=>exact λσ G2 H2 k s=>h σ G2 H2 k (e.trans s)
 |ct ρ=>exact λσ G2 H2 k s=>h σ G2 H2 k (e.trans s)
 |rt d=>exact h
 |ro ds=>exact h
 |ex ρ d=>exact λv σ G2 H2 k s r=>h v σ G2 H2 k (e.trans s) r
 |bad=>exact h
theorem tS.bnd{K:Frag}{α γ:Type}{R:Hp->γ->α->Prop}{f:M α}{g:α->SM}{Dn:Ends}{σ:St}{H:Hp}{P:γ->Hp->Prop}(q:tS K B G0 KX (sB f g) Dn σ H)
  (i:∀v H' G' ρ' x,EOk K B G0 G' H' σ ρ'->R G' v x->aftS K B G0 KX (g x ρ') G' Dn->P v H'):tM K B G0 R f σ H P:=by
 obtain⟨G,ρ,k,a⟩:=q;refine⟨G,ρ,k,?_⟩;unfold sB at a;cases z:f ρ with
 |bad=>rw[z]at a;exact a.elim
 |ok d ρ1=>rw[z]at a;exact λv G' H' e s r=>i v H' G' ρ1 d e r (aftS.mono s a)
noncomputable def sNx:SM:=λρ=>.nx ρ
noncomputable def UD(g h:SM):SM:=λρ=>match g ρ with | .nx ρ'=>h ρ'|o=>o
theorem MV:PSs X [] (tS X.K B G0 KX sNx):=Xs Sy λD σ H ⟨G,ρ,k,a⟩=>a σ G H k (.refl _)
theorem Po{g h:SM}(h1:PS X st (tS X.K B G0 KX g))(h2:PSs X sts (tS X.K B G0 KX h)):PSs X (st::sts) (tS X.K B G0 KX (UD g h)):=Xs (X9 h1 h2) λD σ H ⟨G,ρ,k,a⟩=>by
 refine⟨G,ρ,k,?_⟩;unfold UD at a;cases z:g ρ with
 |nx ρ1=>rw[z]at a;exact λσ' G' H' k' s'=>⟨G',ρ1,k',aftS.mono s' a⟩
 |rt d=>rw[z]at a;exact a
 |ro ds=>rw[z]at a;exact a
 |bk ρ1=>rw[z]at a;exact a
 |ct ρ1=>rw[z]at a;exact a
 |ex ρ1 d=>rw[z]at a;exact a
 |bad=>rw[z]at a;exact a.elim
theorem MU{g:SM}(h1:PS X st (tS X.K B G0 KX g)):PSs X [st] (tS X.K B G0 KX g):=XI h1
noncomputable def WL:SM:=λ_=>.bad
theorem FS:PS X st (tS X.K B G0 KX WL):=λ_ _ _ _ _ _ ⟨_,_,_,a⟩=>a.elim
noncomputable def UW(f:M D):SM:=sB f λd _=>.rt d
theorem MT{f:M D}(h:PE X e (tD X.K B G0 f)):PS X (.Return (O e) pos) (tS X.K B G0 KX (UW f)):=Kf (Vo h) λD σ H q=>tS.bnd (R:=Rep X.K) q λv H' G' ρ' x k r a=>a v G' H' k.exit r
noncomputable def WD(f:M D):SM:=sB f λ_ ρ=>.nx ρ
theorem HS{f:M D}(h:PE X e (tD X.K B G0 f))(hs:swapsWith e C4 pos.line X.env=pure C6:=by rfl):PS X (.Expr e pos) (tS X.K B G0 KX (WD f)):=Kf (X1 h hs) λD σ H q=>tS.bnd (R:=Rep X.K) q λv H' G' ρ' x k r a=>a σ G' H' k (.refl _)
noncomputable def sIf(f:M Bool)(g h:SM):SM:=sB f λt=>if t=C5 then g else h
theorem Mb{f:M Bool}{g h:SM}(hc:PT X c (tBo X.K B G0 f))(ha:PSs X sts (tS X.K B G0 KX g))(hb:PSs X sts2 (tS X.K B G0 KX h)):PS X (.If c sts sts2 pos) (tS X.K B G0 KX (sIf f g h)):=
 Kf (T4 hc ha hb) λD σ H q=>tS.bnd (R:=λ_ b c=>b=c) q λv H' G' ρ' x k r a=>by
  have r:v=x:=r;subst r;cases v with
  |true=>exact⟨G',ρ',k,a⟩
  |false=>exact⟨G',ρ',k,a⟩
noncomputable def tG(K:Frag)(B G0:Hp)(s:D->UA->Bg):TG:=λv σ H Q=>∃G ρ d ρ',EOk K B G0 G H σ ρ/\Rep K G v d/\s d ρ=O ρ'/\∀σ' G' H',EOk K B G0 G' H' σ' ρ'->Same G G'->Q σ' H'
noncomputable def tGs(K:Frag)(B G0:Hp)(s:C7->UA->Bg):TGs:=λv σ H Q=>∃G ρ d ρ',EOk K B G0 G H σ ρ/\Reps K G v d/\s d ρ=O ρ'/\∀σ' G' H',EOk K B G0 G' H' σ' ρ'->Same G G'->Q σ' H'
theorem pgof{t t':TG}(h:PG X e t)(i:∀v σ H Q,t' v σ H Q->t v σ H Q):PG X e t':=λpins s σ H v u Q I r q=>h pins s σ H v u Q I r (i v σ H Q q)
theorem Rp{t t':TGs}(h:PGs X es t)(i:∀v σ H Q,t' v σ H Q->t v σ H Q):PGs X es t':=λpins s σ H v u Q I r q=>h pins s σ H v u Q I r (i v σ H Q q)
noncomputable def gN(i:Nat):D->UA->Bg:=λd ρ=>if i<ρ.length then O (ρ.set i (O (.pub d)))else C4
theorem Pn{i:Nat}(h:PG X e (T3 i)):PG X e (tG X.K B G0 (gN i)):=pgof h λv σ H Q ⟨G,ρ,d,ρ',k,r,e,q⟩=>by
 unfold gN at e;split at e
 .rename_i hi
  cases e;exact q _ G H (k.setPub r hi) (.refl _)
 .cases e
noncomputable def gN0:C7->UA->Bg:=λd ρ=>match d with | []=>O ρ|_=>C4
noncomputable def gNC(s:D->UA->Bg)(t:C7->UA->Bg):C7->UA->Bg:=λds ρ=>match ds with|d::r=>(s d ρ).bind (t r) | []=>C4
theorem MS:PGs X [] (tGs X.K B G0 gN0):=Rp PF λv σ H Q ⟨G,ρ,d,ρ',k,r,e,q⟩=>by
 cases r with
 |nil=>cases e;exact⟨rfl,q σ G H k (.refl _)⟩
 |cons _ _=>cases e
theorem HR{s:D->UA->Bg}{t:C7->UA->Bg}(h1:PG X e (tG X.K B G0 s))(h2:PGs X es (tGs X.K B G0 t))
  (hs:(Ux (e::es) X.env).map (·.2)=assign e X.env::(Ux es X.env).map (·.2):=by rfl):PGs X (e::es) (tGs X.K B G0 (gNC s t)):=Rp (SG h1 h2 hs) λv σ H Q ⟨G,ρ,d,ρ',k,r,e,q⟩=>by
 cases r with
 |nil=>cases e
 |@cons w dw ws dws rw rt=>
  unfold gNC at e;dsimp only at e;cases z:s dw ρ with
  |none=>rw[z]at e;cases e
  |some ρ1=>rw[z]at e;refine⟨w,ws,rfl,G,ρ,dw,ρ1,k,rw,z,λσ' G' H' k' s'=>?_⟩;exact⟨G',ρ1,dws,ρ',k',rt.mono s',e,λσ2 G2 H2 k2 s2=>q σ2 G2 H2 k2 (s'.trans s2)⟩
noncomputable def gT(n:Nat)(t:C7->UA->Bg):D->UA->Bg:=λd ρ=>match d with | .tuple ds=>if ds.length=n then t ds ρ else C4|_=>C4
theorem MR{k1:Nat}{t:C7->UA->Bg}{n:Nat}(hc:X.calm=C5)(h:PGs X es (tGs X.K B G0 t))
  (hn:(Ux es X.env).length=n:=by rfl) (hst:(Ux es X.env).findIdx? (·.1)=C4:=by rfl):PG X (.Tuple es k1 pos) (tG X.K B G0 (gT n t)):=pgof (RS hc h hn hst) λv σ H Q ⟨G,ρ,d,ρ',k,r,e,q⟩=>by
 unfold gT at e;split at e
 .split at e
  .rename_i hl
   obtain⟨ad,vs,rfl,h1,r1⟩:=r.tup_inv;exact⟨ad,vs,rfl,ZB k.gh h1,by rw[r1.length];exact hl,G,ρ,_,ρ',k,r1,e,q⟩
  .cases e
 .cases e
noncomputable def ZK(f:M D)(s:D->UA->Bg):SM:=sB f λd ρ=>match s d ρ with|some ρ'=>.nx ρ'|none=>.bad
theorem MQ{tg:Ue}{f:M D}{s:D->UA->Bg}(he:PE X e (tD X.K B G0 f))(hg:PG X tg (tG X.K B G0 s))(hs:swapsWithSole [tg] e pos.line X.env=pure C6:=by rfl)(hw:swappedStores [tg] e X.env=pure C4:=by rfl)
  (h1:(Ux [tg] X.env).map (·.2)=[assign tg X.env]:=by rfl):PS X (.Assign [tg] e pos) (tS X.K B G0 KX (ZK f s)):=
 Kf (Hh he hg hs hw h1) λD σ H q=>tS.bnd (R:=Rep X.K) q λv H' G' ρ' x k r a=>by
  cases z:s x ρ' with
  |none=>rw[z]at a;exact a.elim
  |some ρ2=>rw[z]at a;exact⟨G',ρ',x,ρ2,k,r,z,λσ2 G2 H2 k2 s2=>a σ2 G2 H2 k2 s2⟩
noncomputable def UY(i:Nat)(f:M D):SM:=ZK f (gN i)
theorem MP{i:Nat}{x:Str}{f:M D}{p2:Pos}(hN:X.N.Nodup)(hi:X.N[i]?=O x)(hx:Loc X.env.scope x)(he:PE X e (tD X.K B G0 f))(hs:swapsWith e (O (.Name x p2)) pos.line X.env=pure C6:=by rfl)
  (hf:X.fn x=C5∨X.env.scope.names.lookup x=O .local:=by first|exact .inl rfl|exact .inr rfl|assumption):PS X (.Assign [.Name x p2] e pos) (tS X.K B G0 KX (UY i f)):=
 Kf (Sb hN hi hx he hs hf) λD σ H q=>tS.bnd (R:=Rep X.K) q λv H' G' ρ' x k r a=>by
  unfold gN at a;split at a
  .rename_i ρ2 hz
   split at hz
   .rename_i hi2
    cases hz;exact a _ G' H' (k.setPub r hi2) (.refl _)
   .cases hz
  .exact a.elim
noncomputable def tL(K:Frag)(B G0:Hp)(f:M C7):TE:=λσ H Q=>∃G ρ,EOk K B G0 G H σ ρ/\match f ρ with
 |.ok ds ρ'=>∀a vs G' H',EOk K B G0 G' H' σ ρ'->Same G G'->NewL K B G' H' σ ρ' a vs ds->Q (.ref a) H'
 |.bad=>False
noncomputable def Km(i:Nat)(f:M C7):SM:=sB f λds ρ=>if i<ρ.length then .nx (ρ.set i (O (.own ds)))else .bad
theorem HQ{i:Nat}{x:Str}{f:M C7}{p2:Pos}(hN:X.N.Nodup)(hi:X.N[i]?=O x)(hx:Loc X.env.scope x)(he:PE X e (tL X.K B G0 f))(hs:swapsWith e (O (.Name x p2)) pos.line X.env=pure C6:=by rfl)
  (hf:X.fn x=C5∨X.env.scope.names.lookup x=O .local:=by first|exact .inl rfl|exact .inr rfl|assumption):PS X (.Assign [.Name x p2] e pos) (tS X.K B G0 KX (Km i f)):=
 Kf (Sb hN hi hx he hs hf) λD σ H ⟨G,ρ,k,a⟩=>by
  refine⟨G,ρ,k,?_⟩;unfold Km sB at a;cases z:f ρ with
  |bad=>rw[z]at a;exact a.elim
  |ok ds ρ1=>
   rw[z]at a;intro ad vs G' H' k' s' n;dsimp only at a;split at a
   .rename_i hl
    exact a _ G' H' (k'.setOwn n hl) s'
   .exact a.elim
theorem NewL.of{K:Frag}{G H:Hp}{σ:St}{ρ:UA}{p:Uc}{vs:List V}{ds:C7}(k:EOk K B G0 G H σ ρ)(hp:H p=C4)(r:Reps K G vs ds):NewL K B G (upd H p (.lst vs)) σ ρ p vs ds where
 b:=k.bh.free hp
 g:=k.gh.free hp
 h:=Kd
 r:=r
 f:=λj es q z=>by obtain⟨a,ws,h1,h2,h3,h4,h5⟩:=k.own j es q;rw[z]at h1;cases h1;rw[hp]at h4;cases h4
 dp:=λj pt d v fp q s rr=>k.freshD (KB hp) hp q s rr
theorem SB{f:M C7}(h:PA X es (tDs X.K B G0 f)):PE X (.List es pos) (tL X.K B G0 (UM f λxs=>if xs.length<=1000000 then UE xs else λ_=>.bad)):=
 UR (Sd h) λσ H Q ⟨G,ρ,k,a⟩=>by
  refine⟨G,ρ,k,?_⟩;unfold UM at a;cases z:f ρ with
  |bad=>rw[z]at a;exact a.elim
  |ok ds ρ1=>
   rw[z]at a;dsimp only at a;intro v G' H' k' s' r;by_cases c:ds.length<=1000000
   .rw[Qq c]at a
    refine⟨by rw[r.length];exact Qy c lim,λp hp=>?_⟩;exact a p v G' _ (k'.ext (Ext.hid k'.gh hp)) s' (NewL.of k' hp r)
   .rw[QE c]at a;exact a.elim
noncomputable def KW(i:Nat)(f:M D):SM:=λρ0=>match ρ0[i]? with
 |some (O (.own _))=>sB f (λd ρ=>match ρ[i]? with
  |some (O (.own ds))=>if ds.length<1000000 then .nx (ρ.set i (O (.own (ds++[d]))))else .bad
  |_=>.bad) ρ0
 |_=>.bad
theorem MN{i:Nat}{f:M D}{o:Ue}{apos cpos:Pos}(ho:PE X o (U2 i))(he:PE X e (tD X.K B G0 f))
  (hbase:attributeBase o "append" X.env (eval o X.env)=eval o X.env:=by rfl)
  (hfew:((backTo cpos (Uh [e] X.env)).all (λx=>!x.1)&&(backToKw cpos (keywordEach [] X.env)).all (λx=>x.1.isSome)
   && decide ([e].length+([]:List Keyword).length+(if([]:List Keyword).isEmpty then 0 else 1)<30))=C5:=by rfl)
  (hline:(apos.endLine==cpos.line)=C5:=by rfl) (hs:Uh [e] X.env=[(C6,eval e X.env)]:=by rfl)
  (hsw:swapsWith (.Call (.Attribute o "append" apos) [e] [] cpos) C4 pos.line X.env=pure C6:=by rfl) :
  PS X (.Expr (.Call (.Attribute o "append" apos) [e] [] cpos) pos) (tS X.K B G0 KX (KW i f)):=
 Kf (X1 (Xu Jn Jv Jw WZ ho (ZZ he Z1 (by rw[hs];rfl)) hbase hfew hline (by rw[hs];rfl) C3) hsw) λD σ H ⟨G,ρ,k,a⟩=>by
  unfold KW at a;cases q0:ρ[i]? with
  |none=>rw[q0]at a;exact a.elim
  |some o0=>
   cases o0 with
   |none=>rw[q0]at a;exact a.elim
   |some sl0=>
    cases sl0 with
    |deep _ _=>rw[q0]at a;exact a.elim
    |pub d=>rw[q0]at a;exact a.elim
    |own BC=>
     rw[q0]at a;obtain⟨ad,vs0,h1,h2,h3,h4,h5⟩:=k.own i BC q0;refine⟨.ref ad,h1,.inl ⟨rfl,_,SqL.of h4⟩,G,ρ,k,?_⟩;unfold sB at a;cases z:f ρ with
     |bad=>rw[z]at a;exact a.elim
     |ok d ρ1=>
      rw[z]at a;dsimp only at a;intro v G' H' k' s' r';cases q:ρ1[i]? with
      |none=>rw[q]at a;exact a.elim
      |some o=>
       cases o with
       |none=>rw[q]at a;exact a.elim
       |some sl=>
        cases sl with
        |deep _ _=>rw[q]at a;exact a.elim
        |pub d=>rw[q]at a;exact a.elim
        |own ds=>
         rw[q]at a;dsimp only at a;split at a
         .rename_i hl
          obtain⟨ad',vs,g1,g2,g3,g4,g5⟩:=k'.own i ds q;rw[h1]at g1;cases g1;refine⟨ad,vs,v,rfl,rfl,g4,by rw[g5.length];exact Qv hl lim,?_⟩;exact a σ G' _ (k'.change q h1 (g5.append (.cons r' .nil))) s'
         .exact a.elim
end
structure Yn(K:Frag)(J:It)(ds:C7)(G1:Hp):Prop where
 go:∀i G H,Same G1 G->Same G H->i<ds.length->J.go i H
 stop:∀i G H,Same G1 G->Same G H->ds.length<=i->J.stop i H
 yld:∀i G H x H' d,Same G1 G->Same G H->ds[i]?=O d->J.yld i H x H'->∃G',Ext G H G' H'/\Rep K G' x d
noncomputable def iD(K:Frag)(B G0:Hp)(f:M C7):TI:=λσ H R=>∃G ρ,EOk K B G0 G H σ ρ/\match f ρ with
 |.ok ds ρ'=>∀J G' H',EOk K B G0 G' H' σ ρ'->Same G G'->Yn K J ds G'->R J H'
 |.bad=>False
section
variable{X:Cx}{B G0:Hp}{KX:XW}{e a b c tg:Ue}{pos:Pos}{es rest:Ba}{st:Stmt}{sts sts2:List Stmt}
theorem Yu{t t':TI}(h:PI X tg e t)(i:∀σ H R,t' σ H R->t σ H R):PI X tg e t':=λpins s σ H R I q=>h pins s σ H R I (i σ H R q)
theorem tM.toI{K:Frag}{α γ:Type}{R0:Hp->γ->α->Prop}{f:M α}{g:α->M C7}{σ:St}{H:Hp}{R:It->Hp->Prop}{P:γ->Hp->Prop}(q:iD K B G0 (UM f g) σ H R)
  (i:∀v H' G' ρ' x,EOk K B G0 G' H' σ ρ'->R0 G' v x->(match g x ρ' with
   |.ok ds ρ2=>∀J G2 H2,EOk K B G0 G2 H2 σ ρ2->Same G' G2->Yn K J ds G2->R J H2
   |.bad=>False)->P v H'):tM K B G0 R0 f σ H P:=by
 obtain⟨G,ρ,k,a⟩:=q;refine⟨G,ρ,k,?_⟩;unfold UM at a;cases z:f ρ with
 |bad=>rw[z]at a;exact a.elim
 |ok d ρ1=>
  rw[z]at a;intro v G' H' e s r;refine i v H' G' ρ1 d e r ?_;dsimp only at a;cases z2:g d ρ1 with
  |bad=>rw[z2]at a;exact a.elim
  |ok ds ρ2=>rw[z2]at a;exact λJ G2 H2 k2 s2 it=>a J G2 H2 k2 (s.trans s2) it
theorem DU{K:Frag}{G1:Hp}{ad:Uc}{vs:List V}{ds:C7}(h:SqL K G1 ad vs)(r:Reps K G1 vs ds):Yn K (Itl K ad) ds G1 where
 go:=λi G H s1 s2 hi=>by
  have hi':i<vs.length:=by rw[r.length];exact hi
  exact⟨vs,vs[i],(s1.trans s2).seq h,Qb hi'⟩
 stop:=λi G H s1 s2 hi=>⟨vs,(s1.trans s2).seq h,by rw[r.length];exact hi⟩
 yld:=λi G H x H' d s1 s2 e y=>by obtain⟨rfl,y⟩:=y;obtain⟨v,e1,r1⟩:=r.get e;have:=y vs ((s1.trans s2).seq h);rw[e1]at this;cases this;exact⟨G,.refl s2,r1.mono s1⟩
noncomputable def KS(lo hi:Int):C7:=(Uj (hi-lo).toNat).map λ(k:Nat)=>.int (lo+k)
theorem Y2(lo hi:Int):(KS lo hi).length=(hi-lo).toNat:=by unfold KS;rw[Qd,QW]
theorem Nh{K:Frag}{G1:Hp}(lo hi:Int):Yn K (Itr lo (hi-lo).toNat) (KS lo hi) G1 where
 go:=λi G H s1 s2 h=>by rw[Y2]at h;exact h
 stop:=λi G H s1 s2 h=>by rw[Y2]at h;exact h
 yld:=λi G H x H' d s1 s2 e y=>by
  obtain⟨rfl,rfl⟩:=y;unfold KS at e;rw[Qj]at e;have hi:i<(Uj (hi-lo).toNat).length:=by refine Nat.lt_of_not_le λz=>?_;rw[Jd z]at e;cases e
  rw[Qb hi,List.getElem_range]at e;cases e;exact⟨G,.refl s2,.int _⟩
noncomputable def WC:C7->Option C7
 |[.int j]=>if j<=1000000 /\ -1000000<=j then O (KS 0 j)else C4
 |_=>C4
noncomputable def WB:C7->Option C7
 |[.int i,.int j]=>if j<=1000000 /\ -1000000<=j/\i<=1000000 /\ -1000000<=i then O (KS i j)else C4
 |_=>C4
noncomputable def YN(f:M C7):M C7:=UM f λx=>UN (WC x)
noncomputable def W7(f:M C7):M C7:=UM f λx=>UN (WB x)
theorem Dd{f:M C7}{p2:Pos}(hg:Gl X "range")(hm:X.mg "range" = C4)(ha:PA X [a] (tDs X.K B G0 f))(hs:Uh [a] X.env=[(C6,eval a X.env)]:=by rfl) :
  PI X tg (.Call (.Name "range" p2) [a] [] pos) (iD X.K B G0 (YN f)):=Yu (D3 hg hm ha hs) λσ H R q=>tM.toI (R0:=Reps X.K) q λv H' G' ρ' x k r a=>by
 cases z:WC x with
 |none=>rw[z]at a;exact a.elim
 |some ds=>
  rw[z]at a;unfold WC at z;split at z
  .split at z
   .rename_i j c
    cases z;obtain⟨w,rfl,r'⟩:=r.one_inv;refine⟨j,by rw[r'.int_inv],by lia,by lia,?_⟩;have it:=Nh (K:=X.K) (G1:=G') 0 j;rw[Int.sub_zero]at it;exact a _ G' H' k (.refl _) it
   .cases z
  .cases z
theorem Dc{f:M C7}{p2:Pos}(hg:Gl X "range")(hm:X.mg "range" = C4)(ha:PA X [a,b] (tDs X.K B G0 f))(hs:Uh [a,b] X.env=[(C6,eval a X.env),(C6,eval b X.env)]:=by rfl)(hs2:Uh [b] X.env=[(C6,eval b X.env)]:=by rfl) :
  PI X tg (.Call (.Name "range" p2) [a,b] [] pos) (iD X.K B G0 (W7 f)):=Yu (D2 hg hm ha hs hs2) λσ H R q=>tM.toI (R0:=Reps X.K) q λv H' G' ρ' x k r a=>by
 cases z:WB x with
 |none=>rw[z]at a;exact a.elim
 |some ds=>
  rw[z]at a;unfold WB at z;split at z
  .split at z
   .rename_i i j c
    cases z;obtain⟨w,w',rfl,r1,r2⟩:=r.two_inv;refine⟨i,j,by rw[r1.int_inv,r2.int_inv],⟨by lia,by lia,by lia,by lia⟩,?_⟩;exact a _ G' H' k (.refl _) (Nh i j)
   .cases z
  .cases z
noncomputable def ZF(n:Nat):C7->C7
 |[]=>[]
 |d::r=>.tuple [.int n,d]::ZF (n+1) r
theorem VC:∀(n:Nat)(ds:C7),(ZF n ds).length=ds.length
 |_,[]=>rfl
 |n,d::r=>by rw[ZF,Qz,Qz,VC]
theorem O0:∀(n:Nat)(ds:C7)(i:Nat),(ZF n ds)[i]?=ds[i]?.map λd=>.tuple [.int ((n+i:Nat):Int),d]
 |_,[],i=>by simp[ZF]
 |n,d::r,0=>by simp[ZF]
 |n,d::r,i+1=>by
  rw[ZF,JG,JG,O0 (n+1) r i];have:n+1+i=n+(i+1):=by lia
  rw[this]
theorem DT{K:Frag}{G1:Hp}{ad:Uc}{vs:List V}{ds:C7}(h:SqL K G1 ad vs)(r:Reps K G1 vs ds):Yn K (Ite K ad) (ZF 0 ds) G1 where
 go:=λi G H s1 s2 hi=>by
  rw[VC]at hi;have hi':i<vs.length:=by rw[r.length];exact hi
  exact⟨vs,vs[i],(s1.trans s2).seq h,Qb hi'⟩
 stop:=λi G H s1 s2 hi=>by rw[VC]at hi;exact⟨vs,(s1.trans s2).seq h,by rw[r.length];exact hi⟩
 yld:=λi G H x H' d s1 s2 e y=>by
  obtain⟨p,v,hp,rfl,y,rfl⟩:=y;rw[O0]at e;cases z:ds[i]? with
  |none=>rw[z]at e;cases e
  |some d0=>rw[z]at e;cases e;obtain⟨w,e1,r1⟩:=r.get z;have:=y vs ((s1.trans s2).seq h);rw[e1]at this;cases this;refine⟨upd G p (.tup [.int i,v]),Ext.new s2 hp,.tup (SqT.of Kd) (.cons ?_ (.cons ((r1.mono s1).mono (KB (s2.free hp))) .nil))⟩;rw[JH];exact .int _
noncomputable def W6:C7->Option C7
 |[.list ds]=>O (ZF 0 ds)
 |_=>C4
noncomputable def XM(f:M C7):M C7:=UM f λx=>UN (W6 x)
theorem HP{f:M C7}{p2:Pos}{elts:Ba}{x1}{tp:Pos}(hg:Gl X "enumerate")(hm:X.mg "enumerate" = C4)(ha:PA X [a] (tDs X.K B G0 f))(hs:Uh [a] X.env=[(C6,eval a X.env)]:=by rfl) :
  PI X (.Tuple elts x1 tp) (.Call (.Name "enumerate" p2) [a] [] pos) (iD X.K B G0 (XM f)):=Yu (Fd hg hm ha hs) λσ H R q=>tM.toI (R0:=Reps X.K) q λv H' G' ρ' x k r a=>by
 cases z:W6 x with
 |none=>rw[z]at a;exact a.elim
 |some ds=>
  rw[z]at a;unfold W6 at z;split at z
  .cases z
   obtain⟨w,rfl,r'⟩:=r.one_inv;obtain⟨ad,vs,rfl,h1,r1⟩:=r'.lst_inv;exact⟨ad,vs,rfl,k.gh.seq h1,a _ G' H' k (.refl _) (DT h1 r1)⟩
  .cases z
noncomputable def Xr(s:D->UA->Bg)(g:SM):C7->SM
 |[],ρ=>.nx ρ
 |d::r,ρ=>match s d ρ with
  |none=>.bad
  |some ρ1=>match g ρ1 with
   |.nx ρ2=>Xr s g r ρ2
   |.ct ρ2=>Xr s g r ρ2
   |.bk ρ2=>.nx ρ2
   |.rt d=>.rt d
   |.ro ds=>.ro ds
   |.ex ρ2 d=>.ex ρ2 d
   |.bad=>.bad
noncomputable def Kq(f:M C7)(s:D->UA->Bg)(g:SM):SM:=sB f λds=>Xr s g ds
theorem MM{iter:Ue}{body:List Stmt}{f:M C7}{s:D->UA->Bg}{g:SM}(hp:PassesOwn (model X.prog X.w) X.A X.env X.xe)(hc:X.calm=C5)(hi:PI X tg iter (iD X.K B G0 f))(hg:PG X tg (tG X.K B G0 s))(hb:PSs X body (tS X.K B G0 KX g))
  (hs:∀x,Uy iter X.env x=pure x:=by intro _;rfl):PS X (.For tg iter body [] pos) (tS X.K B G0 KX (Kq f s g)):=
 Kf (VW hp hc hi hg hb hs) λDn σ H ⟨G,ρ,k,a⟩=>by
  refine⟨G,ρ,k,?_⟩;unfold Kq sB at a;cases z:f ρ with
  |bad=>rw[z]at a;exact a.elim
  |ok ds ρ1=>
   rw[z]at a;dsimp only at a⊢;intro J G1 H1 k1 s1 it;refine⟨λi m σ' H'=>m=ds.length-i/\∃G' ρ',EOk X.K B G0 G' H' σ' ρ'/\Same G1 G'/\aftS X.K B G0 KX (Xr s g (ds.drop i) ρ') G' Dn,⟨ds.length,by lia,G1,ρ1,k1,.refl _,by rw[List.drop_zero];exact aftS.mono s1 a⟩,?_⟩;rintro i m σ' H' ⟨rfl,G',ρ',k',s',a'⟩;by_cases hi:i<ds.length
   .right
    refine⟨it.go i G' H' s' k'.gh hi,λσ2 H2=>∃G2 ρ2,EOk X.K B G0 G2 H2 σ2 ρ2/\Same G1 G2/\aftS X.K B G0 KX (Xr s g (ds.drop (i+1)) ρ2) G2 Dn,λσ2 H2 h2=>⟨ds.length-(i+1),by lia,rfl,h2⟩,λx H2 y=>?_⟩;obtain⟨G2,ex,rx⟩:=it.yld i G' H' x H2 ds[i] s' k'.gh (Qb hi) y;rw[Jq hi,Xr]at a';cases z2:s ds[i] ρ' with
    |none=>rw[z2]at a';exact a'.elim
    |some ρ2=>
     rw[z2]at a';dsimp only at a';refine⟨G2,ρ',ds[i],ρ2,k'.ext ex,rx,z2,λσ3 G3 H3 k3 s3=>⟨G3,ρ2,k3,?_⟩⟩;have s13:Same G1 G3:=(s'.trans ex.g).trans s3;cases z3:g ρ2 with
     |nx ρ3=>rw[z3]at a';exact λσ4 G4 H4 k4 s4=>⟨G4,ρ3,k4,s13.trans s4,aftS.mono ((ex.g.trans s3).trans s4) a'⟩
     |ct ρ3=>rw[z3]at a';exact λσ4 G4 H4 k4 s4=>⟨G4,ρ3,k4,s13.trans s4,aftS.mono ((ex.g.trans s3).trans s4) a'⟩
     |bk ρ3=>rw[z3]at a';exact λσ4 G4 H4 k4 s4=>a' σ4 G4 H4 k4 ((ex.g.trans s3).trans s4)
     |rt d=>rw[z3]at a';exact a'
     |ro ds=>rw[z3]at a';exact a'
     |ex ρ3 d=>rw[z3]at a';exact λv σ4 G4 H4 k4 s4 r4=>a' v σ4 G4 H4 k4 ((ex.g.trans s3).trans s4) r4
     |bad=>rw[z3]at a';exact a'.elim
   .left
    rw[JI (by lia)]at a';exact⟨it.stop i G' H' s' k'.gh (by lia),a' σ' G' H' k' (.refl _)⟩
theorem FR{k:Nat}{f:Uc}{fd:Ud}{ps:List Str}{F:C7->Bb}{g:M C7}{x:Str}{p2:Pos}{n:Nat}(FK:FnOk X.prog X.w X.K X.mg X.base CX0 k f fd ps (spD X.K n F))(hr:Room k X.A)(hg:Gl X x)(hm:X.mg x=O (.ref f))(hk:PySem.W.keepIn X.K (.ref f)=C5)
  (hb:YG X.K fd ps []) (ha:PA X (e::es) (tDs X.K B G0 g)) (hn:(e::es).length=n) (hdb:(x==("__debug__" : Str))=C6:=by decide) (he:Uh (e::es) X.env=(C6,eval e X.env)::Uh es X.env:=by rfl) (hpl:(backTo pos (Uh es X.env)).any (·.1)=C6:=by rfl) :
  PE X (.Call (.Name x p2) (e::es) [] pos) (tD X.K B G0 (UM g λxs=>if xs.length=n then UN (F xs)else λ_=>.bad)):=
 UR (Sv FK hr hg hm hk hb .nil TY ha hdb he hpl) λσ H Q q=>tM.one (R:=Reps X.K) q λv H2 G ρ ds k r a=>by
  split at a
  .rename_i hl
   obtain⟨d,e,a⟩:=a.opt;exact⟨G,ds,d,by rw[QS,r.length];exact hl,k.gh,by rw[QS];exact r,e,λw G' H' ex rw=>a.done k ex rw⟩
  .exact a.elim
end
noncomputable def K5(N:List Str)(ds:C7):UA:=(ds.map λd=>O (Sl.pub d))++Uk (N.length-ds.length) C4
theorem SE{K:Frag}{N:List Str}{G H:Hp}{vs:List V}{ds:C7}(s:Same G H)(r:Reps K G vs ds):EOk K H G G H (L2.Yl N vs) (K5 N ds) where
 bh:=.refl _
 gh:=s
 g0:=.refl _
 np:=λ_ _ _ n=>n
 len:=by unfold L2.Yl K5;rw[Qk,Qk,Qd,Qd,QT,QT,r.length]
 pub:=λi d q=>by
  unfold K5 at q;unfold L2.Yl;by_cases hi:i<ds.length
  .rw[Qn (by rw[Qd];exact hi),Qj]at q
   cases z:ds[i]? with
   |none=>rw[z]at q;cases q
   |some d'=>rw[z]at q;cases q;obtain⟨v,e1,r1⟩:=r.get z;refine⟨v,?_,r1⟩;rw[Qn (by rw[Qd,r.length];exact hi),Qj,e1];rfl
  .rw[Qs (by rw[Qd];lia),QA]at q
   split at q<;>cases q
 own:=λi es q=>by
  unfold K5 at q;by_cases hi:i<ds.length
  .rw[Qn (by rw[Qd];exact hi),Qj]at q
   cases z:ds[i]? with
   |none=>rw[z]at q;cases q
   |some d'=>rw[z]at q;cases q
  .rw[Qs (by rw[Qd];lia),QA]at q
   split at q<;>cases q
 sep:=λi j a es fs q _ _ _=>by
  unfold K5 at q;by_cases hi:i<ds.length
  .rw[Qn (by rw[Qd];exact hi),Qj]at q
   cases z:ds[i]? with
   |none=>rw[z]at q;cases q
   |some d'=>rw[z]at q;cases q
  .rw[Qs (by rw[Qd];lia),QA]at q
   split at q<;>cases q
 dp:=by
  have key:∀{i:Nat}{s:Sl},(K5 N ds)[i]?=O (O s)->∃d,s=.pub d:=λ{i s} q=>by
   unfold K5 at q;by_cases hi:i<ds.length
   .rw[Qn (by rw[Qd];exact hi),Qj]at q
    cases z:ds[i]? with
    |none=>rw[z]at q;cases q
    |some d'=>rw[z]at q;cases q;exact⟨_,rfl⟩
   .rw[Qs (by rw[Qd];lia),QA]at q
    split at q<;>cases q
  exact .of (λi p d q=>by obtain⟨_,e⟩:=key q;cases e) λi ds q=>by obtain⟨_,e⟩:=key q;cases e
noncomputable def U5(N:List Str)(g:SM)(ds:C7):Bb:=match g (K5 N ds)with
 |.rt d=>O d
 |.nx _=>O .none
 |_=>C4
theorem okD{P:Ub}{w:World}{K:Frag}{mg:Str->Bd}{base:Heap}{x qual:Str}{st:Stmt}{f:Uc}{fd:Ud}{N ps:List Str}{k n:Nat}{g:SM}(F:Fun K x qual st f fd)(S:X0 N ps (Kw st))(hn:ps.length=n)
  (der:∀(cdv:J9)(A:Around)(outer:List Env)(s:Ua)(H:Hp)(E:XK)(B G0:Hp),Room k (A.deeper (envOfC qual (Kw st) s.heap.objs.size f cdv)) ->
   PSs (Zi CX0 P w K mg base N qual (Kw st) f cdv A outer s H E).nox (ZY st) (tS K B G0 KX0 g)):FnOk P w K mg base CX0 (k+1) f fd ps (spD K n (U5 N g)):=by
 refine F.ok S (λvs H Q E h=>?_) (λcdv A outer s H vs Q E hr h=>?_)
 .obtain⟨_,_,_,hl,_⟩:=h
  rw[hl,hn]
 .obtain⟨G,ds,d,hl,sg,r,hF,q⟩:=h
  refine⟨_,der cdv A outer s H E H G hr,G,K5 N ds,SE sg r,?_⟩;unfold U5 at hF;cases z:g (K5 N ds)with
  |rt d'=>rw[z]at hF;cases hF;exact λv G' H' ex rr=>q v G' H' ex rr
  |nx ρ=>rw[z]at hF;cases hF;exact λσ' G' H' k' _=>q .non G' H' k'.exit .non
  |ro ds=>rw[z]at hF;cases hF
  |bk ρ=>rw[z]at hF;cases hF
  |ct ρ=>rw[z]at hF;cases hF
  |ex ρ d=>rw[z]at hF;cases hF
  |bad=>rw[z]at hF;cases hF
section
variable{X:Cx}{B G0:Hp}{e a b c tg:Ue}{pos:Pos}{es rest:Ba}
noncomputable def oNeg:D->Bb
 |.int i=>O (.int (-i))
 |_=>C4
noncomputable def ZO(f:M D):M D:=UM f λx=>UN (oNeg x)
theorem HN{f:M D}(h:PE X a (tD X.K B G0 f)):PE X (.UnaryOp .USub a pos) (tD X.K B G0 (ZO f)):=
 UR (NJ Ha h) λσ H Q q=>tM.one (R:=Rep X.K) q λv H2 G ρ x k r a=>by
  cases x with
  |int i=>exact⟨i,r.int_inv,aft.now a k (.int _)⟩
  |_=>exact a.elim
end
def Def(P:Ub)(w:World)(K:Frag)(mg:Str->Bd)(base:Heap)(x:Str)(k n:Nat)(F:C7->Bb):Prop:=
 ∃(f:Uc)(fd:Ud)(ps:List Str),mg x=O (.ref f)/\PySem.W.keepIn K (.ref f)=C5/\YG K fd ps []/\FnOk P w K mg base CX0 k f fd ps (spD K n F)
noncomputable def UQ(n:Nat)(F:C7->Bb)(g:M C7):M D:=UM g λxs=>if xs.length=n then UN (F xs)else λ_=>.bad
section
variable{X:Cx}{B G0:Hp}{e:Ue}{pos:Pos}{es:Ba}
theorem HM{k n:Nat}{F:C7->Bb}{g:M C7}{x:Str}{p2:Pos}(d:Def X.prog X.w X.K X.mg X.base x k n F)(hr:Room k X.A)(hg:Gl X x)(ha:PA X (e::es) (tDs X.K B G0 g))(hn:(e::es).length=n:=by rfl)
  (hdb:(x==("__debug__" : Str))=C6:=by decide) (he:Uh (e::es) X.env=(C6,eval e X.env)::Uh es X.env:=by rfl) (hpl:(backTo pos (Uh es X.env)).any (·.1)=C6:=by rfl) :
  PE X (.Call (.Name x p2) (e::es) [] pos) (tD X.K B G0 (UQ n F g)):=by
 obtain⟨f,fd,ps,h1,h2,h3,h4⟩:=d;exact FR h4 hr hg h1 h2 h3 ha hn hdb he hpl
end
theorem Def.mk{P:Ub}{w:World}{K:Frag}{mg:Str->Bd}{base:Heap}{x:Str}{k n:Nat}{F:C7->Bb}{st:Stmt}{f:Uc}{fd:Ud}{ps:List Str}(hm:mg x=O (.ref f))(FU:Fun K x x st f fd)(hb:YG K fd ps [])(ok:FnOk P w K mg base CX0 k f fd ps (spD K n F)) :
  Def P w K mg base x k n F:=⟨f,fd,ps,hm,FU.kp,hb,ok⟩
theorem ML{K:Frag}{H:Hp}{a:Uc}{ns:C8}{F:C7->Bb}{E:XK}(hS:SqL K H a (ns.map V.int))(h:F [.list (ns.map int)]=O (.bool C5)):spD K 1 F [.ref a] H (λv _=>v=.bl C5) E:=
 ⟨H,[.list (ns.map int)],.bool C5,rfl,.refl _,.cons (.lst hS (Reps.ints ns)) .nil,h,λ_ _ _ _ r=>r.bl_inv⟩
end DL
namespace L2
open PySem PySem.Spec PyProof.Rows
theorem mem_of_lookup{x:Str}{k:NameKind}:∀{l:List (Str×NameKind)},l.lookup x=O k->(x,k)∈l
 |[],h=>by cases h
 |(y,j)::r,h=>by
  rw[QR]at h;split at h
  .rename_i e
   cases h;have:x=y:=by simpa using e
   rw[this];exact Qh
  .exact Qm _ (mem_of_lookup h)
theorem Re{env:Env}:∀(l:List (Str×NameKind))(acc:List (Str×Uc)),(∀y∈l,y.2=.free->∃c,env.cells.lookup y.1=O c) ->
  ∃cl,(forIn l acc (λx r=>if(x.2==NameKind.free)=C5 then(do let a ←cellOf env x.1;pure (ForInStep.yield ((x.1,a)::r)))else pure (ForInStep.yield r)):Sem (List (Str×Uc)))=pure cl /\
   (∀x c,cl.lookup x=O c->acc.lookup x=O c∨env.cells.lookup x=O c)/\(∀y∈l,y.2=.free->∃c,cl.lookup y.1=O c)/\(∀x c,acc.lookup x=O c->∃c',cl.lookup x=O c')
 |[],acc,_=>⟨acc,rfl,λ_ _ h=>.inl h,λ_ h=>absurd h (by simp),λx c h=>⟨c,h⟩⟩
 |(n,k)::r,acc,h=>by
  by_cases hk:k=.free
  .subst hk
   obtain⟨c,hc⟩:=h (n,.free) Qh C3;obtain⟨cl,e,p1,p2,p3⟩:=Re r ((n,c)::acc) λy hy=>h y (Qm _ hy)
   have hco:cellOf env n=pure c:=by unfold cellOf;rw[hc]
   have key:∀x c',((n,c)::acc).lookup x=O c'->acc.lookup x=O c'∨env.cells.lookup x=O c':=λx c' q=>by
    rw[QR]at q;split at q
    .rename_i e1
     cases q;have:x=n:=by simpa using e1
     subst this;exact .inr hc
    .exact .inl q
   have own:((n,c)::acc).lookup n=O c:=by rw[List.lookup_cons];simp
   refine⟨cl,?_,λx c' q=>?_,λy hy hf=>?_,λx c' q=>?_⟩
   .rw[List.forIn_cons]
    have:(if(((n,NameKind.free):Str×NameKind).2==NameKind.free)=C5 then(do let a ←cellOf env n;pure (ForInStep.yield ((n,a)::acc)))else pure (ForInStep.yield acc):Sem _)=pure (ForInStep.yield ((n,c)::acc)):=by rw[Qq (show((n,NameKind.free).snd==NameKind.free)=C5 from rfl),hco];rfl
    refine Eq.trans ?_ e;dsimp only at this⊢;rw[this];rfl
   .rcases p1 x c' q with z|z
    .exact key x c' z
    .exact .inr z
   .rcases QM.mp hy with z|z
    .subst z
     exact p3 n c own
    .exact p2 y z hf
   .by_cases hx:x=n
    .subst hx;exact p3 x c own
    .refine p3 x c' ?_
     have hb:(x==n)=C6:=by simpa using hx
     rw[QR,hb];exact q
  .obtain⟨cl,e,p1,p2,p3⟩:=Re r acc λy hy=>h y (Qm _ hy)
   refine⟨cl,?_,p1,λy hy hf=>?_,p3⟩
   .rw[List.forIn_cons]
    have hb:(k==NameKind.free)=C6:=by cases k<;>first|rfl|exact absurd C3 hk
    refine Eq.trans ?_ e;dsimp only;rw[hb,QE (by decide)];rfl
   .rcases QM.mp hy with z|z
    .subst z;exact absurd hf hk
    .exact p2 y z hf
theorem DS{scope:Scope}{env:Env}(h:∀y∈scope.names,y.2=.free->∃c,env.cells.lookup y.1=O c) :
  ∃cl,closureFor scope env=pure cl/\(∀x c,cl.lookup x=O c->env.cells.lookup x=O c)/\∀y∈scope.names,y.2=.free->∃c,cl.lookup y.1=O c:=by
 obtain⟨cl,e,p1,p2,_⟩:=Re scope.names [] h;refine⟨cl,?_,λx c q=>(p1 x c q).elim (λz=>by cases z) id,p2⟩;have e2:((forIn scope.names [] (λx r=>if(x.2==NameKind.free)=C5 then(do let a ←cellOf env x.1;pure (ForInStep.yield ((x.1,a)::r)))else pure (ForInStep.yield r)):Sem (List (Str×Uc))) >>= λs=>pure s)=pure cl:=by rw[e];rfl
 exact e2
theorem Ng{env:Env}{x:Str}{k:NameKind}:∀{names:List (Str×NameKind)},(names.map λ(n,k)=>if(k==NameKind.free&&env.scope.kind==.function&&env.kindOf n==O .cell)then(n,NameKind.cell)else(n,k)).lookup x=O k ->
  names.lookup x=O k∨(names.lookup x=O .free/\k=.cell)
 |[],h=>by cases h
 |(n,j)::r,h=>by
  have ih:=@Ng env x k r;have h:List.lookup x ((if(j==NameKind.free&&env.scope.kind==.function&&env.kindOf n==O .cell)=C5 then(n,NameKind.cell)else(n,j))::_)=O k:=h;cases hx:x==n with
  |true=>
   by_cases hc:(j==NameKind.free&&env.scope.kind==.function&&env.kindOf n==O .cell)=C5
   .rw[Qq hc]at h
    simp only[QR,hx]at h⊢;cases h;simp only[QQ]at hc;have:j=.free:=by have:=hc.1.1;cases j<;>first|rfl|cases this
    subst this;exact .inr ⟨rfl,rfl⟩
   .rw[QE hc]at h
    simp only[QR,hx]at h⊢;exact .inl h
  |false=>
   by_cases hc:(j==NameKind.free&&env.scope.kind==.function&&env.kindOf n==O .cell)=C5
   .rw[Qq hc]at h
    simp only[QR,hx]at h⊢;exact ih h
   .rw[QE hc]at h
    simp only[QR,hx]at h⊢;exact ih h
theorem Np{env:Env}{x:Str}:∀{names:List (Str×NameKind)},names.lookup x=O .free ->
  (names.map λ(n,k)=>if(k==NameKind.free&&env.scope.kind==.function&&env.kindOf n==O .cell)then(n,NameKind.cell)else(n,k)).lookup x=O .free ∨
  (names.map λ(n,k)=>if(k==NameKind.free&&env.scope.kind==.function&&env.kindOf n==O .cell)then(n,NameKind.cell)else(n,k)).lookup x=O .cell
 |[],h=>by cases h
 |(n,j)::r,h=>by
  have ih:=@Np env x r;show List.lookup x ((if(j==NameKind.free&&env.scope.kind==.function&&env.kindOf n==O .cell)=C5 then(n,NameKind.cell)else(n,j))::_)=_∨List.lookup x ((if(j==NameKind.free&&env.scope.kind==.function&&env.kindOf n==O .cell)=C5 then(n,NameKind.cell)else(n,j))::_)=_;cases hx:x==n with
  |true=>
   simp only[QR,hx]at h;cases h;by_cases hc:(NameKind.free==NameKind.free&&env.scope.kind==.function&&env.kindOf n==O .cell)=C5
   .rw[if_pos hc];simp[List.lookup_cons,hx]
   .rw[if_neg hc];simp[List.lookup_cons,hx]
  |false=>
   simp only[QR,hx]at h;by_cases hc:(j==NameKind.free&&env.scope.kind==.function&&env.kindOf n==O .cell)=C5
   .rw[Qq hc];simp only[QR,hx];exact ih h
   .rw[QE hc];simp only[QR,hx];exact ih h
theorem Wa{env:Env}{x:Str}{k:NameKind}(hk:k≠.free):∀{names:List (Str×NameKind)},names.lookup x=O k ->
  (names.map λ(n,k)=>if(k==NameKind.free&&env.scope.kind==.function&&env.kindOf n==O .cell)then(n,NameKind.cell)else(n,k)).lookup x=O k
 |[],h=>by cases h
 |(n,j)::r,h=>by
  have ih:=@Wa env x k hk r;show List.lookup x ((if(j==NameKind.free&&env.scope.kind==.function&&env.kindOf n==O .cell)=C5 then(n,NameKind.cell)else(n,j))::_)=_;cases hx:x==n with
  |true=>
   simp only[QR,hx]at h;cases h;have:(k==NameKind.free)=C6:=by cases k<;>first|rfl|exact absurd C3 hk
   rw[if_neg (by rw[this];simp)];simp[List.lookup_cons,hx]
  |false=>
   simp only[QR,hx]at h;by_cases hc:(j==NameKind.free&&env.scope.kind==.function&&env.kindOf n==O .cell)=C5
   .rw[Qq hc];simp only[QR,hx];exact ih h
   .rw[QE hc];simp only[QR,hx];exact ih h
structure ClOk(env:Env)(scope:Scope)(cl:List (Str×Uc))(L:Uc)(h':Heap):Prop where
 old:∀x c,cl.lookup x=O c->env.cells.lookup x=O c∨(L<c/\h'.IsCell c C4)
 fre:∀x,scope.names.lookup x=O .free->∃c,cl.lookup x=O c/\env.cells.lookup x=O c
 cel:∀x,scope.names.lookup x=O .cell->∃c,cl.lookup x=O c/\L<c
 inj:∀x y c,cl.lookup x=O c->cl.lookup y=O c->L<c->x=y
theorem VD:∀(names:List (Str×NameKind))(n:Nat)(acc:List (Str×Uc)),cellsFrom n names acc=cellsFrom n names []++acc
 |[],_,_=>rfl
 |(x,k)::r,n,acc=>by
  unfold cellsFrom;split
  .rw[VD r (n+1) ((x,n)::acc),VD r (n+1) [(x,n)],QY];rfl
  .exact VD r n acc
theorem Rk:∀(names:List (Str×NameKind))(n:Nat)(x:Str)(c:Uc),(x,c)∈cellsFrom n names []->(x,NameKind.cell)∈names
 |[],_,_,_,h=>by cases h
 |(y,k)::r,n,x,c,h=>by
  unfold cellsFrom at h;split at h
  .rename_i hk
   rw[VD]at h;rcases QF.mp h with h|h
   .exact Qm _ (Rk r _ x c h)
   .cases Qw.mp h
    have:k=.cell:=by simpa using hk
    rw[this];exact Qh
  .exact Qm _ (Rk r _ x c h)
theorem MK{M:Model}{A:Around}{E:J9->Ua->Prop}{scope:Scope}{env:Env}{Ah:List (Str×Uc)}{s:Ua}{Q:Env->Ua->Prop}(Ag:∀x c,Ah.lookup x=O c->env.cells.lookup x=O c)(cl2:∀y∈scope.names,y.2=.free->∃c,Ah.lookup y.1=O c)(hn:∀y∈scope.names,scope.names.lookup y.1=O y.2)
  (hlt:∀x c,env.cells.lookup x=O c->c<s.heap.objs.size)
  (h:∀h' cl,h'.Ns s.heap.objs.size (λ_=>C4)->(∀b o,s.heap.get? b=O o->h'.get? b=O o)->ClOk env scope cl s.heap.objs.size h'->Q (newEnv scope s.heap.objs.size env.globals cl env.qual C4 .none (O env) builtinsNs) {s with heap:=h'}) :
  Ug M A (newFunctionEnv scope env.globals Ah [] env.qual C4 .none (O env)) Q E s:=by
 simp only[newFunctionEnv,Option.isSome_some,if_true];refine Qe (wpAny_alloc ?_);refine wpAny_bind (wpAny_layCells _ (λname kind cells=>by cases hkc:kind==NameKind.cell<;>simp[hkc]) _ _ _ _ ?_);have ok:=cellsFrom_ok scope.names (s.heap.push {cls:=.type "dict", data:=.dict #[]}) (s.heap.objs.size+1) [] ⟨λ_ _ hm=>(nomatch hm),List.Pairwise.nil⟩ (by rw[Heap.size_push];exact Qo _);rw[Heap.size_push]at ok;rw[show({s with heap:=s.heap.push {cls:=.type "dict", data:=.dict #[]}}:Ua).heap.objs.size=s.heap.objs.size+1 from Heap.size_push ..];rw[List.forIn_nil];refine Qe (Qp (Qp (h _ _ ((Heap.Ns.new s.heap (.type "dict")).keeps (pushCells_keeps _ _)) (λb o e=>pushCells_keeps _ _ b o (Ql _ e)) ?_)));have look:∀x,(cellsFrom (s.heap.objs.size+1) scope.names Ah).lookup x=((cellsFrom (s.heap.objs.size+1) scope.names []).lookup x).or (Ah.lookup x):=λx=>by rw[VD,List.lookup_append]
 have own:∀x c,(cellsFrom (s.heap.objs.size+1) scope.names []).lookup x=O c->scope.names.lookup x=O .cell:=λx c e=>hn _ (Rk _ _ _ _ (Q9 e))
 refine⟨λx c e=>?_,λx e=>?_,λx e=>?_,λx y c e1 e2 hc=>?_⟩
 .rw[look]at e
  cases z:(cellsFrom (s.heap.objs.size+1) scope.names []).lookup x with
  |none=>rw[z]at e;exact .inl (Ag x c e)
  |some c'=>rw[z]at e;cases e;obtain⟨h1,h2⟩:=ok.empty x c (Q9 z);exact .inr ⟨h2,h1⟩
 .obtain⟨c,hc⟩:=cl2 (x,.free) (mem_of_lookup e) C3
  refine⟨c,?_,Ag x c hc⟩;rw[look];cases z:(cellsFrom (s.heap.objs.size+1) scope.names []).lookup x with
  |none=>exact hc
  |some c'=>have:=own x c' z;rw[e]at this;cases this
 .obtain⟨c,hc⟩:=SF (n:=s.heap.objs.size+1) e
  refine⟨c,by rw[look,hc];rfl,(ok.empty x c (Q9 hc)).2⟩
 .rw[look]at e1 e2
  cases z1:(cellsFrom (s.heap.objs.size+1) scope.names []).lookup x with
  |none=>rw[z1]at e1;exact absurd (hlt x c (Ag x c e1)) (Nat.lt_asymm hc)
  |some c1=>
  cases z2:(cellsFrom (s.heap.objs.size+1) scope.names []).lookup y with
  |none=>rw[z2]at e2;exact absurd (hlt y c (Ag y c e2)) (Nat.lt_asymm hc)
  |some c2=>rw[z1]at e1;rw[z2]at e2;cases e1;cases e2;exact name_of_addr ok.apart (Q9 z1) (Q9 z2)
noncomputable def Cx.blk(X:Cx)(N':List Str)(scope:Scope)(cl:List (Str×Uc))(C:Uc)(s₀:Ua)(H₀:Hp)(ex:Be):Cx:=
 {X with N:=N',s₀:=s₀,H₀:=H₀,env:=compEnvC scope cl C X.env,outer:=X.stack,ex:=ex,fn:=λx=>scope.names.lookup x==O .cell,xe:=λ_ _=>False}
section
variable{X:Cx}{N':List Str}{scope:Scope}{cl:List (Str×Uc)}{C:Uc}{s₀:Ua}{H₀:Hp}{ex:Be}{x:Str}
noncomputable def visK:Option NameKind->Bool
 |some .local=>C5|some .free=>C5|some .cell=>C5|_=>C6
theorem HL(h:visK (scope.names.lookup x)=C5):Vis (X.blk N' scope cl C s₀ H₀ ex).env.scope x:=by
 cases z:scope.names.lookup x with
 |none=>rw[z]at h;cases h
 |some y=>
  rw[z]at h;cases y with
  | «local»=>exact .inl (Wa (by decide) z)
  |cell=>exact .inr (.inl (Wa (by decide) z))
  |free=>
   rcases Np (env:=X.env) z with z|z
   .exact .inr (.inr z)
   .exact .inr (.inl z)
  |_=>cases h
noncomputable def locK:Option NameKind->Bool
 |some .local=>C5|some .cell=>C5|_=>C6
theorem Pm(h:locK (scope.names.lookup x)=C5):Loc (X.blk N' scope cl C s₀ H₀ ex).env.scope x/\((X.blk N' scope cl C s₀ H₀ ex).fn x=C5∨(X.blk N' scope cl C s₀ H₀ ex).env.scope.names.lookup x=O .local):=by
 cases z:scope.names.lookup x with
 |none=>rw[z]at h;cases h
 |some y=>
  rw[z]at h;cases y with
  | «local»=>exact⟨.inl (Wa (by decide) z),.inr (Wa (by decide) z)⟩
  |cell=>exact⟨.inr (Wa (by decide) z),.inl (by show(scope.names.lookup x==O .cell)=C5;rw[z];rfl)⟩
  |_=>cases h
theorem MJ(h:scope.names.lookup x=O .globalImplicit):Gl (X.blk N' scope cl C s₀ H₀ ex) x:=Wa (by decide) h
end
noncomputable def VA(names:List (Str×NameKind))(N N2:List Str)(k:Nat):Bool:=
 N2.length==N.length+k&&(Uj N2.length).all λi=>match N2[i]? with
  |none=>C5
  |some x=>match names.lookup x with
   |some .free=>N[i]?==O x
   |some .local=>decide (N.length<=i)&&decide (i<N.length+k)
   |some .cell=>decide (N.length<=i)&&decide (i<N.length+k)
   |_=>C5
theorem CU{names:List (Str×NameKind)}{N N2:List Str}{k:Nat}(h:VA names N N2 k=C5) :
  N2.length=N.length+k/\∀(i:Nat) x,N2[i]?=O x->(names.lookup x=O .free->N[i]?=O x)/\(names.lookup x=O .local∨names.lookup x=O .cell->N.length<=i/\i<N.length+k):=by
 unfold VA at h;simp only[QQ,beq_iff_eq,QZ,QX]at h;refine⟨h.1,λi x e=>?_⟩;have hi:=(Qg.mp e).1;have:=h.2 i hi;rw[e]at this;refine⟨λq=>?_,λq=>?_⟩
 .simp only[q]at this
  simpa using this
 .rcases q with q|q<;>(simp only[q]at this;simpa using this)
theorem Inv.enter{X:Cx}{pins:List (Uc×Obj)}{σ:St}{H:Hp}{s3:Ua}(I:Inv X pins σ H s3){scope:Scope}{cl:List (Str×Uc)}{N2:List Str}{k:Nat}{h':Heap}{fp:Be}{t':Nat}{m0:Str->Bd}
  (hb:VA scope.names X.N N2 k=C5) (hkind:scope.kind=.function)
  (hfree:∀y∈scope.names,y.2=.free->X.env.scope.names.lookup y.1=O .cell∨X.env.scope.names.lookup y.1=O .free)
  (hc:ClOk X.env scope cl s3.heap.objs.size h')
  (hn:h'.Ns s3.heap.objs.size m0) (hk:∀b o,s3.heap.get? b=O o->h'.get? b=O o) (hf:∀b∈fp,KF X pins H b) (hfo:∀b∈fp,∃o,s3.heap.get? b=O o) :
  Inv (X.blk N2 scope cl s3.heap.objs.size s3 H fp) pins (σ++Uk k C4) H {s3 with heap:=h',toks:=t'}:=by
 obtain⟨hl,hN⟩:=CU hb;have lt:∀b o,s3.heap.get? b=O o->b≠s3.heap.objs.size:=λb o e=>QO (Qi e);have ofl:∀x,scope.names.lookup x=O .free->(x,NameKind.free)∈scope.names:=λx h=>mem_of_lookup h;have kinv:∀x kk,(X.blk N2 scope cl s3.heap.objs.size s3 H fp).env.scope.names.lookup x=O kk->scope.names.lookup x=O kk∨(scope.names.lookup x=O .free/\kk=.cell):=λx kk h=>Ng (env:=X.env) h
 have isfc:∀x,(X.blk N2 scope cl s3.heap.objs.size s3 H fp).env.scope.names.lookup x=O .cell∨(X.blk N2 scope cl s3.heap.objs.size s3 H fp).env.scope.names.lookup x=O .free->scope.names.lookup x=O .free∨scope.names.lookup x=O .cell:=λx h=>by
  rcases h with h|h
  .rcases kinv x _ h with z|z
   .exact .inr z
   .exact .inl z.1
  .rcases kinv x _ h with z|z
   .exact .inl z
   .exact .inl z.1
 have lto:∀x c,X.env.cells.lookup x=O c->c<s3.heap.objs.size:=λx c e=>let ⟨_,q⟩:=I.cell x c e;q.lt
 have ok:(X.blk N2 scope cl s3.heap.objs.size s3 H fp).Ok:=
  {
   mod:=I.ok.mod
   kind:=hkind
   glob:=I.ok.glob
   blt:=I.ok.blt
   above:=Qo _
   inj:=λx y c a b=>by
    rcases hc.old x c a with q|⟨q,_⟩
    .rcases hc.old y c b with q'|⟨q',_⟩
     .exact I.ok.inj x y c q q'
     .exact absurd (lto x c q) (Nat.lt_asymm q')
    .exact hc.inj x y c a b q
   has:=λx h=>by
    rcases isfc x h with z|z
    .exact let ⟨c,e,_⟩:=hc.fre x z;⟨c,e⟩
    .exact let ⟨c,e,_⟩:=hc.cel x z;⟨c,e⟩
   cab:=λx c h e=>by
    have z:scope.names.lookup x=O .cell:=by have h:(scope.names.lookup x==O .cell)=C5:=h;simpa using h
    obtain⟨c',e',l⟩:=hc.cel x z;have e:cl.lookup x=O c:=e;rw[e]at e';cases e';exact J0 l
   hd:=I.ok.hd
   frames:=I.ok.frames
   stk:=.inl C3
   exf:=λb hb=>⟨let ⟨o,e⟩:=hfo b hb;lt b o e,λx c e=>by
    rcases hc.old x c e with q|⟨q,_⟩
    .exact(hf b hb).2.2.2.2.1 x c q
    .obtain⟨o,e'⟩:=hfo b hb
     exact JE (Nat.lt_trans (Qi e') q)⟩
   bs:=I.bs
   bsz:=Qy I.ok.bsz I.sz
   noex:=λb o e hb=>by
    rcases(hf b hb).2.2.2.1 with z|z
    .exact I.ok.noex b o e z
    .exact absurd (Qv (Qi e) (Qy I.ok.bsz z)) (Ju _)
   exfs:=λb hb hx=>by
    rcases QM.mp (I.stkSub b hx)with z|z
    .exact(hf b hb).2.1 z
    .exact(hf b hb).2.2.1 z
   funs:=I.stack
   frf:=I.stkFree}
 refine⟨ok,rfl,I.bare,Un.kept hk,⟨m0,hn,λi x v e1 e2 e3=>?_⟩,λx c e=>?_,I.hok.fresh (Qo _),λx c e=>(hc.old x c e).elim (I.freeC x c) λq=>I.hok.fresh (J0 q.1),λp hp=>?_,I.hok.kept hk,?_⟩
 .have nl:¬(scope.names.lookup x=O .local∨scope.names.lookup x=O .cell):=λz=>by
   obtain⟨g1,g2⟩:=(hN i x e1).2 z;rw[←I.len]at g1 g2;rw[Qs g1,QA]at e2;split at e2<;>cases e2
  have fr:scope.names.lookup x=O .free:=by
   rcases e3 with z|z
   .rcases kinv x _ z with q|q
    .exact absurd (.inl q) nl
    .cases q.2
   .rcases isfc x z with q|q
    .exact q
    .exact absurd (.inr q) nl
  have eN:=(hN i x e1).1 fr;have hi:i<σ.length:=by rw[I.len];exact(Qg.mp eN).1
  rw[Qn hi]at e2;obtain⟨m,hm,hlk⟩:=I.loc;have hkd:=hfree _ (ofl x fr) C3;obtain⟨u,r,l⟩:=hlk i x v eN e2 (.inr hkd);refine⟨u,r,.inr ⟨?_,?_⟩⟩
  .rcases e3 with z|z|z
   .rcases kinv x _ z with q|q
    .exact absurd (.inl q) nl
    .cases q.2
   .exact .inl z
   .exact .inr z
  .rcases l with l|⟨_,c,ec,z⟩
   .have:X.env.scope.names.lookup x=O .local:=l.1
    rcases hkd with q|q<;>(dsimp only at q;rw[this]at q;cases q)
   .obtain⟨c',ec',this⟩:=hc.fre x fr
    rw[ec]at this;cases this;obtain⟨o,ho,hd⟩:=z;exact⟨c,ec',o,hk c o ho,hd⟩
 .rcases hc.old x c e with q|⟨_,q⟩
  .obtain⟨v,o,ho,hd⟩:=I.cell x c q
   exact⟨v,o,hk c o ho,hd⟩
  .exact⟨_,q⟩
 .obtain⟨e,n,ne,nf,d⟩:=I.pin p hp
  refine⟨hk _ _ e,n,lt _ _ e,λz=>?_,d⟩;rcases QM.mp (I.stkSub _ z)with q|q
  .exact ne q
  .exact nf q
 .rw[Qk,QT,I.len]
  exact hl.symm
noncomputable abbrev nox:J9->Ua->Prop:=λ_ _=>False
def Vz(prog:Ub)(w:World)(A:Around)(tg:Ue)(ifs:Ba)(env:Env)(it:J9)(code:Code)(W:(Ua->Prop)->Ua->Prop):Prop:=
 ∀(R:Result->Ua->Prop)(I:Nat->Ua->Prop)(n:Nat)(s:Ua),I n s ->
  (∀n s,I n s->Ug (model prog w) A (pyNext it) (λr s₁=>match r with
   |none=>R (.ok .next) s₁
   |some v=>Ug (model prog w) A (letOwnedTupleGo tg it v) (λ_ s₁'=>Ug (model prog w) A (assign tg env v) (λ_ s₂=>
     Ug (model prog w) A (forIn ifs C5 λc r=>if r=C5 then do let ok ←isTrue c env (eval c env);pure (ForInStep.yield ok)else pure (ForInStep.yield r)) (λok s₃=>
      if ok=C5 then W (λs₅=>∃m,m<n/\I m s₅) s₃ else ∃m,m<n/\I m s₃) nox s₂) nox s₁') nox s₁) nox s)->codeAny (model prog w) A code R s
section
variable{prog:Ub}{w:World}{A:Around}{elt tg i:Ue}{ifs:Ba}{gens:List Comprehension}{scope:Scope}{pos:Pos}{it acc:J9}{env:Env}{j:Nat}
theorem Db(hg:gens[j]?=O ⟨tg,i,ifs,0⟩)(hn:gens[j+1]?=C4):Vz prog w A tg ifs env it (.compLoop (.ListComp elt gens scope pos) j it acc env)
  (λQ s=>Ug (model prog w) A (eval elt env) (λx s₄=>Ug (model prog w) A (call (.builtin "list.append") [acc,x]) (λ_ s₅=>Q s₅) nox s₄) nox s):=by
 intro R I n s h turn;refine codeAny_loop C3 I (λn s hI=>?_) n h;show Ug _ A ((compTurn (.ListComp elt gens scope pos) j it acc env).onRaise (λx=>do noteFrame x env;theTreesLotGoes x)) _ _ s;refine wpAny_noted ?_;unfold compTurn;dsimp only;simp only[hg,hn];refine Qe (wpAny_standAt (Qe (QP (turn n s hI) (λr s₁ h₁=>?_) λ_ _ h'=>h'.elim)));cases r with
 |none=>exact Qp h₁
 |some v=>
  refine Qe (QP h₁ (λ_ s₁' h₁'=>?_) λ_ _ h'=>h'.elim);refine Qe (QP h₁' (λ_ s₂ h₂=>Qe (QP h₂ (λok s₃ h₃=>?_) λ_ _ h'=>h'.elim)) λ_ _ h'=>h'.elim);cases ok with
  |false=>exact Qp ⟨rfl,h₃⟩
  |true=>exact Qe (Qe (QP h₃ (λx s₄ h₄=>Qe (QP h₄ (λ_ s₅ h₅=>Qp (Qp ⟨rfl,h₅⟩)) λ_ _ h'=>h'.elim)) λ_ _ h'=>h'.elim))
theorem Da{Bv i1:Ue}{ifs1:Ba}(hg:gens[j]?=O ⟨tg,i,ifs,0⟩)(hn:gens[j+1]?=O ⟨Bv,i1,ifs1,0⟩)(hs:∀x,Uy i1 env x=pure x):Vz prog w A tg ifs env it (.compLoop (.ListComp elt gens scope pos) j it acc env)
  (λQ s=>Ug (model prog w) A (eval i1 env) (λx s₄=>Ug (model prog w) A (pyIter x) (λBp s₅=>codeAny (model prog w) A (.compStart (.ListComp elt gens scope pos) (j+1) Bp acc env)
   (λr s₆=>match r with | .ok _=>Q s₆ | .error _=>False) s₅) nox s₄) nox s):=by
 intro R I n s h turn;refine codeAny_loop C3 I (λn s hI=>?_) n h;show Ug _ A ((compTurn (.ListComp elt gens scope pos) j it acc env).onRaise (λx=>do noteFrame x env;theTreesLotGoes x)) _ _ s;refine wpAny_noted ?_;unfold compTurn;dsimp only;simp only[hg,hn];refine Qe (wpAny_standAt (Qe (QP (turn n s hI) (λr s₁ h₁=>?_) λ_ _ h'=>h'.elim)));cases r with
 |none=>exact Qp h₁
 |some v=>
  refine Qe (QP h₁ (λ_ s₁' h₁'=>?_) λ_ _ h'=>h'.elim);refine Qe (QP h₁' (λ_ s₂ h₂=>Qe (QP h₂ (λok s₃ h₃=>?_) λ_ _ h'=>h'.elim)) λ_ _ h'=>h'.elim);cases ok with
  |false=>exact Qp ⟨rfl,h₃⟩
  |true=>
   refine Qe (QP h₃ (λx s₄ h₄=>Qe (wpAny_standAt (Qe (wpAny_of_eq (hs x) (Qe (wpAny_holding (QP h₄ (λBp s₅ h₅=>?_) λ_ _ h'=>h'.elim))))))) λ_ _ h'=>h'.elim);refine Qe (wpAny_runOwn (codeAny_mono h₅ λr s₆ h₆=>?_));cases r with
   |ok f=>exact Qp ⟨rfl,h₆⟩
   |error x=>exact h₆.elim
theorem Cy{R:Result->Ua->Prop}{s:Ua}(hg:gens[j]?=O ⟨tg,i,ifs,0⟩)
  (h0:codeAny (model prog w) A (.compLoop (.ListComp elt gens scope pos) j it acc env) R s)
  (h:Ug (model prog w) A (pyIter it) (λit' s'=>codeAny (model prog w) A (.compLoop (.ListComp elt gens scope pos) j it' acc env) R s') nox s) :
  codeAny (model prog w) A (.compStart (.ListComp elt gens scope pos) j it acc env) R s:=by
 refine codeAny_of_tree ?_;show Ug _ _ ((compStart (.ListComp elt gens scope pos) j it acc env).onRaise (λx=>do noteFrame x env;standAt theWindowsPlace)) _ _ s;refine wpAny_notedAt ?_;unfold compStart;have hc:(clausesOf (.ListComp elt gens scope pos))[j]?=O ⟨tg,i,ifs,0⟩:=hg;simp only[hc];show Ug _ _ (ask >>= _) _ _ s;refine Qe (wpAny_askSetting (wpAny_ite ?_));split
 .first
   |exact Qe (Qp (Qp (And.intro rfl h0)))
   |exact Qp (And.intro rfl h0)
 .first
   |exact Qe (wpAny_rule (Qe (wpAny_standAt (Qe (QP h (λit' s' h'=>Qp (And.intro rfl h')) λ_ _ x=>x.elim)))))
   |(refine Qe (wpAny_rule ?_);show Ug _ _ (standAt _ >>= _) _ _ s;exact Qe (wpAny_standAt (Qe (QP h (λit' s' h'=>Qp (And.intro rfl h')) λ_ _ x=>x.elim))))
end
end L2
namespace DL
open PySem PySem.Spec L2
open PyProof.Rows hiding St
noncomputable def YF:Option Sl->Option Sl
 |some (.own _)=>C4
 |some (.deep _ _)=>C4
 |x=>x
noncomputable def U0(ρ:UA):UA:=ρ.map YF
theorem E9{ρ:UA}{i:Nat}{d:D}(h:(U0 ρ)[i]?=O (O (.pub d))):ρ[i]?=O (O (.pub d)):=by
 unfold U0 at h;rw[Qj]at h;cases e:ρ[i]? with
 |none=>rw[e]at h;cases h
 |some o=>
  rw[e]at h;cases o with
  |none=>cases h
  |some sl=>cases sl with
   |pub d'=>cases h;rfl
   |own ds=>cases h
   |deep p d'=>cases h
theorem YW{ρ:UA}{i:Nat}{ds:C7}(h:(U0 ρ)[i]?=O (O (.own ds))):False:=by
 unfold U0 at h;rw[Qj]at h;cases e:ρ[i]? with
 |none=>rw[e]at h;cases h
 |some o=>
  rw[e]at h;cases o with
  |none=>cases h
  |some sl=>cases sl with
   |pub d'=>cases h
   |own ds=>cases h
   |deep p d'=>cases h
theorem Rc{ρ:UA}{i:Nat}{p:Pat}{d:D}(h:(U0 ρ)[i]?=O (O (.deep p d))):False:=by
 unfold U0 at h;rw[Qj]at h;cases e:ρ[i]? with
 |none=>rw[e]at h;cases h
 |some o=>
  rw[e]at h;cases o with
  |none=>cases h
  |some sl=>cases sl<;>cases h
noncomputable def Kz(s:D->UA->Bg)(t:M Bool)(g:M D):C7->UA->C7->Option C7
 |[],_,es=>O es
 |d::r,ρ,es=>match s d ρ with
  |none=>C4
  |some ρ1=>match t ρ1 with
   |.bad=>C4
   |.ok b ρ2=>if b=C5 then(match g ρ2 with
     |.bad=>C4
     |.ok e ρ3=>if es.length<1000000 then Kz s t g r (U0 ρ3) (es++[e])else C4)
    else Kz s t g r (U0 ρ2) es
noncomputable def ZV(f:M C7)(k:Nat)(s:D->UA->Bg)(t:M Bool)(g:M D):M C7:=λρ=>match f ρ with
 |.bad=>.bad
 |.ok ds ρ1=>match Kz s t g ds (U0 ρ1++Uk k C4) []with
  |none=>.bad
  |some es=>.ok es ρ1
def ZQ(X:Cx)(ifs:Ba)(t:TT):Prop:=
 ∀(pins:List (Uc×Obj))(s:Ua)(σ:St)(H:Hp)(Q:Bool->Hp->Prop),Inv X pins σ H s->t σ H Q ->
  Ug (model X.prog X.w) X.A (forIn ifs C5 λc r=>if r=C5 then do let ok ←isTrue c X.env (eval c X.env);pure (ForInStep.yield ok)else pure (ForInStep.yield r)) (TP X pins σ Q) X.xe s
section
variable{X:Cx}{B G0:Hp}
theorem HK:ZQ X [] (tBo X.K B G0 (UE C5)):=λpins s σ H Q I ⟨G,ρ,k,a⟩=>wpAny_tests_nil ⟨H,I,a C5 G H k (.refl _) C3⟩
theorem HJ{c:Ue}{t:M Bool}(h:PT X c (tBo X.K B G0 t)):ZQ X [c] (tBo X.K B G0 t):=λpins s σ H Q I q=>wpAny_tests_one (h pins s σ H Q I q)
theorem EOk.rebase{K:Frag}{G H:Hp}{σ:St}{ρ:UA}(k:EOk K B G0 G H σ ρ):EOk K H G G H σ (U0 ρ) where
 bh:=.refl _
 gh:=k.gh
 g0:=.refl _
 np:=λ_ _ _ n=>n
 len:=by unfold U0;rw[Qd];exact k.len
 pub:=λi d q=>k.pub i d (E9 q)
 own:=λi ds q=>(YW q).elim
 sep:=λi j a ds es q=>(YW q).elim
 dp:=.of (λ_ _ _ q=>Rc q) λ_ _ q=>YW q
theorem EOk.more{K:Frag}{G H:Hp}{σ:St}{ρ:UA}(k:EOk K H G G H σ (U0 ρ))(n:Nat):EOk K H G G H (σ++Uk n C4) (U0 ρ++Uk n C4) where
 bh:=.refl _
 gh:=k.gh
 g0:=.refl _
 np:=λ_ _ _ n=>n
 len:=by rw[Qk,Qk,k.len,QT,QT]
 pub:=λi d q=>by
  by_cases hi:i<(U0 ρ).length
  .rw[Qn hi]at q
   rw[Qn (by rw[←k.len];exact hi)];exact k.pub i d q
  .rw[Qs (Q0 hi),QA]at q
   split at q<;>cases q
 own:=λi ds q=>by
  by_cases hi:i<(U0 ρ).length
  .rw[Qn hi]at q
   exact(YW q).elim
  .rw[Qs (Q0 hi),QA]at q
   split at q<;>cases q
 sep:=λi j a ds es q=>by
  by_cases hi:i<(U0 ρ).length
  .rw[Qn hi]at q
   exact(YW q).elim
  .rw[Qs (Q0 hi),QA]at q
   split at q<;>cases q
 dp:=by
  refine .of (λi p d q=>?_) λi ds q=>?_
  .by_cases hi:i<(U0 ρ).length
   .rw[Qn hi]at q;exact Rc q
   .rw[Qs (Q0 hi),QA]at q;split at q<;>cases q
  .by_cases hi:i<(U0 ρ).length
   .rw[Qn hi]at q;exact YW q
   .rw[Qs (Q0 hi),QA]at q;split at q<;>cases q
theorem EOk.beside{K:Frag}{G H:Hp}{σ:St}{ρ:UA}{a:Uc}{o:HO}(k:EOk K B G0 G H σ ρ)(hg:G a=C4):EOk K (upd H a o) G G (upd H a o) σ (U0 ρ) where
 bh:=.refl _
 gh:=λb u e=>by rw[US (λz=>by subst z;rw[hg]at e;cases e)];exact k.gh b u e
 g0:=.refl _
 np:=λ_ _ _ n=>n
 len:=k.rebase.len
 pub:=k.rebase.pub
 own:=λi ds q=>(YW q).elim
 sep:=λi j a ds es q=>(YW q).elim
 dp:=.of (λ_ _ _ q=>Rc q) λ_ _ q=>YW q
theorem lim1:1000000<=Uf:=lim
noncomputable def TU:Option Sl->Option Sl
 |some (.own ds)=>O (.pub (.list ds))
 |some (.deep _ d)=>O (.pub d)
 |x=>x
noncomputable def U4(ρ:UA):UA:=ρ.map TU
theorem Oz{ρ:UA}{i:Nat}{d:D}(h:(U4 ρ)[i]?=O (O (.pub d))):ρ[i]?=O (O (.pub d))∨(∃ds,d=.list ds/\ρ[i]?=O (O (.own ds))) ∨ ∃p,ρ[i]?=O (O (.deep p d)):=by
 unfold U4 at h;rw[Qj]at h;cases e:ρ[i]? with
 |none=>rw[e]at h;cases h
 |some o=>
  rw[e]at h;cases o with
  |none=>cases h
  |some sl=>cases sl with
   |pub d'=>cases h;exact .inl C3
   |own ds=>cases h;exact .inr (.inl ⟨ds,rfl,rfl⟩)
   |deep p d'=>cases h;exact .inr (.inr ⟨p,rfl⟩)
theorem WW{ρ:UA}{i:Nat}{ds:C7}(h:(U4 ρ)[i]?=O (O (.own ds))):False:=by
 unfold U4 at h;rw[Qj]at h;cases e:ρ[i]? with
 |none=>rw[e]at h;cases h
 |some o=>
  rw[e]at h;cases o with
  |none=>cases h
  |some sl=>cases sl with
   |pub d'=>cases h
   |own ds=>cases h
   |deep p d'=>cases h
theorem OU{ρ:UA}{i:Nat}{p:Pat}{d:D}(h:(U4 ρ)[i]?=O (O (.deep p d))):False:=by
 unfold U4 at h;rw[Qj]at h;cases e:ρ[i]? with
 |none=>rw[e]at h;cases h
 |some o=>
  rw[e]at h;cases o with
  |none=>cases h
  |some sl=>cases sl<;>cases h
noncomputable def flat:D->Bool
 |.none=>C5 | .bool _=>C5 | .int _=>C5 | .str _=>C5|_=>C6
theorem Rep.flat{K:Frag}{G G':Hp}{v:V}{d:D}(r:Rep K G v d)(h:DL.flat d=C5):Rep K G' v d:=by
 cases r with
 |non=>exact .non
 |bl b=>exact .bl b
 |int i=>exact .int i
 |str x=>exact .str x
 |lst _ _=>cases h
 |tup _ _=>cases h
 |dic _=>cases h
 |exc _ _ _ _=>cases h
 |dct _ _ _ _ _=>cases h
 |dtt _ _ _ _=>cases h
theorem Reps.flat{K:Frag}{G G':Hp}:∀{vs:List V}{ds:C7},Reps K G vs ds->ds.all DL.flat=C5->Reps K G' vs ds
 |_,_,.nil,_=>.nil
 |_,_,.cons r t,h=>by rw[J7,QQ]at h;exact .cons (r.flat h.1) (Reps.flat t h.2)
theorem EOk.lend{K:Frag}{B G0 G H:Hp}{σ:St}{ρ:UA}{D:Uc}{o:HO}(k:EOk K B G0 G H σ ρ)(hD:H D=C4)(n:Nat):EOk K (upd H D o) H H (upd H D o) (σ++Uk n C4) (U4 ρ++Uk n C4) where
 bh:=.refl _
 gh:=KB hD
 g0:=.refl _
 np:=λ_ _ _ n=>n
 len:=by unfold U4;rw[Qk,Qk,Qd,k.len,QT,QT]
 pub:=λi d q=>by
  have hl:(U4 ρ).length=ρ.length:=by unfold U4;rw[Qd]
  by_cases hi:i<(U4 ρ).length
  .rw[Qn hi]at q
   rw[Qn (by rw[←k.len,←hl];exact hi)];rcases Oz q with e|⟨ds,rfl,e⟩|⟨p,e⟩
   .obtain⟨v,h1,h2⟩:=k.pub i d e
    exact⟨v,h1,h2.mono k.gh⟩
   .obtain⟨a,vs,h1,h2,h3,h4,h5⟩:=k.own i ds e
    exact⟨.ref a,h1,.lst (SqL.of h4) (h5.mono k.gh)⟩
   .obtain⟨ω,k1,k2⟩:=k.dp
    obtain⟨v,fp,s,r,_⟩:=k1 i p d e;exact⟨v,s,r.rep k.gh⟩
  .rw[Qs (Q0 hi),QA]at q
   split at q<;>cases q
 own:=λi ds q=>by
  by_cases hi:i<(U4 ρ).length
  .rw[Qn hi]at q
   exact(WW q).elim
  .rw[Qs (Q0 hi),QA]at q
   split at q<;>cases q
 sep:=λi j a ds es q=>by
  by_cases hi:i<(U4 ρ).length
  .rw[Qn hi]at q
   exact(WW q).elim
  .rw[Qs (Q0 hi),QA]at q
   split at q<;>cases q
 dp:=by
  refine .of (λi p d q=>?_) λi ds q=>?_
  .by_cases hi:i<(U4 ρ).length
   .rw[Qn hi]at q;exact OU q
   .rw[Qs (Q0 hi),QA]at q;split at q<;>cases q
  .by_cases hi:i<(U4 ρ).length
   .rw[Qn hi]at q;exact WW q
   .rw[Qs (Q0 hi),QA]at q;split at q<;>cases q
noncomputable def XX(f:M C7)(k:Nat)(s:D->UA->Bg)(t:M Bool)(g:M D):M C7:=λρ=>match f ρ with
 |.bad=>.bad
 |.ok ds ρ1=>match Kz s t g ds (U4 ρ1++Uk k C4) []with
  |none=>.bad
  |some es=>if es.all flat=C5 then .ok es ρ1 else .bad
end
noncomputable def YU(s:D->UA->Bg)(t:M Bool)(g:M D):C7->UA->C7->Option (C7×UA)
 |[],ρ,es=>O (es,ρ)
 |d::r,ρ,es=>match s d ρ with
  |none=>C4
  |some ρ1=>match t ρ1 with
   |.bad=>C4
   |.ok b ρ2=>if b=C5 then(match g ρ2 with
     |.bad=>C4
     |.ok e ρ3=>if es.length<1000000 then YU s t g r (U0 ρ3) (es++[e])else C4)
    else YU s t g r (U0 ρ2) es
noncomputable def Yq(s0:D->UA->Bg)(t0:M Bool)(f1:M C7)(s1:D->UA->Bg)(t1:M Bool)(g:M D):C7->UA->C7->Option C7
 |[],_,es=>O es
 |d::r,ρ,es=>match s0 d ρ with
  |none=>C4
  |some ρ1=>match t0 ρ1 with
   |.bad=>C4
   |.ok b ρ2=>if b=C5 then(match f1 ρ2 with
     |.bad=>C4
     |.ok ds ρ3=>match YU s1 t1 g ds (U0 ρ3) es with
      |none=>C4
      |some (es',ρ4)=>Yq s0 t0 f1 s1 t1 g r ρ4 es')
    else Yq s0 t0 f1 s1 t1 g r (U0 ρ2) es
noncomputable def Vl(f:M C7)(k:Nat)(s:D->UA->Bg)(t:M Bool)(f1:M C7)(s1':D->UA->Bg)(t1':M Bool)(g:M D):M C7:=λρ=>match f ρ with
 |.bad=>.bad
 |.ok ds ρ1=>match Yq s t f1 s1' t1' g ds (U0 ρ1++Uk k C4) []with
  |none=>.bad
  |some es=>.ok es ρ1
abbrev RdB:=UA->C7->Option (C7×UA)
noncomputable def rL(g:M D):RdB:=λρ es=>match g ρ with
 |.bad=>C4
 |.ok e ρ3=>if es.length<1000000 then O (es++[e],U0 ρ3)else C4
noncomputable def cT(s:D->UA->Bg)(t:M Bool)(rd:RdB):C7->UA->C7->Option (C7×UA)
 |[],ρ,es=>O (es,ρ)
 |d::r,ρ,es=>match s d ρ with
  |none=>C4
  |some ρ1=>match t ρ1 with
   |.bad=>C4
   |.ok b ρ2=>if b=C5 then(match rd ρ2 es with
     |none=>C4
     |some (es',ρ')=>cT s t rd r ρ' es')
    else cT s t rd r (U0 ρ2) es
noncomputable def rN(f:M C7)(s:D->UA->Bg)(t:M Bool)(rd:RdB):RdB:=λρ es=>match f ρ with
 |.bad=>C4
 |.ok ds ρ3=>cT s t rd ds (U0 ρ3) es
structure Left(Y:Cx)(D':Uc)(pins:List (Uc×Obj))(H G:Hp)(es':C7)(ρ':UA)(σ':St)(H' G':Hp)(vs':List V)(s':Ua):Prop where
 inv:Inv Y pins σ' H' s'
 eok:EOk Y.K H' G' G' H' σ' ρ'
 hh:∀a o,a≠D'->H a=O o->H' a=O o
 gg:Same G G'
 np:∀a(u:MO),a≠D'->H a=O u.ho->G a=C4->G' a=C4
 hd:H' D'=O (.lst vs')
 gd:G' D'=C4
 rp:Reps Y.K G' vs' es'
def W5(Y:Cx)(D':Uc)(W:(Ua->Prop)->Ua->Prop)(rd:RdB):Prop:=
 ∀(pins:List (Uc×Obj))(sh:Ua)(σ:St)(B1 G1 H G:Hp)(ρ ρ':UA)(vs:List V)(es es':C7)(Q:Ua->Prop),
  Inv Y pins σ H sh->EOk Y.K B1 G1 G H σ ρ->B1 D'=O (.lst vs)->G1 D'=C4->Reps Y.K G1 vs es->rd ρ es=O (es',ρ') ->
  (∀σ' H' G' vs' s',Left Y D' pins B1 G1 es' ρ' σ' H' G' vs' s'->Q s')->W Q sh
section
variable{Y:Cx}{D':Uc}
theorem E8{elt:Ue}{g:M D}(hx:Y.xe=nox)(he:∀B1 G1,PE Y elt (tD Y.K B1 G1 g)) :
  W5 Y D' (λQ s=>Ug (model Y.prog Y.w) Y.A (eval elt Y.env) (λx s₄=>Ug (model Y.prog Y.w) Y.A (call (.builtin "list.append") [.ref D',x]) (λ_ s₅=>Q s₅) nox s₄) nox s) (rL g):=by
 intro pins sh σ B1 G1 H G ρ ρ' vs es es' Q I k hD gD r z fin;unfold rL at z;cases zg:g ρ with
 |bad=>rw[zg]at z;cases z
 |ok e ρ4=>
 rw[zg]at z;dsimp only at z;split at z
 .rename_i hle
  cases z;have h:=he B1 G1 pins sh σ H (λv H8=>∃G8,EOk Y.K B1 G1 G8 H8 σ ρ4/\Rep Y.K G8 v e) I ⟨G,ρ,k,by unfold aft;rw[zg];exact λv G8 H8 k8 _ q=>⟨G8,k8,q⟩⟩;rw[hx]at h;refine thn h λev s8 ⟨v,H8,I8,rv,G8,k8,r8⟩=>?_;have h2:=WZ pins s8 σ H8 (.ref D') [v] (.ref D') [ev] (λ_ H9=>H9=upd H8 D' (.lst (vs++[v]))) I8 C3 (.cons rv .nil) ⟨D',vs,v,rfl,rfl,k8.bh _ _ hD,by have:=lim1;rw[r.length];lia,rfl⟩
  rw[hx]at h2;refine thn h2 λ_ s9 ⟨_,H9,I9,_,e9⟩=>?_;subst e9;have g8:=k8.np _ (.l _) hD gD;exact fin σ _ G8 _ s9 ⟨I9,k8.beside g8,λa o z q=>by rw[US z];exact k8.bh a o q,k8.g0,λa o _ q w=>k8.np a o q w,Kd,g8,(r.mono k8.g0).append (.cons r8 .nil)⟩
 .cases z
theorem P9{tg:Ue}{ifs:Ba}{code:Code}{W:(Ua->Prop)->Ua->Prop}{s:D->UA->Bg}{t:M Bool}{rd:RdB}{it:Uc}(hx:Y.xe=nox)(hc:Y.calm=C5)(rule:Vz Y.prog Y.w Y.A tg ifs Y.env (.ref it) code W)
  (hg:∀B1 G1,PG Y tg (tG Y.K B1 G1 s)) (ht:∀B1 G1,ZQ Y ifs (tBo Y.K B1 G1 t)) (hb:W5 Y D' W rd)
  {pins:List (Uc×Obj)} {sh:Ua} {σ:St} {H G:Hp} {ρ ρF:UA} {fp:Be} {tn:Nat->Heap->Prop} {J:It} {ds es esF:C7} {vs:List V} {R:Result->Ua->Prop}
  (I:Inv Y pins σ H sh) (T:Turn Y.prog Y.w Y.K tg J fp it tn) (st:tn 0 sh.heap) (hf:∀b∈fp,KF Y pins H b)
  (k:EOk Y.K H G G H σ ρ) (its:Yn Y.K J ds G) (hD:H D'=O (.lst vs)) (gD:G D'=C4) (r:Reps Y.K G vs es) (zl:cT s t rd ds ρ es=O (esF,ρF))
  (B6:∀σ' H' G' vs' s',Left Y D' pins H G esF ρF σ' H' G' vs' s'->R (.ok .next) s'):codeAny (model Y.prog Y.w) Y.A code R sh:=by
 have stat:∀{H':Hp},(∀b∈fp,H' b=C4)->∀b∈fp,KF Y pins H' b:=λhn b hb=>⟨hn b hb,(hf b hb).2⟩
 refine rule R (λn s'=>∃i σ' H' G' ρ' vs' es',n=ds.length-i/\tn i s'.heap/\(∀b∈fp,H' b=C4)/\Left Y D' pins H G es' ρ' σ' H' G' vs' s'/\cT s t rd (ds.drop i) ρ' es'=O (esF,ρF)) ds.length sh
  ⟨0,σ,H,G,ρ,vs,es,rfl,st,λb hb=>(hf b hb).1,⟨I,k,λ_ _ _ q=>q,.refl _,λ_ _ _ _ n=>n,hD,gD,r⟩,by rw[List.drop_zero];exact zl⟩ ?_
 rintro n s' ⟨i,σ',H',G',ρ',vs',es',rfl,tn',fr',⟨I',k',Ai,B9,np',Ae,gD',r'⟩,zc⟩;by_cases hlt:i<ds.length
 .rw[Jq hlt,cT]at zc
  cases zs:s ds[i] ρ' with
  |none=>rw[zs]at zc;cases zc
  |some ρ2=>
  rw[zs]at zc;dsimp only at zc;cases zt:t ρ2 with
  |bad=>rw[zt]at zc;cases zc
  |ok b ρ3=>
  rw[zt]at zc;dsimp only at zc;refine thn (T.item Y C3 C3 C3 hc i pins s' σ' H' nox I' (stat fr') tn' (its.go i G' H' B9 k'.gh hlt)) λrr s4 ⟨u,hr,h4⟩=>?_;subst hr;refine thn h4 λ_ s5 ⟨x,H5,I5,r5,y5,BV,fr5⟩=>?_
  obtain⟨G5,e5,rx⟩:=its.yld i G' H' x H5 ds[i] B9 k'.gh (Qb hlt) y5;have h6:=hg H' G' _ s5 σ' H5 x u (λσ6 H6=>∃G6,EOk Y.K H' G' G6 H6 σ6 ρ2) (I5.pinned (stat fr5) (T.obj _ _ BV)) r5 ⟨G5,ρ',ds[i],ρ2,k'.ext e5,rx,zs,λσ6 G6 H6 k6 _=>⟨G6,k6⟩⟩;rw[hx]at h6;refine thn h6 λ_ s6 ⟨σ6,H6,I6,G6,k6⟩=>?_;have h7:=ht H' G' _ s6 σ6 H6 (λc H7=>c=b/\∃G7,EOk Y.K H' G' G7 H7 σ6 ρ3) I6 ⟨G6,ρ2,k6,by unfold aft;rw[zt];exact λc G7 H7 k7 _ q=>⟨q,G7,k7⟩⟩
  rw[hx]at h7;refine thn h7 λok s7 ⟨H7,I7,hb7,G7,k7⟩=>?_;subst hb7
  have again:∀{H9:Hp}{σ9:St}{s9:Ua},Inv Y (pins++Vn fp s5.heap) σ9 H9 s9->Inv Y pins σ9 H9 s9/\tn (i+1) s9.heap/\∀b∈fp,H9 b=C4:=λ{H9 σ9 s9} I9=>by refine⟨I9.unpinned,T.keep _ _ _ BV λb hb o e=>(I9.pin (b,o) (Qr _ (Qr _ (Tu hb e)))).1,λb hb=>?_⟩;obtain⟨o,e,d⟩:=T.obj _ _ BV b hb;exact(I9.pin (b,o) (Qr _ (Qr _ (Tu hb e)))).2.1
  have lt:ds.length-(i+1)<ds.length-i:=Nat.sub_lt_sub_left hlt (Nat.lt_succ_self i);cases ok with
  |false=>rw[QE (by decide)]at zc⊢;obtain⟨J1,J2,J3⟩:=again I7;exact⟨_,lt,i+1,σ6,H7,G7,U0 ρ3,vs',es',rfl,J2,J3,⟨J1,k7.rebase,λa o z q=>k7.bh a o (Ai a o z q),B9.trans k7.g0,λa o z q w=>k7.np a o (Ai a _ z q) (np' a o z q w),k7.bh _ _ Ae,k7.np _ (.l _) Ae gD',r'.mono k7.g0⟩,zc⟩
  |true=>
   rw[Qq C3]at zc⊢;cases ze:rd ρ3 es' with
   |none=>rw[ze]at zc;cases zc
   |some pr=>
   obtain⟨es1,ρ5⟩:=pr;rw[ze]at zc;refine hb _ s7 σ6 H' G' H7 G7 ρ3 ρ5 vs' es' es1 _ I7 k7 Ae gD' r' ze λσ9 H9 G9 vs9 s9 L=>?_
   obtain⟨J1,J2,J3⟩:=again L.inv;exact⟨_,lt,i+1,σ9,H9,G9,ρ5,vs9,es1,rfl,J2,J3,⟨J1,L.eok,λa o z q=>L.hh a o z (Ai a o z q),B9.trans L.gg,λa o z q w=>L.np a o z (Ai a _ z q) (np' a o z q w),L.hd,L.gd,L.rp⟩,zc⟩
 .rw[JI (Q0 hlt),cT]at zc
  cases zc;refine thn (T.done Y C3 C3 C3 hc i pins s' σ' H' nox I' (stat fr') tn' (its.stop i G' H' B9 k'.gh (Q0 hlt))) λrr s4 ⟨hr,I6⟩=>?_
  subst hr;exact B6 σ' H' G' vs' s4 ⟨I6,k',Ai,B9,np',Ae,gD',r'⟩
theorem E7{elt Bv i1:Ue}{ifs1:Ba}{gens:List Comprehension}{scope:Scope}{pos:Pos}{j:Nat}{W:J9->(Ua->Prop)->Ua->Prop}{f:M C7}{s:D->UA->Bg}{t:M Bool}{rd:RdB}(hx:Y.xe=nox)(hc:Y.calm=C5)
  (hn:gens[j+1]?=O ⟨Bv,i1,ifs1,0⟩) (rule:∀Bp,Vz Y.prog Y.w Y.A Bv ifs1 Y.env Bp (.compLoop (.ListComp elt gens scope pos) (j+1) Bp (.ref D') Y.env) (W Bp))
  (hi:∀B1 G1,PI Y Bv i1 (iD Y.K B1 G1 f)) (hg:∀B1 G1,PG Y Bv (tG Y.K B1 G1 s)) (ht:∀B1 G1,ZQ Y ifs1 (tBo Y.K B1 G1 t)) (hb:∀Bp,W5 Y D' (W Bp) rd) :
  W5 Y D' (λQ s=>Ug (model Y.prog Y.w) Y.A (eval i1 Y.env) (λx s₄=>Ug (model Y.prog Y.w) Y.A (pyIter x) (λBp s₅=>codeAny (model Y.prog Y.w) Y.A (.compStart (.ListComp elt gens scope pos) (j+1) Bp (.ref D') Y.env)
   (λr s₆=>match r with | .ok _=>Q s₆ | .error _=>False) s₅) nox s₄) nox s) (rN f s t rd):=by
 intro pins sh σ B1 G1 H G ρ ρ' vs es es' Q I k hD gD r z fin;unfold rN at z;cases zf:f ρ with
 |bad=>rw[zf]at z;cases z
 |ok ds ρ3=>
 rw[zf]at z;have h:=hi B1 G1 pins sh σ H (λJ1 H8=>∃G8,EOk Y.K B1 G1 G8 H8 σ ρ3/\Yn Y.K J1 ds G8) I ⟨G,ρ,k,by rw[zf];exact λJ1 G8 H8 k8 _ q=>⟨G8,k8,q⟩⟩;rw[hx]at h;refine thn h λxv s8 h8=>thn h8 λitv s9 h9=>?_
 obtain⟨Bp,fp1,tn1,J1,H9,rfl,I9,T1,st9,f9,G9,k9,its9⟩:=h9
 have loop:codeAny (model Y.prog Y.w) Y.A (.compLoop (.ListComp elt gens scope pos) (j+1) (.ref Bp) (.ref D') Y.env) (λr s₆=>match r with | .ok _=>Q s₆ | .error _=>False) s9:=
  P9 hx hc (rule (.ref Bp)) hg ht (hb _) I9 T1 st9 f9 k9.rebase its9 (k9.bh _ _ hD) (k9.np _ (.l _) hD gD) (r.mono k9.g0) z λσ' H' G' vs' s' L=>
   fin σ' H' G' vs' s' ⟨L.inv,L.eok,λa o z q=>L.hh a o z (k9.bh a o q),k9.g0.trans L.gg,λa o z q w=>L.np a o z (k9.bh a _ q) (k9.np a o q w),L.hd,L.gd,L.rp⟩
 exact Cy hn loop (T1.self Y.A 0 _ _ _ st9 loop)
end
def W4(Y:Cx)(e:Ue)(j:Nat)(tg:Ue)(ifs:Ba)(rd:RdB):Prop:=
 ∀(D':Uc)(it:J9),∃W,Vz Y.prog Y.w Y.A tg ifs Y.env it (.compLoop e j it (.ref D') Y.env) W/\W5 Y D' W rd
section
variable{Y:Cx}{elt tg i:Ue}{ifs:Ba}{gens:List Comprehension}{scope:Scope}{pos:Pos}{j:Nat}
theorem E6{g:M D}(hx:Y.xe=nox)(hg:gens[j]?=O ⟨tg,i,ifs,0⟩)(hn:gens[j+1]?=C4)(he:∀B1 G1,PE Y elt (tD Y.K B1 G1 g)):W4 Y (.ListComp elt gens scope pos) j tg ifs (rL g):=
 λ_ _=>⟨_,Db hg hn,E8 hx he⟩
theorem Dv{Bv i1:Ue}{ifs1:Ba}{f:M C7}{s:D->UA->Bg}{t:M Bool}{rd:RdB}(hx:Y.xe=nox)(hc:Y.calm=C5)(hg:gens[j]?=O ⟨tg,i,ifs,0⟩)(hn:gens[j+1]?=O ⟨Bv,i1,ifs1,0⟩)(hs:∀x,Uy i1 Y.env x=pure x)
  (hi:∀B1 G1,PI Y Bv i1 (iD Y.K B1 G1 f)) (hgt:∀B1 G1,PG Y Bv (tG Y.K B1 G1 s)) (ht:∀B1 G1,ZQ Y ifs1 (tBo Y.K B1 G1 t)) (hb:W4 Y (.ListComp elt gens scope pos) (j+1) Bv ifs1 rd):W4 Y (.ListComp elt gens scope pos) j tg ifs (rN f s t rd):=
 λD' _=>⟨_,Da hg hn hs,E7 hx hc hn (λBp=>(Classical.choose_spec (hb D' Bp)).1) hi hgt ht (λBp=>(Classical.choose_spec (hb D' Bp)).2)⟩
end
noncomputable def Zx(l:Bool)(ρ:UA):UA:=match l with|true=>U4 ρ|false=>U0 ρ
theorem Ma{K:Frag}{B G0 G1 H2:Hp}{σ:St}{ρ1:UA}{D:Uc}(l:Bool)(k1:EOk K B G0 G1 H2 σ ρ1)(hfr:H2 D=C4)(n:Nat) :
  ∃Gb,EOk K (upd H2 D (.lst [])) Gb Gb (upd H2 D (.lst [])) (σ++Uk n C4) (Zx l ρ1++Uk n C4)/\Same G1 Gb/\Gb D=C4 /\
   ∀(G' H':Hp) vs es,(l=C5->es.all flat=C5)->Same Gb G'->Same H2 H'->Same G' H'->(∀a(u:MO),H2 a=O u.ho->Gb a=C4->G' a=C4)->G' D=C4->Reps K G' vs es->∃Gf,Ext G1 H2 Gf H'/\Gf D=C4/\Reps K Gf vs es:=by
 have gD:G1 D=C4:=k1.gh.free hfr;cases l with
 |false=>exact⟨G1,(k1.beside gD).more n,.refl _,gD,λG' H' vs es _ g h gh np d r=>⟨G',⟨h,g,gh,np⟩,d,r⟩⟩
 |true=>exact⟨H2,k1.lend hfr n,k1.gh,hfr,λG' H' vs es fl _ h _ _ _ r=>⟨G1,⟨h,.refl _,k1.gh.trans h,λ_ _ _ n=>n⟩,gD,r.flat (fl C3)⟩⟩
noncomputable def dCG(l:Bool)(f:M C7)(k:Nat)(s:D->UA->Bg)(t:M Bool)(rd:RdB):M C7:=λρ=>match f ρ with
 |.bad=>.bad
 |.ok ds ρ1=>match cT s t rd ds (Zx l ρ1++Uk k C4) []with
  |none=>.bad
  |some (es,_)=>if l=C5->es.all flat=C5 then .ok es ρ1 else .bad
theorem Pz{l:Bool}{f:M C7}{k:Nat}{s:D->UA->Bg}{t:M Bool}{rd:RdB}{ρ ρ':UA}{es:C7}(h:dCG l f k s t rd ρ=.ok es ρ'):∃ds ρF,f ρ=.ok ds ρ'/\cT s t rd ds (Zx l ρ'++Uk k C4) []=O (es,ρF)/\(l=C5->es.all flat=C5):=by
 unfold dCG at h;cases zf:f ρ with
 |bad=>rw[zf]at h;cases h
 |ok ds ρ1=>
 rw[zf]at h;dsimp only at h;cases zl:cT s t rd ds (Zx l ρ1++Uk k C4) []with
 |none=>rw[zl]at h;cases h
 |some pr=>
 obtain⟨esF,ρF⟩:=pr;rw[zl]at h;dsimp only at h;split at h
 .rename_i hf
  cases h;exact⟨ds,ρF,rfl,zl,hf⟩
 .cases h
section
variable{X:Cx}{B G0:Hp}{KX:XW}
def Zz(X:Cx)(N2:List Str)(scope:Scope)(e tg:Ue)(ifs:Ba)(s:D->UA->Bg)(t:M Bool)(rd:RdB):Prop:=
 ∀(cl:List (Str×Uc))(C:Uc)(s₀:Ua)(H₀:Hp)(ex:Be),(∀B' G',PG (X.blk N2 scope cl C s₀ H₀ ex) tg (tG X.K B' G' s))/\(∀B' G',ZQ (X.blk N2 scope cl C s₀ H₀ ex) ifs (tBo X.K B' G' t))/\W4 (X.blk N2 scope cl C s₀ H₀ ex) e 0 tg ifs rd
structure Vb(SC scope:Scope)(N1 N2:List Str)(k:Nat):Prop where
 b:VA scope.names N1 N2 k=C5
 kind:scope.kind=.function
 names:∀y∈scope.names,scope.names.lookup y.1=O y.2
 free:∀y∈scope.names,y.2=.free->SC.names.lookup y.1=O .cell∨SC.names.lookup y.1=O .free
theorem P8{l:Bool}{tg elt iter:Ue}{ifs:Ba}{gs:List Comprehension}{scope:Scope}{pos pos':Pos}{N2:List Str}{k:Nat}{f:M C7}{s:D->UA->Bg}{t:M Bool}{rd:RdB}{use:Option (J9->Sem Unit)}{Qc:J9->Ua->Prop}(hc:X.calm=C5)
  (hi:PI X tg iter (iD X.K B G0 f)) (Bm:Zz X N2 scope (.ListComp elt (⟨tg,iter,ifs,0⟩::gs) scope pos) tg ifs s t rd) (hb:Vb X.env.scope scope X.N N2 k) (hs:∀x,Uy iter X.env x=pure x)
  {pins:List (Uc×Obj)} {s0:Ua} {σ:St} {G H:Hp} {ρ ρ1 ρF:UA} {ds esF:C7} (I:Inv X pins σ H s0) (k0:EOk X.K B G0 G H σ ρ) (zf:f ρ=.ok ds ρ1) (zl:cT s t rd ds (Zx l ρ1++Uk k C4) []=O (esF,ρF)) (hfl:l=C5->esF.all flat=C5)
  (B6:∀(C D:Uc)(vs:List V)(G' H':Hp)(s4:Ua)(m:Str->Bd),Inv X pins σ H' s4->s4.heap.Ns C m->H' C=C4->C≠X.env.locals->X.s₀.heap.objs.size<=C->(∀x c,X.env.cells.lookup x=O c->c≠C)->(∀p∈X.pn++pins,p.1≠C) ->
   EOk X.K B G0 G' H' σ ρ1->Same G G'->NewL X.K B G' H' σ ρ1 D vs esF->compPost (model X.prog X.w) X.A X.xe use Qc (.ref D) C (.ok .next) s4) :
  Ug (model X.prog X.w) X.A (comprehension (.ListComp elt (⟨tg,iter,ifs,0⟩::gs) scope pos) scope X.env pos' (newList []) C6 (eval iter X.env) use) Qc X.xe s0:=by
 obtain⟨Ah,hcl,Ag,cl2⟩:=DS (scope:=scope) (env:=X.env) λy hy hf=>I.ok.has y.1 (hb.free y hy hf)
 refine wpAny_comprehension_free (use:=use) C3 hs hcl hb.kind (λy hy hl=>(hb.names y hy).trans (by rw[hl])) (thn (hi pins s0 σ H (λJ H1=>∃G1,EOk X.K B G0 G1 H1 σ ρ1/\Same G G1/\Yn X.K J ds G1) I ⟨G,ρ,k0,by rw[zf];exact λJ G1 H1 k1 s1 it=>⟨G1,k1,s1,it⟩⟩) λv s1 h1=>thn h1 λitv s2 h2=>?_);obtain⟨it,fp,tn,J,H2,rfl,I2,T,st2,f2,G1,k1,sg1,its⟩:=h2;refine wpAny_newObj_type (MK Ag cl2 hb.names (λx c e=>let ⟨_,q⟩:=I2.cell x c e;Qv q.lt (by first|exact Qo _|(rw[Heap.size_push];exact Jy _))) λh₁ cl hns₁ kept hco=>?_);dsimp only at hns₁ kept hco⊢;have hfr:H2 s2.heap.objs.size=C4:=I2.hok.fresh (Qo _)
 have I3:Inv X pins σ (upd H2 s2.heap.objs.size (.lst [])) {s2 with heap:=s2.heap.push {cls:=.type "list", dict:=C4,data:=.seq ([]:C9).toArray}}:=
  I2.laid (t':=s2.toks) (λb u e=>Ql _ e) (Qo _) ⟨JN _,[],0,.nil,QB _ C3⟩
 generalize hP:s2.heap.push {cls:=.type "list", dict:=C4,data:=.seq ([]:C9).toArray}=P at I3 hns₁ kept hco⊢;have old:∀b o,s2.heap.get? b=O o->P.get? b=O o:=λb o e=>hP ▸ Ql _ e;have fpo:∀b∈fp,∃o,s2.heap.get? b=O o:=λb hb=>let ⟨o,e,_⟩:=T.obj _ _ st2 b hb;⟨o,e⟩
 have fpD:∀b∈fp,b≠s2.heap.objs.size:=λb hb=>let ⟨o,e⟩:=fpo b hb;QO (Qi e)
 have f3:∀b∈fp,KF X pins (upd H2 s2.heap.objs.size (.lst [])) b:=λb hb=>⟨by rw[US (fpD b hb)];exact(f2 b hb).1,(f2 b hb).2⟩
 have I4:=I3.enter (scope:=scope) (cl:=cl) (N2:=N2) (k:=k) (fp:=fp) (t':=s2.toks) hb.b hb.kind hb.free hco hns₁ kept f3 (λb hb=>let ⟨o,e⟩:=fpo b hb;⟨o,old b o e⟩);dsimp only at I4;obtain⟨Gb,kb,sgb,gbD,ex⟩:=Ma l k1 hfr k;have sH:Same H2 (upd H2 s2.heap.objs.size (.lst [])):=KB hfr;have hD3:upd H2 s2.heap.objs.size (.lst []) s2.heap.objs.size=O (.lst []):=Kd;generalize upd H2 s2.heap.objs.size (.lst [])=H3 at I3 I4 f3 kb sH hD3;generalize s2.heap.objs.size=D at *;have tn0:tn 0 h₁:=T.keep 0 _ _ st2 λb hb o e=>kept b o (old b o e)
 have stat:∀b∈fp,KF (X.blk N2 scope cl P.objs.size {s2 with heap:=P} H3 fp) pins H3 b:=λb hb=>by
  obtain⟨z0,z1,z2,z3,z4,z5⟩:=f3 b hb;obtain⟨o,e⟩:=fpo b hb;refine⟨z0,QO (Qi (old b o e)),λz=>?_,.inl hb,λx c q=>(hco.old x c q).elim (z4 x c) λw=>JE (Nat.lt_trans (Qi (old b o e)) w.1),z5⟩;rcases QM.mp (I3.stkSub b z)with q|q
  .exact z1 q
  .exact z2 q
 have neD:∀a o,H2 a=O o->a≠D:=λa o q z=>by subst z;rw[hfr]at q;cases q
 obtain⟨hg,ht,hcl'⟩:=Bm cl P.objs.size {s2 with heap:=P} H3 fp;obtain⟨W,rule,body⟩:=hcl' D (.ref it)
 have loop:=P9 (Y:=X.blk N2 scope cl P.objs.size {s2 with heap:=P} H3 fp) (D':=D) (R:=compPost (model X.prog X.w) X.A X.xe use Qc (.ref D) P.objs.size) C3 hc rule hg ht body I4 T tn0 stat kb
  ⟨λi G H s1 s2 hi=>its.go i G H (sgb.trans s1) s2 hi,λi G H s1 s2 hi=>its.stop i G H (sgb.trans s1) s2 hi,λi G H x H' d s1 s2 e y=>its.yld i G H x H' d (sgb.trans s1) s2 e y⟩ hD3 gbD .nil zl λσ' H' G' vs' s4 L=>by
   obtain⟨m,hm,_⟩:=id L.inv.loc;have I7:Inv X pins σ H' s4:=I3.call' (ch:=fp) L.inv.os L.inv.base L.inv.hok L.inv.bare λb hb=>⟨(f3 b hb).2.2.2.1,(f3 b hb).2.1,(f3 b hb).2.2.2.2.1,(f3 b hb).2.2.2.2.2⟩
   obtain⟨Gf,eF,dF,rF⟩:=ex G' H' vs' esF hfl L.gg (λa o q=>L.hh a o (neD a o q) (sH a o q)) L.eok.gh (λa o q z=>L.np a o (neD a _ q) (sH a _ q) z) L.gd L.rp
   refine B6 P.objs.size D vs' Gf H' s4 m I7 hm L.inv.free (JE I3.lt) I3.sz (λx c e z=>by obtain⟨_,q⟩:=I3.cell x c e;exact absurd q.lt (by rw[z];exact Ju _)) (λp hp z=>by have:=Qi (I3.pin p hp).1;exact absurd this (by rw[z];exact Ju _))
    (k1.ext eF) (sg1.trans eF.g) ⟨k1.bh.free hfr,dF,L.hd,rF,λj es' q z=>?_,λj pt d v fp q s r=>k1.freshD eF.h hfr q s r⟩
   obtain⟨a',ws,h1',h2',h3',Bt,h5'⟩:=k1.own j es' q;rw[z]at h1';cases h1';rw[hfr]at Bt;cases Bt
 exact codeAny_compStart_list loop (T.self X.A 0 _ _ _ tn0 loop)
theorem N9{l:Bool}{tg elt iter:Ue}{ifs:Ba}{gs:List Comprehension}{scope:Scope}{pos:Pos}{N2:List Str}{k:Nat}{f:M C7}{s:D->UA->Bg}{t:M Bool}{rd:RdB}(hc:X.calm=C5)
  (hi:PI X tg iter (iD X.K B G0 f)) (Bm:Zz X N2 scope (.ListComp elt (⟨tg,iter,ifs,0⟩::gs) scope pos) tg ifs s t rd) (hb:Vb X.env.scope scope X.N N2 k) (hs:∀x,Uy iter X.env x=pure x:=by intro _;rfl) :
  PE X (.ListComp elt (⟨tg,iter,ifs,0⟩::gs) scope pos) (tL X.K B G0 (dCG l f k s t rd)):=by
 intro pins s0 σ H Q I ⟨G,ρ,k0,a⟩;cases z:dCG l f k s t rd ρ with
 |bad=>rw[z]at a;exact a.elim
 |ok es ρ1=>
 rw[z]at a;obtain⟨ds,ρF,zf,zl,hfl⟩:=Pz z;rw[eval_ListComp];refine P8 hc hi Bm hb hs I k0 zf zl hfl λC D vs G' H' s4 m I7 hm hC hL hz hcl hp k' s' n=>?_
 exact⟨m,hm,λh' sb=>⟨.ref D,H',I7.turned (t':=s4.toks) (it:=C) (λb o hb e=>(sb.2 b hb).trans e) hC hL (.inr hz) hcl hp,rfl,a D vs G' H' k' s' n⟩⟩
theorem sD_g{l:Bool}{y:Str}{j:Nat}{py:Pos}{spos:Pos}{tg elt iter:Ue}{ifs:Ba}{gs:List Comprehension}{scope:Scope}{pos:Pos}{N2:List Str}{k:Nat}{f:M C7}{s:D->UA->Bg}{t:M Bool}{rd:RdB}(hN:X.N.Nodup)(hj:X.N[j]?=O y)(hy:X.env.scope.names.lookup y=O .local)(hc:X.calm=C5)
  (hi:PI X tg iter (iD X.K B G0 f)) (Bm:Zz X N2 scope (.ListComp elt (⟨tg,iter,ifs,0⟩::gs) scope pos) tg ifs s t rd) (hb:Vb X.env.scope scope X.N N2 k) (hs:∀x,Uy iter X.env x=pure x:=by intro _;rfl)
  (hsw:swapsWith (.ListComp elt (⟨tg,iter,ifs,0⟩::gs) scope pos) (O (.Name y py)) spos.line X.env=pure C5:=by rfl) :
  PS X (.Assign [.Name y py] (.ListComp elt (⟨tg,iter,ifs,0⟩::gs) scope pos) spos) (tS X.K B G0 KX (Km j (dCG l f k s t rd))):=by
 intro pins s0 σ H Dn I ⟨G,ρ,k0,a⟩;unfold Km sB at a;cases z:dCG l f k s t rd ρ with
 |bad=>rw[z]at a;exact a.elim
 |ok es ρ1=>
 rw[z]at a;dsimp only at a;by_cases hl:j<ρ1.length
 .rw[Qq hl]at a
  obtain⟨ds,ρF,zf,zl,hfl⟩:=Pz z;rw[exec_Assign_Name_used _ _ _ _ hsw];refine Qe (wpAny_standAt (Qe ?_));show Ug _ X.A (do let _ ←comprehension (.ListComp elt (⟨tg,iter,ifs,0⟩::gs) scope pos) scope X.env _ (newList []) C6 (eval iter X.env) (O (assign (.Name y py) X.env))) _ _ s0;refine Qe (QP (P8 (use:=O (assign (.Name y py) X.env)) (Qc:=λ_ s'=>SP X pins Dn .next s') hc hi Bm hb hs I k0 zf zl hfl λC D vs G' H' s4 m I7 hm hC hL hz hcl hp k' s' n=>?_) (λ_ s' hq=>Qp (Qp hq)) λ_ _ e=>e);show Ug _ X.A (assign (.Name y py) X.env (.ref D)) _ _ s4;refine wpAny_assign_Name (OZ I7 hN hj (.inl hy) (v:=.ref D) C3 (λs5 I8 ⟨ad,sb,hx⟩=>?_) (.inr hy))
  have hCa:C≠ad:=by
   rcases hx with e|e
   .rw[e];exact hL
   .exact Ne.symm (hcl y ad e)
  refine⟨m,hm.sameBut sb hCa,λh' BP=>⟨_,H',I8.turned (t':=s5.toks) (it:=C) (λb o hb e=>(BP.2 b hb).trans e) hC hL (.inr hz) hcl hp,?_⟩⟩;exact a _ G' H' (k'.setOwn n hl) s'
 .rw[QE hl]at a;exact a.elim
theorem N8{K:Frag}{f f':M C7}(h:∀ρ es ρ',f ρ=.ok es ρ'->f' ρ=.ok es ρ'){σ:St}{H:Hp}{Q:VK}(q:tL K B G0 f σ H Q):tL K B G0 f' σ H Q:=by
 obtain⟨G,ρ,k,a⟩:=q;refine⟨G,ρ,k,?_⟩;cases z:f ρ with
 |bad=>rw[z]at a;exact a.elim
 |ok es ρ'=>rw[z]at a;rw[h ρ es ρ' z];exact a
theorem MI{K:Frag}{f f':M C7}{j:Nat}(h:∀ρ es ρ',f ρ=.ok es ρ'->f' ρ=.ok es ρ'){Dn:_}{σ:St}{H:Hp}(q:tS K B G0 KX (Km j f) Dn σ H):tS K B G0 KX (Km j f') Dn σ H:=by
 obtain⟨G,ρ,k,a⟩:=q;refine⟨G,ρ,k,?_⟩;unfold Km sB at a⊢;cases z:f ρ with
 |bad=>rw[z]at a;exact a.elim
 |ok es ρ'=>rw[z]at a;rw[h ρ es ρ' z];exact a
end
theorem Tl{s:D->UA->Bg}{t:M Bool}{g:M D}:∀{ds:C7}{ρ:UA}{es esF:C7},Kz s t g ds ρ es=O esF->∃ρF,cT s t (rL g) ds ρ es=O (esF,ρF)
 |[],ρ,es,esF,h=>by rw[Kz]at h;cases h;exact⟨ρ,rfl⟩
 |d::r,ρ,es,esF,h=>by
  rw[Kz]at h;rw[cT];cases zs:s d ρ with
  |none=>rw[zs]at h;cases h
  |some ρ1=>
  rw[zs]at h;dsimp only at h⊢;cases zt:t ρ1 with
  |bad=>rw[zt]at h;cases h
  |ok b ρ2=>
  rw[zt]at h;dsimp only at h⊢;cases b with
  |false=>exact Tl (ds:=r) h
  |true=>
   rw[Qq C3]at h⊢;unfold rL;cases zg:g ρ2 with
   |bad=>rw[zg]at h;cases h
   |ok e ρ3=>
   rw[zg]at h;dsimp only at h⊢;split at h
   .rename_i hl
    rw[Qq hl];exact Tl (ds:=r) h
   .cases h
theorem SW{s:D->UA->Bg}{t:M Bool}{g:M D}:∀{ds:C7}{ρ:UA}{es:C7},YU s t g ds ρ es=cT s t (rL g) ds ρ es
 |[],ρ,es=>rfl
 |d::r,ρ,es=>by
  rw[YU,cT];cases s d ρ with
  |none=>rfl
  |some ρ1=>
  dsimp only;cases t ρ1 with
  |bad=>rfl
  |ok b ρ2=>
  dsimp only;cases b with
  |false=>exact SW (ds:=r)
  |true=>
   rw[Qq C3,Qq C3];unfold rL;cases g ρ2 with
   |bad=>rfl
   |ok e ρ3=>
   dsimp only;split
   .exact SW (ds:=r)
   .rfl
theorem SV{s s1:D->UA->Bg}{t t1:M Bool}{f:M C7}{g:M D}:∀{ds:C7}{ρ:UA}{es esF:C7},Yq s t f s1 t1 g ds ρ es=O esF->∃ρF,cT s t (rN f s1 t1 (rL g)) ds ρ es=O (esF,ρF)
 |[],ρ,es,esF,h=>by rw[Yq]at h;cases h;exact⟨ρ,rfl⟩
 |d::r,ρ,es,esF,h=>by
  rw[Yq]at h;rw[cT];cases zs:s d ρ with
  |none=>rw[zs]at h;cases h
  |some ρ1=>
  rw[zs]at h;dsimp only at h⊢;cases zt:t ρ1 with
  |bad=>rw[zt]at h;cases h
  |ok b ρ2=>
  rw[zt]at h;dsimp only at h⊢;cases b with
  |false=>exact SV (ds:=r) h
  |true=>
   rw[Qq C3]at h⊢;unfold rN;cases zg:f ρ2 with
   |bad=>rw[zg]at h;cases h
   |ok ds ρ3=>
   rw[zg]at h;dsimp only at h⊢;rw[←SW];cases zl:YU s1 t1 g ds (U0 ρ3) es with
   |none=>rw[zl]at h;cases h
   |some pr=>rw[zl]at h;exact SV (ds:=r) h
theorem FQ{f:M C7}{k:Nat}{s:D->UA->Bg}{t:M Bool}{g:M D}(ρ:UA)(es:C7)(ρ':UA)(h:ZV f k s t g ρ=.ok es ρ'):dCG C6 f k s t (rL g) ρ=.ok es ρ':=by
 unfold ZV at h;unfold dCG;cases zf:f ρ with
 |bad=>rw[zf]at h;cases h
 |ok ds ρ1=>
 rw[zf]at h;dsimp only[Zx]at h⊢;cases zl:Kz s t g ds (U0 ρ1++Uk k C4) []with
 |none=>rw[zl]at h;cases h
 |some esF=>
 rw[zl]at h;cases h;obtain⟨ρF,e⟩:=Tl zl;rw[e];exact Qq λz=>by cases z
theorem Du{f:M C7}{k:Nat}{s:D->UA->Bg}{t:M Bool}{g:M D}(ρ:UA)(es:C7)(ρ':UA)(h:XX f k s t g ρ=.ok es ρ'):dCG C5 f k s t (rL g) ρ=.ok es ρ':=by
 unfold XX at h;unfold dCG;cases zf:f ρ with
 |bad=>rw[zf]at h;cases h
 |ok ds ρ1=>
 rw[zf]at h;dsimp only[Zx]at h⊢;cases zl:Kz s t g ds (U4 ρ1++Uk k C4) []with
 |none=>rw[zl]at h;cases h
 |some esF=>
 rw[zl]at h;dsimp only at h;split at h
 .rename_i hf
  cases h;obtain⟨ρF,e⟩:=Tl zl;rw[e];exact Qq λ_=>hf
 .cases h
theorem Dt{f f1:M C7}{k:Nat}{s s1:D->UA->Bg}{t t1:M Bool}{g:M D}(ρ:UA)(es:C7)(ρ':UA)(h:Vl f k s t f1 s1 t1 g ρ=.ok es ρ'):dCG C6 f k s t (rN f1 s1 t1 (rL g)) ρ=.ok es ρ':=by
 unfold Vl at h;unfold dCG;cases zf:f ρ with
 |bad=>rw[zf]at h;cases h
 |ok ds ρ1=>
 rw[zf]at h;dsimp only[Zx]at h⊢;cases zl:Yq s t f1 s1 t1 g ds (U0 ρ1++Uk k C4) []with
 |none=>rw[zl]at h;cases h
 |some esF=>
 rw[zl]at h;cases h;obtain⟨ρF,e⟩:=SV zl;rw[e];exact Qq λz=>by cases z
noncomputable def XV(q:Option NameKind->Bool)(SC scope:Scope)(N1 N2:List Str)(k:Nat):Bool:=
 VA scope.names N1 N2 k&&decide (scope.kind=.function)&&(scope.names.all λy=>decide (scope.names.lookup y.1=O y.2))&&scope.names.all λy=>match y.2 with
  |.free=>q (SC.names.lookup y.1)
  |_=>C5
noncomputable def Va:Option NameKind->Bool
 |some .cell=>C5|some .free=>C5|_=>C6
theorem DR{q:Option NameKind->Bool}{SC SC' scope:Scope}{N1 N2:List Str}{k:Nat}(h:XV q SC scope N1 N2 k=C5)(f:∀x,q (SC.names.lookup x)=C5->SC'.names.lookup x=O .cell∨SC'.names.lookup x=O .free):Vb SC' scope N1 N2 k:=by unfold XV at h;rw[QQ,QQ,QQ,QZ,QZ]at h;obtain⟨⟨⟨h1,h2⟩,h0⟩,h3⟩:=h;refine⟨h1,Qa h2,λy hy=>Qa (h0 y hy),λy hy e=>?_⟩;have:=h3 y hy;rw[e]at this;exact f _ this
theorem Py{SC scope:Scope}{N1 N2:List Str}{k:Nat}(h:XV Va SC scope N1 N2 k=C5):Vb SC scope N1 N2 k:=DR h λx e=>by
 cases z:SC.names.lookup x with
 |none=>rw[z]at e;cases e
 |some y=>rw[z]at e;cases y<;>first|exact .inl rfl|exact .inr rfl|cases e
section
variable{X:Cx}{B G0:Hp}{KX:XW}
theorem N7{l:Bool}{tg elt iter:Ue}{ifs:Ba}{gs:List Comprehension}{scope:Scope}{pos:Pos}{f:M C7}{s:D->UA->Bg}{t:M Bool}{rd:RdB}{F:M C7}(SC:Scope)(N1 N2:List Str)(k:Nat)(le:∀ρ es ρ',F ρ=.ok es ρ'->dCG l f k s t rd ρ=.ok es ρ')(hc:X.calm=C5)
  (hi:PI X tg iter (iD X.K B G0 f)) (Bm:Zz X N2 scope (.ListComp elt (⟨tg,iter,ifs,0⟩::gs) scope pos) tg ifs s t rd) (h1:X.env.scope=SC) (h2:X.N=N1) (hb:XV Va SC scope N1 N2 k=C5) (hs:∀x,Uy iter X.env x=pure x:=by intro _;rfl) :
  PE X (.ListComp elt (⟨tg,iter,ifs,0⟩::gs) scope pos) (tL X.K B G0 F):=
 UR (N9 hc hi Bm (by rw[h1,h2];exact Py hb) hs) λ_ _ _ q=>N8 le q
theorem sD_1{l:Bool}{y:Str}{j:Nat}{py:Pos}{spos:Pos}{tg elt iter:Ue}{ifs:Ba}{gs:List Comprehension}{scope:Scope}{pos:Pos}{f:M C7}{s:D->UA->Bg}{t:M Bool}{rd:RdB}{F:M C7}(SC:Scope)(N1 N2:List Str)(k:Nat)(le:∀ρ es ρ',F ρ=.ok es ρ'->dCG l f k s t rd ρ=.ok es ρ')(hN:X.N.Nodup)(hj:X.N[j]?=O y)(hy:X.env.scope.names.lookup y=O .local)(hc:X.calm=C5)
  (hi:PI X tg iter (iD X.K B G0 f)) (Bm:Zz X N2 scope (.ListComp elt (⟨tg,iter,ifs,0⟩::gs) scope pos) tg ifs s t rd) (h1:X.env.scope=SC) (h2:X.N=N1) (hb:XV Va SC scope N1 N2 k=C5) (hs:∀x,Uy iter X.env x=pure x:=by intro _;rfl)
  (hsw:swapsWith (.ListComp elt (⟨tg,iter,ifs,0⟩::gs) scope pos) (O (.Name y py)) spos.line X.env=pure C5:=by rfl) :
  PS X (.Assign [.Name y py] (.ListComp elt (⟨tg,iter,ifs,0⟩::gs) scope pos) spos) (tS X.K B G0 KX (Km j F)):=
 Kf (sD_g hN hj hy hc hi Bm (by rw[h1,h2];exact Py hb) hs hsw) λ_ _ _ q=>MI le q
end
section
variable{X:Cx}{B G0:Hp}{e a b c tg:Ue}{pos:Pos}{es rest:Ba}
theorem EOk.given{K:Frag}{G H:Hp}{σ:St}{ρ:UA}{a:Uc}{vs:List V}{ds:C7}(k:EOk K B G0 G H σ ρ)(n:NewL K B G H σ ρ a vs ds):EOk K B G0 (upd G a (.lst vs)) H σ ρ where
 bh:=k.bh
 gh:=λb u q=>by
  by_cases z:b=a
  .subst z;rw[Kd]at q;cases q;exact n.h
  .rw[US z]at q;exact k.gh b u q
 g0:=k.g0.trans (KB n.g)
 np:=λb o q z=>by
  have zb:b≠a:=λz=>by subst z;rw[n.b]at q;cases q
  rw[US zb];exact k.np b o q z
 len:=k.len
 pub:=λi d q=>let ⟨v,h1,h2⟩:=k.pub i d q;⟨v,h1,h2.mono (KB n.g)⟩
 own:=λi ds q=>by
  obtain⟨b,ws,h1,h2,h3,h4,h5⟩:=k.own i ds q;have zb:b≠a:=λz=>by subst z;exact n.f i ds q h1
  exact⟨b,ws,h1,h2,by rw[US zb];exact h3,h4,h5.mono (KB n.g)⟩
 sep:=k.sep
 dp:=k.dp.map (λ_ _ _ q=>⟨q,rfl⟩) (λ_ ds q=>⟨ds,q,rfl⟩) λi p d v fp q s r w nn=>⟨r.mono (KB n.g) (.refl _),λb m=>⟨(w b m).1,by rw[US (λz=>n.dp i p d v fp q s r (by rw[←z];exact m))];exact(w b m).2⟩⟩
theorem HI{f:M C7}(h:PE X e (tL X.K B G0 f)):PE X e (tD X.K B G0 (UL Ul f)):=
 UR h λσ H Q ⟨G,ρ,k,a⟩=>by
  refine⟨G,ρ,k,?_⟩;unfold UL UM at a;cases z:f ρ with
  |bad=>rw[z]at a;exact a.elim
  |ok ds ρ1=>rw[z]at a;intro ad vs G' H' k' s' n;exact a (.ref ad) _ H' (k'.given n) (s'.trans (KB n.g)) (.lst (SqL.of Kd) (n.r.mono (KB n.g)))
theorem FP(hc:X.calm=C5):ZC X (.builtin "all") (λxs H Q=>∃l,∃bs:List Bool,xs=[.ref l]/\SqL X.K H l (bs.map V.bl)/\Q (.bl (bs.all id)) H):=by
 intro pins s σ H xs us Q I rx h;obtain⟨l,bs,rfl,hq,q⟩:=h;obtain⟨u,rfl,ru⟩:=rx.one;cases ru;obtain⟨its,rv,p,hz⟩:=I.list hq;have hl:=p.isList;have hlt:l<s.heap.objs.size:=by obtain⟨_,e,_⟩:=id hl;exact Qi e
 have key:∀(i:Nat) v,its.toArray[i]?=O v->∃t,bs[i]?=O t/\v=.bool t:=λi v e=>by
  have e:its[i]?=O v:=by simpa using e
  have hi:i<bs.length:=by
   have:=(Qg.mp e).1;have h2:=rv.length;rw[Qd]at h2
   lia
  obtain⟨u,e2,r2⟩:=rv.get (i:=i) (x:=.bl bs[i]) (by rw[Qj,Qb hi];rfl);rw[e]at e2;cases e2;exact⟨bs[i],Qb hi,r2⟩
 refine call_all_walk (wpAny_pyIter_list hl ?_)
 refine⟨s.heap.objs.size,[s.heap.objs.size,l],[s.heap.objs.size],its.toArray.size,_,_,λi=>(bs[i]?).getD C5,rfl,Walks.list (A:=X.A.in1) (I.ok.hd hc) _ l (QO hlt) its.toArray,
  ⟨⟨_,QB _ C3,rfl,rfl⟩,hl.push _⟩,λi v s' Q' E' hP hQ=>?_,λh' tk hk=>?_⟩
 .obtain⟨b,e,rfl⟩:=key i v hP
  simp only[e,JR]at hQ;exact Q5 hQ
 .have hn:its.toArray.size=bs.length:=by have:=rv.length;rw[List.length_map]at this;simp;lia
  have e:((Uj its.toArray.size).all λi=>(bs[i]?).getD C5)=bs.all id:=by
   rw[hn,JX,QZ,QZ];constructor
   .intro h b hb
    obtain⟨i,hi,e⟩:=List.getElem_of_mem hb;have:=h i (QX.mpr hi);simp only[Qb hi,JR,e]at this;exact this
   .intro h i hi
    have hi':=QX.mp hi;simp only[Qb hi',JR];exact h _ (Jc hi')
  rw[e];exact⟨.bl (bs.all id),H,I.kept (t':=tk) λb x e=>hk b x (λhm=>by rw[Qw.mp hm]at e;exact Ju _ (Qi e)) (Ql _ e),rfl,q⟩
noncomputable def XG:C7->Option (List Bool)
 |[]=>O []
 |.bool b::r=>(XG r).map (b :: ·)
 |_=>C4
theorem O7{K:Frag}{G:Hp}:∀{vs:List V}{ds:C7}{bs:List Bool},Reps K G vs ds->XG ds=O bs->vs=bs.map V.bl
 |_,_,bs,.nil,e=>by cases e;rfl
 |_,_,bs,.cons (d:=d) r t,e=>by
  cases d with
  |bool b=>
   unfold XG at e;cases z:XG _ with
   |none=>rw[z]at e;cases e
   |some cs=>rw[z]at e;cases e;rw[r.bl_inv,O7 t z];rfl
  |_=>cases e
noncomputable def ZL:C7->Bb
 |[.list ds]=>(XG ds).map λbs=>.bool (bs.all id)
 |_=>C4
theorem N6(hc:X.calm=C5):ZW X (.builtin "all") ZL:=by
 refine⟨_,FP hc,λvs G H ds d Q s r e k=>?_⟩;unfold ZL at e;split at e
 .rename_i ds
  cases z:XG ds with
  |none=>rw[z]at e;cases e
  |some bs=>rw[z]at e;cases e;obtain⟨v,rfl,q⟩:=r.one_inv;obtain⟨l,ws,rfl,h1,r1⟩:=q.lst_inv;have hw:=O7 r1 z;subst hw;exact⟨l,bs,rfl,s.seq h1,k _ G H (.refl s) (.bl _)⟩
 .cases e
noncomputable def Its(x:Str):It:=⟨λi _=>i<x.cps.size,λi H v H'=>H'=H/\∃c,x.cps[i]?=O c/\v=.str ⟨#[c]⟩,λi _=>x.cps.size<=i⟩
theorem FO{P:Ub}{w:World}{K:Frag}{tg:Ue}(x:Str)(t:Tok)(it:Uc):Turn P w K tg (Its x) [it] it (λi h=>h.IsStrIter it (strIterType x) x t i) where
 mem:=by simp
 obj:=λi h st b hb=>by
  have e:b=it:=by simpa using hb
  subst e;obtain⟨o,e,c,d⟩:=st;exact⟨o,e,λv z=>by rw[d]at z;cases z⟩
 keep:=λi h h' st k=>by obtain⟨o,e,c,d⟩:=st;exact⟨o,k it (by simp) o e,c,d⟩
 item:=by
  intro X hP hw hK hc i pins s σ H E I hf st hg;subst hP hw hK;obtain⟨f0,f1,f2,f3,f4,f5⟩:=hf it (by simp);have hx:x.cps[i]?=O x.cps[i]:=JB hg
  have fin:∀h' tk(T:String),strIterType x=T->h'.IsStrIter it T x t (i+1)->Heap.SameBut it s.heap h'->["enumerate", "zip", "dict_itemiterator", "dict_reverseitemiterator", "odict_iterator", "itertools.zip_longest", "itertools.pairwise"].contains T=C6 ->
    ∃u,O (Value.str ⟨#[x.cps[i]]⟩ s.toks)=O u/\Ug (model X.prog X.w) X.A (letOwnedTupleGo tg (.ref it) u) (λ_ s2=>∃v H',Inv X pins σ H' s2/\RelV v u/\(Its x).yld i H v H'/\s2.heap.IsStrIter it (strIterType x) x t (i+1)/\∀b∈[it],H' b=C4) E {s with heap:=h',toks:=tk}:=by
   intro h' tk T eT st' sb hn;have I1:Inv X pins σ H {s with heap:=h',toks:=tk}:=I.turned (t':=tk) (λb o hb e=>(sb.2 b hb).trans e) f0 f1 f3 f4 f5;obtain⟨o,e,c,d⟩:=id st';refine⟨_,rfl,VT (s:={s with heap:=h',toks:=tk}) e c d hn ⟨.str ⟨#[x.cps[i]]⟩,H,I1,⟨_,rfl⟩,⟨rfl,_,hx,rfl⟩,by rw[eT];exact st',λb hb=>(hf b hb).1⟩⟩
  cases ha:x.cps.all (· < 128)with
  |true=>
   have eT:strIterType x = "str_ascii_iterator" :=by simp[strIterType,ha]
   rw[eT]at st;exact wpAny_pyNext_ascii_item st hx λh' st' sb=>fin h' _ _ eT st' sb (by decide)
  |false=>
   have eT:strIterType x = "str_iterator" :=by simp[strIterType,ha]
   rw[eT]at st;exact wpAny_pyNext_wide_item st hx λh' st' sb=>fin h' _ _ eT st' sb (by decide)
 done:=by
  intro X hP hw hK hc i pins s σ H E I hf st hg;subst hP hw hK;obtain⟨f0,f1,f2,f3,f4,f5⟩:=hf it (by simp);have hx:x.cps[i]?=C4:=Array.getElem?_eq_none hg;cases ha:x.cps.all (· < 128)with
  |true=>
   have eT:strIterType x = "str_ascii_iterator" :=by simp[strIterType,ha]
   rw[eT]at st;exact wpAny_pyNext_ascii_end (I.ok.hd hc) st hx λh' eb=>⟨rfl,I.turned (t':=s.toks) (λb o hb e=>eb b o hb e) f0 f1 f3 f4 f5⟩
  |false=>
   have eT:strIterType x = "str_iterator" :=by simp[strIterType,ha]
   rw[eT]at st;exact wpAny_pyNext_wide_end (I.ok.hd hc) st hx λh' eb=>⟨rfl,I.turned (t':=s.toks) (λb o hb e=>eb b o hb e) f0 f1 f3 f4 f5⟩
 self:=λA i s Q E st h=>by
  cases ha:x.cps.all (· < 128)with
  |true=>
   have eT:strIterType x = "str_ascii_iterator" :=by simp[strIterType,ha]
   rw[eT]at st;exact wpAny_pyIter_striter_ascii st h
  |false=>
   have eT:strIterType x = "str_iterator" :=by simp[strIterType,ha]
   rw[eT]at st;exact wpAny_pyIter_striter_wide st h
noncomputable def iAny(K:Frag)(tl:TE):TI:=λσ H R=>tl σ H λx H1=>(∃a,x=.ref a/\(∃xs,SqL K H1 a xs)/\R (Itl K a) H1)∨(∃a,x=.ref a/\(∃xs,SqT K H1 a xs)/\R (Itt K a) H1) ∨ ∃z,x=.str z/\R (Its z) H1
theorem MH{l:Ue}{tl:TE}(hl:PE X l tl):PI X tg l (iAny X.K tl):=by
 intro pins s σ H R I h;refine thn (hl pins s σ H _ I h) λv s1 ⟨x,H1,I1,r1,q1⟩=>?_
 have fpOk:∀b∈[s1.heap.objs.size],KF X pins H1 b:=λb hb=>by
  have e:b=s1.heap.objs.size:=by simpa using hb
  subst e;exact I1.fpOk (Qo _) (I1.hok.fresh (Qo _))
 rcases q1 with ⟨a,e,⟨xs,hq⟩,q⟩|⟨a,e,⟨xs,hq⟩,q⟩|⟨z,e,q⟩
 .subst e
  cases r1;obtain⟨its,rv,p,hz⟩:=I1.list hq;refine wpAny_pyIter_list p.isList ?_;exact⟨s1.heap.objs.size,[s1.heap.objs.size],_,_,H1,rfl,I1.kept (t':=s1.toks) λb o e=>Ql _ e,OY a _,⟨_,QB _ C3,rfl,rfl⟩,fpOk,q⟩
 .subst e
  cases r1;obtain⟨its,rv,p,hz⟩:=I1.tuple hq;refine wpAny_pyIter_tuple p ?_;exact⟨s1.heap.objs.size,[s1.heap.objs.size],_,_,H1,rfl,I1.kept (t':=s1.toks) λb o e=>Ql _ e,DY a _,⟨_,QB _ C3,rfl,rfl⟩,fpOk,q⟩
 .subst e
  obtain⟨t,rfl⟩:=r1;refine wpAny_pyIter_strU ?_;exact⟨s1.heap.objs.size,[s1.heap.objs.size],_,_,H1,rfl,I1.kept (t':=s1.toks) λb o e=>Ql _ e,FO z t _,⟨_,QB _ C3,rfl,rfl⟩,fpOk,q⟩
noncomputable def Vk(z:Str):C7:=z.cps.toList.map λc=>.str ⟨#[c]⟩
noncomputable def Sz:D->Option C7
 |.list ds=>O ds
 |.tuple ds=>O ds
 |.str z=>O (Vk z)
 |_=>C4
theorem CK{K:Frag}{G1:Hp}{ad:Uc}{vs:List V}{ds:C7}(h:SqT K G1 ad vs)(r:Reps K G1 vs ds):Yn K (Itt K ad) ds G1 where
 go:=λi G H s1 s2 hi=>by
  have hi':i<vs.length:=by rw[r.length];exact hi
  exact⟨vs,vs[i],ZB (s1.trans s2) h,Qb hi'⟩
 stop:=λi G H s1 s2 hi=>⟨vs,ZB (s1.trans s2) h,by rw[r.length];exact hi⟩
 yld:=λi G H x H' d s1 s2 e y=>by obtain⟨rfl,y⟩:=y;obtain⟨v,e1,r1⟩:=r.get e;have:=y vs (ZB (s1.trans s2) h);rw[e1]at this;cases this;exact⟨G,.refl s2,r1.mono s1⟩
theorem Ds{K:Frag}{G1:Hp}{z:Str}:Yn K (Its z) (Vk z) G1 where
 go:=λi G H s1 s2 hi=>by unfold Vk at hi;simpa[Its]using hi
 stop:=λi G H s1 s2 hi=>by unfold Vk at hi;simpa[Its]using hi
 yld:=λi G H x H' d s1 s2 e y=>by
  obtain⟨rfl,c,hc,rfl⟩:=y;unfold Vk at e;rw[Qj]at e;have:z.cps.toList[i]?=O c:=by simpa using hc
  rw[this]at e;cases e;exact⟨G,.refl s2,.str _⟩
noncomputable def K2(f:M D):M C7:=UM f λx=>UN (Sz x)
theorem MG{f:M D}(h:PE X e (tD X.K B G0 f)):PI X tg e (iD X.K B G0 (K2 f)):=Yu (MH h) λσ H R q=>tM.toI (R0:=Rep X.K) q λv H' G' ρ' x k r a=>by
 cases x with
 |list ds=>obtain⟨ad,vs,rfl,h1,r1⟩:=r.lst_inv;exact .inl ⟨ad,rfl,⟨vs,k.gh.seq h1⟩,a _ G' H' k (.refl _) (DU h1 r1)⟩
 |tuple ds=>obtain⟨ad,vs,rfl,h1,r1⟩:=r.tup_inv;exact .inr (.inl ⟨ad,rfl,⟨vs,ZB k.gh h1⟩,a _ G' H' k (.refl _) (CK h1 r1)⟩)
 |str z=>have:=r.str_inv;subst this;exact .inr (.inr ⟨z,rfl,a _ G' H' k (.refl _) Ds⟩)
 |_=>exact a.elim
noncomputable def inS(i j:Str):Bool:=!(Builtin.Str.occurrences j i 0 j.length 1).isEmpty
noncomputable def oInS:D->D->Bi
 |.str i,.str j=>O (inS i j)
 |_,_=>C4
noncomputable def Rv:D->D->Bi
 |.str i,.str j=>O (!inS i j)
 |_,_=>C4
theorem MF:OpB X (Ui .In) oInS:=⟨_,D0,λv u G H x y d Q s rx ry e k=>by
 unfold oInS at e;split at e
 .cases e
  have:=rx.str_inv;subst this;have:=ry.str_inv;subst this;exact⟨_,_,rfl,rfl,k⟩
 .cases e⟩
theorem Lu:OpB X (Ui .NotIn) Rv:=⟨_,CQ,λv u G H x y d Q s rx ry e k=>by
 unfold Rv at e;split at e
 .cases e
  have:=rx.str_inv;subst this;have:=ry.str_inv;subst this;exact⟨_,_,rfl,rfl,k⟩
 .cases e⟩
theorem ME{x:Str}{i:Int}(hg:Gl X x)(hm:∃t,X.mg x=O (.int i t))(hd:(x==("__debug__" : Str))=C6:=by decide):PE X (.Name x pos) (tD X.K B G0 (UE (.int i))):=by obtain⟨t,hm⟩:=hm;exact UR (Fq (v:=.int i) hg hm ⟨t,rfl⟩ hd) λσ H Q ⟨G,ρ,k,a⟩=>aft.now a k (.int _)
end
section
variable{X:Cx}{B G0:Hp}{KX:XW}{e o a b c tg i:Ue}{pos p2:Pos}{es rest:Ba}{te to ti:TE}
noncomputable def Lr(te to ti:TE):TS:=λD σ H=>te σ H λv H1=>to σ H1 λx H2=>ti σ H2 λk H3=>∃l xs n,x=.ref l/\H3 l=O (.lst xs)/\k=.int n/\0<=n/\n<xs.length/\D.nx σ (upd H3 l (.lst (xs.set n.toNat v)))
theorem FN(he:PE X e te)(ho:PE X o to)(hi:PE X i ti)(hs:swapsWith e (O (.Subscript o i p2)) pos.line X.env=pure C6:=by rfl):PS X (.Assign [.Subscript o i p2] e pos) (Lr te to ti):=by
 intro pins s σ H D I h;refine wpAny_Assign_Subscript (thn (he pins s σ H _ I h) λv s1 ⟨x,H1,I1,r1,q1⟩=>thn (ho pins s1 σ H1 _ I1 q1) λov s2 ⟨y,H2,I2,r2,q2⟩=>thn (hi pins s2 σ H2 _ I2 q2) λiv s3 ⟨k,H3,I3,r3,q3⟩=>?_) hs;obtain⟨l,xs,n,rfl,hl,rfl,h0,h1,q⟩:=q3;cases r2;obtain⟨t,rfl⟩:=r3;obtain⟨z,its,m,r,hlen,ee⟩:=I3.lstM hl
 refine PySem.W.ki_setAt (items:=its.toArray) (n:=m) ee h0 (by
                                  have:Uf<2 ^ 63:=by decide
                                  lia) (by simp;lia) ?_
 refine⟨σ,_,I3.lset (t':=s3.toks) (its:=its) (its':=its.set n.toNat v) (f:=(·.setIfInBounds n.toNat v)) hl ee (by simp) (r.set r1 n.toNat) (by rw[List.length_set];exact z),q⟩
noncomputable def VG(j:Nat)(g f:M D):SM:=sB f λd ρ1=>match ρ1[j]? with
 |some (O (.own _))=>sB g (λy ρ2=>match y with
  |.int k=>(match ρ2[j]? with
   |some (O (.own ds))=>if 0<=k/\k<ds.length then .nx (ρ2.set j (O (.own (ds.set k.toNat d))))else .bad
   |_=>.bad)
  |_=>.bad) ρ1
 |_=>.bad
theorem HH{j:Nat}{f g:M D}(he:PE X e (tD X.K B G0 f))(ho:PE X o (U2 j))(hi:PE X i (tD X.K B G0 g))(hs:swapsWith e (O (.Subscript o i p2)) pos.line X.env=pure C6:=by rfl) :
  PS X (.Assign [.Subscript o i p2] e pos) (tS X.K B G0 KX (VG j g f)):=
 Kf (FN he ho hi hs) λD σ H q=>tS.bnd (R:=Rep X.K) q λv H1 G1 ρ1 d k r a=>by
  cases q0:ρ1[j]? with
  |none=>rw[q0]at a;exact a.elim
  |some o0=>
   cases o0 with
   |none=>rw[q0]at a;exact a.elim
   |some sl0=>
    cases sl0 with
    |deep _ _=>rw[q0]at a;exact a.elim
    |pub d=>rw[q0]at a;exact a.elim
    |own BC=>
     rw[q0]at a;obtain⟨ad,vs0,h1,h2,h3,h4,h5⟩:=k.own j BC q0;refine⟨.ref ad,h1,G1,ρ1,k,?_⟩;dsimp only at a;unfold sB at a;cases z:g ρ1 with
     |bad=>rw[z]at a;exact a.elim
     |ok y ρ2=>
      rw[z]at a;dsimp only at a;intro kv G' H' k' s' r';cases y with
      |int n=>
       dsimp only at a;cases q:ρ2[j]? with
       |none=>rw[q]at a;exact a.elim
       |some oo=>
        cases oo with
        |none=>rw[q]at a;exact a.elim
        |some sl=>
         cases sl with
         |deep _ _=>rw[q]at a;exact a.elim
         |pub d=>rw[q]at a;exact a.elim
         |own ds=>
          rw[q]at a;dsimp only at a;split at a
          .rename_i hn
           obtain⟨ad',vs,g1,g2,g3,g4,g5⟩:=k'.own j ds q;rw[h1]at g1;cases g1;refine⟨ad,vs,n,rfl,g4,r'.int_inv,hn.1,by rw[g5.length];exact hn.2,?_⟩;exact a σ G' _ (k'.change q h1 (g5.set (r.mono s') n.toNat)) s'
          .exact a.elim
      |_=>exact a.elim
noncomputable def Yc(z:Str)(lo hi:Bf):Str:=if(Builtin.Str.strSliceIndices lo hi 1 z.length).length=z.length then z else⟨((Builtin.Str.strSliceIndices lo hi 1 z.length).filterMap (z.cps[·]?)).toArray⟩
theorem Lq:SlR X (λx lo hi H Q=>∃z,x=.str z/\(Yc z lo hi).length<=Uf/\Q (.str (Yc z lo hi)) H):=by
 intro pins s σ H x v vl vu lo hi sl Q I rx hs pl pu h;obtain⟨z,rfl,hz,q⟩:=h;obtain⟨t,rfl⟩:=rx;refine⟨"str", _,F.slot_str_getitem.lookup,typeIs_str s z t,?_⟩
 obtain⟨l,el,e1⟩:∃l:Option (Int×Tok),vl=partValue l/\l.map (·.1)=lo:=by
  cases pl with
  |none=>exact⟨C4,rfl,rfl⟩
  |int k t'=>exact⟨O (k,t'),rfl,rfl⟩
 obtain⟨u,eu,e2⟩:∃u:Option (Int×Tok),vu=partValue u/\u.map (·.1)=hi:=by
  cases pu with
  |none=>exact⟨C4,rfl,rfl⟩
  |int k t'=>exact⟨O (k,t'),rfl,rfl⟩
 subst el eu;refine wpAny_getItem_str_slice (l:=l) (u:=u) (st:=C4) hs C3 ?_;unfold sliceMade slicePicked;rw[e1,e2];unfold Yc at hz q;by_cases hw:(Builtin.Str.strSliceIndices lo hi 1 z.length).length=z.length
 .rw[Qq hw]at hz q
  rw[if_pos (by simp[hw])];exact⟨.str z,H,I,⟨t,rfl⟩,q⟩
 .rw[QE hw]at hz q
  rw[if_neg (by simp[hw])];exact⟨hz,.str _,H,I.tok _,⟨_,rfl⟩,q⟩
end
section
variable{X:Cx}{B G0:Hp}{KX:XW}{e o a b c tg i:Ue}{pos p2:Pos}{es rest:Ba}{te to ti:TE}
theorem pvb(i:Nat){x:Str}{pos:Pos}{N':List Str}{scope:Scope}{cl:List (Str×Uc)}{C:Uc}{s₀:Ua}{H₀:Hp}{ex:Be}(hN:N'[i]?=O x:=by rfl)
  (h:visK (scope.names.lookup x)=C5:=by rfl) (hd:(x==("__debug__" : Str))=C6:=by decide) (hcd:(x==("__classdict__" : Str))=C6:=by decide) :
  PE (X.blk N' scope cl C s₀ H₀ ex) (.Name x pos) (U2 i):=RV hN (HL h) hd hcd
noncomputable def Y6:D->Bf->Bf->Bb
 |.list xs,lo,hi=>O (.list (DL.cutD xs lo hi))
 |.str z,lo,hi=>if(Yc z lo hi).length<=1000000 then O (.str (Yc z lo hi))else C4
 |_,_,_=>C4
noncomputable def Yy(f:M D)(lo hi:M Bf):M D:=UM f λx=>UM lo λl=>UM hi λh=>UN (Y6 x l h)
theorem DQ{lo hi:Option Ue}{f:M D}{l h:M Bf}(he:PE X e (tD X.K B G0 f))(hl:PO X lo (tOi X.K B G0 l))(hu:PO X hi (tOi X.K B G0 h)) :
  PE X (.Subscript e (.Slice lo hi C4 p2) pos) (tD X.K B G0 (Yy f l h)):=
 UR (E1 (Fh.or Lq) he hl hu) λσ H Q q=>by
  refine tM.one (R:=Rep X.K) q λv H2 G ρ x k r a=>?_;refine tM.nx (R:=λ_ b c=>b=c) k a λl' H3 G3 ρ3 xl k3 s3 r3 a3=>?_;refine tM.nx (R:=λ_ b c=>b=c) k3 a3 λh' H4 G4 ρ4 xh k4 s4 r4 a4=>?_;have r3:l'=xl:=r3;have r4:h'=xh:=r4;subst r3 r4;unfold UN Y6 at a4
  cases x with
  |list xs=>obtain⟨ad,vs,rfl,h1,r1⟩:=((r.mono s3).mono s4).lst_inv;exact .inl ⟨ad,vs,rfl,k4.gh.seq h1,λp hp=>aft.done a4 k4 (Ext.new k4.gh hp) (.lst (SqL.of Kd) ((r1.cut l' h').mono (KB (k4.gh.free hp))))⟩
  |str z=>
   dsimp only at a4;have:=r.str_inv;subst this;by_cases hc:(Yc z l' h').length<=1000000
   .rw[Qq hc]at a4
    exact .inr ⟨z,rfl,Qy hc lim,aft.now a4 k4 (.str _)⟩
   .rw[QE hc]at a4;exact a4.elim
  |_=>exact a4.elim
end
section
variable{X:Cx}{B G0:Hp}{e o a b c tg:Ue}{pos p2:Pos}{es rest:Ba}{te to ti:TE}
noncomputable def Kh{β:Type}(p:D->D->Option β)(i:Nat)(g:M D):M β:=λρ=>match ρ[i]? with
 |some (O (.pub d))=>(UM g λy=>UN (p d y)) ρ
 |some (O (.own _))=>(UM g λy=>λρ'=>match ρ'[i]? with|some (O (.own ds))=>UN (p (.list ds) y) ρ'|_=>.bad) ρ
 |_=>.bad
theorem MD{K:Frag}{σ:St}{H:Hp}{p:D->D->Bi}{r:R2}{i:Nat}{g:M D}{Q:Bool->Hp->Prop}{QV:VK}(hq:∀t H3,Q t H3->QV (.bl t) H3)(hr:∀v u G H x y d Q,Same G H->Rep K G v x->Rep K G u y->p x y=O d->Q (.bl d) H->r v u H Q)
  (q:tBo K B G0 (Kh p i g) σ H Q):U2 i σ H λx H1=>tD K B G0 g σ H1 λy H2=>r x y H2 QV:=by
 obtain⟨G,ρ,k,a⟩:=q;unfold Kh at a;cases q:ρ[i]? with
 |none=>rw[q]at a;exact a.elim
 |some o=>
  cases o with
  |none=>rw[q]at a;exact a.elim
  |some sl=>
   cases sl with
   |deep _ _=>rw[q]at a;exact a.elim
   |pub d=>
    rw[q]at a;obtain⟨v,h1,h2⟩:=k.pub i d q;refine⟨v,h1,G,ρ,k,?_⟩;dsimp only[UM]at a;cases z:g ρ with
    |bad=>rw[z]at a;exact a.elim
    |ok y ρ1=>rw[z]at a;intro u G' H' k' s' r';obtain⟨d',e',a'⟩:=aft.opt a;exact hr v u G' H' d y d' _ k'.gh (h2.mono s') r' e' (hq _ _ (a' d' G' H' k' s' C3))
   |own ds=>
    rw[q]at a;obtain⟨ad,vs,h1,h2,h3,h4,h5⟩:=k.own i ds q;refine⟨.ref ad,h1,G,ρ,k,?_⟩;dsimp only[UM]at a;cases z:g ρ with
    |bad=>rw[z]at a;exact a.elim
    |ok y ρ1=>
     rw[z]at a;dsimp only at a;intro u G' H' k' s' r';cases q1:ρ1[i]? with
     |none=>rw[q1]at a;exact a.elim
     |some oo=>
      cases oo with
      |none=>rw[q1]at a;exact a.elim
      |some sl1=>
       cases sl1 with
       |deep _ _=>rw[q1]at a;exact a.elim
       |pub d1=>rw[q1]at a;exact a.elim
       |own ds1=>
        rw[q1]at a;dsimp only at a;obtain⟨ad',ws,g1,g2,g3,g4,g5⟩:=k'.own i ds1 q1;rw[h1]at g1;cases g1;obtain⟨d',e',a'⟩:=aft.opt a;have sg:Same G' (upd G' ad (.lst ws)):=KB g3
        have sh:Same (upd G' ad (.lst ws)) H':=λb o q=>by
         by_cases z:b=ad
         .subst z;rw[Kd]at q;cases q;exact g4
         .rw[US z]at q;exact k'.gh b o q
        exact hr (.ref ad) u _ H' (.list ds1) y d' _ sh (.lst (SqL.of Kd) (g5.mono sg)) (r'.mono sg) e' (hq _ _ (a' d' G' H' k' s' C3))
theorem HG{op:CmpOp}{p:D->D->Bi}{i:Nat}{g:M D}(o:OpB X (Ui op) p)(ha:PE X a (U2 i))(hb:PE X b (tD X.K B G0 g))(hm:behindInMarks op b=C6) :
  PT X (.Compare a [op] [b] pos) (tBo X.K B G0 (Kh p i g)):=by
 obtain⟨r,h,j⟩:=o;exact Ze (Sw h ha hb hm) λσ H Q q=>MD (λt H3 z=>⟨t,rfl,z⟩) j q
end
end DL
namespace L2
open PySem PySem.Spec PyProof.Rows
noncomputable def Itz(K:Frag)(a b:Uc):It:=
 ⟨λi H=>∃xs x ys y,SqL K H a xs/\xs[i]?=O x/\SqL K H b ys/\ys[i]?=O y,
  λi H v H'=>∃p x y,H p=C4/\v=.ref p/\(∀xs,SqL K H a xs->xs[i]?=O x)/\(∀ys,SqL K H b ys->ys[i]?=O y)/\H'=upd H p (.tup [x,y]),
  λi H=>∃xs ys,SqL K H a xs/\SqL K H b ys/\(xs.length<=i∨ys.length<=i)⟩
theorem FM{P:Ub}{w:World}{K:Frag}{elts:Ba}{x1}{tp:Pos}(a b z TI TO i1 i2:Uc)(Dz:ZipApart z TI TO i1 i2 a b) :
  Turn P w K (.Tuple elts x1 tp) (Itz K a b) [z,TI,TO,i1,i2] z (λi h=>IsZip h z TI TO .none/\IsPair h TI (.ref i1) (.ref i2)/\(∃c d,IsPair h TO c d)/\h.IsListIter i1 a i/\h.IsListIter i2 b i) where
 mem:=by simp
 obj:=λi h st c hc=>by
  obtain⟨h1,h2,⟨c0,d0,h3⟩,⟨o4,h4,_,d4⟩,⟨o5,h5,_,d5⟩⟩:=st;have hc':c=z∨c=TI∨c=TO∨c=i1∨c=i2:=by simpa using hc
  rcases hc' with rfl|rfl|rfl|rfl|rfl
  .exact⟨_,h1,λv q=>by have q':Data.fields _=Data.cell v:=q;cases q'⟩
  .exact⟨_,h2,λv q=>by have q':Data.seq _ _=Data.cell v:=q;cases q'⟩
  .exact⟨_,h3,λv q=>by have q':Data.seq _ _=Data.cell v:=q;cases q'⟩
  .exact⟨o4,h4,λv q=>by rw[d4]at q;cases q⟩
  .exact⟨o5,h5,λv q=>by rw[d5]at q;cases q⟩
 keep:=λi h h' st k=>by obtain⟨h1,h2,⟨c0,d0,h3⟩,h4,h5⟩:=st;exact⟨k z (by simp) _ h1,k TI (by simp) _ h2,⟨c0,d0,k TO (by simp) _ h3⟩,h4.at λo q=>k i1 (by simp) o q,h5.at λo q=>k i2 (by simp) o q⟩
 item:=by
  intro X hP hw hK hc i pins s σ H E I hf st hg;subst hP hw hK;obtain⟨h1,h2,⟨c0,d0,h3⟩,h4,h5⟩:=st;obtain⟨xs,x,ys,y,hq,hx,BD,hy⟩:=hg;obtain⟨its,rv,p,hz⟩:=I.list hq;obtain⟨its',rv',p',hz'⟩:=I.list BD;obtain⟨u,hu,ru⟩:=rv.get hx;obtain⟨u',hu',ru'⟩:=rv'.get hy;refine wpAny_pyNext_zip_item Dz h1 h2 h3 h4 h5 p.isList p'.isList (x:=u) (y:=u') (by simpa using hu) (by simpa using hu') λh' g1 g3 g4 g5 gp gs gk=>?_
  refine⟨_,rfl,wpAny_letOwnedTupleGo_zip g1 λh2' gz sb=>?_⟩;have hzl:z<s.heap.objs.size:=Qi h1;have BP:Heap.SameBut z h' h2':=sb;have gp2:h2'.get? s.heap.objs.size=O {cls:=.type "tuple", data:=.seq #[u,u']}:=(BP.2 _ (JE hzl)).trans gp
  have kk:∀c o,c∉[z,TI,TO,i1,i2]->s.heap.get? c=O o->h2'.get? c=O o:=λc o hc q=>by
   have n1:c≠z:=λe=>hc (by simp[e])
   have n3:c≠TO:=λe=>hc (by simp[e])
   have n4:c≠i1:=λe=>hc (by simp[e])
   have n5:c≠i2:=λe=>hc (by simp[e])
   exact(BP.2 c n1).trans (gk c o n1 n3 n4 n5 q)
  have hn:H s.heap.objs.size=C4:=I.hok.fresh (Qo _)
  have I2:Inv X pins σ (upd H s.heap.objs.size (.tup [x,y])) {s with heap:=h2'}:=
   I.turnedNew (t':=s.toks) (fp:=[z,TI,TO,i1,i2]) hf kk (Qo _) ⟨by show 2<=Uf;decide,[u,u'],.cons ru (.cons ru' .nil),⟨_,gp2,rfl,_,rfl⟩⟩
  have gTI:IsPair h' TI (.ref i1) (.ref i2):=gk TI _ Dz.TIz Dz.TITO Dz.TIi1 Dz.TIi2 h2
  refine⟨.ref s.heap.objs.size,_,I2,rfl,⟨_,x,y,hn,rfl,λws hw=>by rw[I.list_inj hw hq];exact hx,λws hw=>by rw[I.list_inj hw BD];exact hy,rfl⟩,
   ⟨gz,(BP.2 _ Dz.TIz).trans gTI,⟨u,u',(BP.2 _ Dz.TOz).trans g3⟩,g4.at λo q=>(BP.2 _ Dz.i1z).trans q,g5.at λo q=>(BP.2 _ Dz.i2z).trans q⟩,λc hc=>?_⟩
  have hlt:c<s.heap.objs.size:=by
   have hc':c=z∨c=TI∨c=TO∨c=i1∨c=i2:=by simpa using hc
   rcases hc' with rfl|rfl|rfl|rfl|rfl
   .exact hzl
   .exact Qi h2
   .exact Qi h3
   .obtain⟨o,ho,_⟩:=h4;exact Qi ho
   .obtain⟨o,ho,_⟩:=h5;exact Qi ho
  rw[US (QO hlt)];exact(hf c hc).1
 done:=by
  intro X hP hw hK hc i pins s σ H E I hf st hg;subst hP hw hK;obtain⟨h1,h2,⟨c0,d0,h3⟩,h4,h5⟩:=st;obtain⟨xs,ys,hq,BD,hx⟩:=hg;obtain⟨its,rv,p,hz⟩:=I.list hq;obtain⟨its',rv',p',hz'⟩:=I.list BD;have hl:=rv.length;have hl':=rv'.length;refine wpAny_pyNext_zip_end (I.ok.hd hc) Dz h1 h2 h3 h4 h5 p.isList p'.isList ?_ λh' eb=>⟨rfl,I.turnedL (t':=s.toks) hf λc o hb q=>eb c o (λe=>hb (by simp[e])) (λe=>hb (by simp[e])) (λe=>hb (by simp[e])) (λe=>hb (by simp[e])) q⟩
  rcases hx with hx|hx
  .exact .inl (by simp;lia)
  .exact .inr (by simp;lia)
 self:=λ_ _ _ _ _ st h=>wpAny_pyIter_zip st.1 h
section
variable{X:Cx}
noncomputable def iZip(K:Frag)(ta:TA):TI:=λσ H R=>ta σ H λvs H1=>∃a b xs ys,vs=[.ref a,.ref b]/\SqL K H1 a xs/\SqL K H1 b ys/\R (Itz K a b) H1
theorem Lp{a b:Ue}{ta:TA}{p pos:Pos}{elts:Ba}{x1}{tp:Pos}(hg:Gl X "zip")(hm:X.mg "zip" = C4)(ha:PA X [a,b] ta)
  (hs:Uh [a,b] X.env=[(C6,eval a X.env),(C6,eval b X.env)]:=by rfl) (hs2:Uh [b] X.env=[(C6,eval b X.env)]:=by rfl):PI X (.Tuple elts x1 tp) (.Call (.Name "zip" p) [a,b] [] pos) (iZip X.K ta):=by
 intro pins s σ H R I h;refine Call_ (XS I hg hm boot_zip (Jo (thn (ha pos pins s σ H _ I h) λus s1 ⟨vs,H1,I1,r1,q1⟩=>?_) (by rw[hs,hs2]) (by rw[hs2];rfl)));obtain⟨l1,l2,xs,ys,e,hq,BD,q⟩:=q1;subst e;cases r1 with
 |cons r rr=>
  cases rr with
  |cons r' rr=>
   cases rr;cases (show _=Value.ref l1 from r);cases (show _=Value.ref l2 from r');obtain⟨its,rv,pl,hz⟩:=I1.list hq;obtain⟨its',rv',pl',hz'⟩:=I1.list BD;have n1:l1<s1.heap.objs.size:=by obtain⟨_,e,_⟩:=id pl.isList;exact Qi e
   have n2:l2<s1.heap.objs.size:=by obtain⟨_,e,_⟩:=id pl'.isList;exact Qi e
   have ne:∀i j:Nat,i≠j->s1.heap.objs.size+i≠s1.heap.objs.size+j:=λi j h e=>h (Nat.add_left_cancel e);have m1:∀m:Nat,l1≠s1.heap.objs.size+m:=λm=>QO (Qv n1 (Nat.le_add_right _ _));have m2:∀m:Nat,l2≠s1.heap.objs.size+m:=λm=>QO (Qv n2 (Nat.le_add_right _ _));refine call_zip_2 pl.isList pl'.isList λh' g1 g2 g3 g4 g5 gs kk=>?_;have I2:Inv X pins σ H1 {s1 with heap:=h'}:=I1.kept (t':=s1.toks) kk;refine wpAny_pyIter_zip g1 ?_
   refine⟨s1.heap.objs.size+4,[s1.heap.objs.size+4,s1.heap.objs.size+2,s1.heap.objs.size+3,s1.heap.objs.size,s1.heap.objs.size+1],_,_,H1,rfl,I2,
    FM l1 l2 (s1.heap.objs.size+4) (s1.heap.objs.size+2) (s1.heap.objs.size+3) s1.heap.objs.size (s1.heap.objs.size+1) ⟨ne 2 4 (by decide),ne 3 4 (by decide),ne 0 4 (by decide),ne 1 4 (by decide),ne 2 3 (by decide),ne 2 0 (by decide),ne 2 1 (by decide),ne 3 0 (by decide),ne 3 1 (by decide),ne 0 1 (by decide),m1 4,m1 3,m1 0,m1 1,m2 4,m2 3,m2 0,m2 1⟩,⟨g1,g2,⟨_,_,g3⟩,g4,g5⟩,λc hc=>?_,q⟩
   have hc':s1.heap.objs.size<=c:=by
    have hc':c=s1.heap.objs.size+4∨c=s1.heap.objs.size+2∨c=s1.heap.objs.size+3∨c=s1.heap.objs.size∨c=s1.heap.objs.size+1:=by simpa using hc
    rcases hc' with rfl|rfl|rfl|rfl|rfl<;>first|exact Nat.le_add_right _ _|exact Qo _
   exact I1.fpOk hc' (I1.hok.fresh hc')
end
end L2
namespace DL
open PySem PySem.Spec L2
open PyProof.Rows hiding St
section
variable{X:Cx}{B G0:Hp}{e a b c tg:Ue}{pos:Pos}{es rest:Ba}
noncomputable def Zb(xs ys:C7):C7:=(xs.zip ys).map λp=>.tuple [p.1,p.2]
theorem Dr{K:Frag}{G1:Hp}{a b:Uc}{vs ws:List V}{ds es:C7}(h:SqL K G1 a vs)(h':SqL K G1 b ws)(r:Reps K G1 vs ds)(r':Reps K G1 ws es):Yn K (Itz K a b) (Zb ds es) G1 where
 go:=λi G H s1 s2 hi=>by
  unfold Zb at hi;rw[Qd,List.length_zip]at hi;have hi1:i<vs.length:=by rw[r.length];lia
  have hi2:i<ws.length:=by rw[r'.length];lia
  exact⟨vs,vs[i],ws,ws[i],(s1.trans s2).seq h,Qb hi1,(s1.trans s2).seq h',Qb hi2⟩
 stop:=λi G H s1 s2 hi=>by
  unfold Zb at hi;rw[Qd,List.length_zip]at hi;refine⟨vs,ws,(s1.trans s2).seq h,(s1.trans s2).seq h',?_⟩;rw[r.length,r'.length]
  lia
 yld:=λi G H x H' d s1 s2 e y=>by
  obtain⟨p,u,v,hp,rfl,y1,y2,rfl⟩:=y;have z1:=y1 vs ((s1.trans s2).seq h);have z2:=y2 ws ((s1.trans s2).seq h');unfold Zb at e;rw[Qj]at e;cases q:(ds.zip es)[i]? with
  |none=>rw[q]at e;cases e
  |some pr=>rw[q]at e;cases e;rw[List.getElem?_zip_eq_some]at q;obtain⟨u',e1,r1⟩:=r.get q.1;obtain⟨v',e2,r2⟩:=r'.get q.2;rw[z1]at e1;rw[z2]at e2;cases e1;cases e2;exact⟨upd G p (.tup [u,v]),Ext.new s2 hp,.tup (SqT.of Kd) (.cons ((r1.mono s1).mono (KB (s2.free hp))) (.cons ((r2.mono s1).mono (KB (s2.free hp))) .nil))⟩
noncomputable def Z6:C7->Option C7
 |[.list xs,.list ys]=>O (Zb xs ys)
 |_=>C4
theorem FL{x l:C7}(h:Z6 x=O l):∃xs ys,x=[.list xs,.list ys]/\l=Zb xs ys:=by
 unfold Z6 at h;split at h
 .cases h;exact⟨_,_,rfl,rfl⟩
 .cases h
noncomputable def Xd(f:M C7):M C7:=UM f λx=>UN (Z6 x)
theorem Lo{f:M C7}{p2:Pos}{elts:Ba}{x1}{tp:Pos}(hg:Gl X "zip")(hm:X.mg "zip" = C4)(ha:PA X [a,b] (tDs X.K B G0 f))(hs:Uh [a,b] X.env=[(C6,eval a X.env),(C6,eval b X.env)]:=by rfl)(hs2:Uh [b] X.env=[(C6,eval b X.env)]:=by rfl) :
  PI X (.Tuple elts x1 tp) (.Call (.Name "zip" p2) [a,b] [] pos) (iD X.K B G0 (Xd f)):=Yu (Lp hg hm ha hs hs2) λσ H R q=>tM.toI (R0:=Reps X.K) q λv H' G' ρ' x k r a=>by
 cases z:Z6 x with
 |none=>rw[z]at a;exact a.elim
 |some l=>
  rw[z]at a;obtain⟨xs,ys,rfl,rfl⟩:=FL z;cases r with
  |cons r1 rr=>
   cases rr with
   |cons r2 rr=>cases rr;obtain⟨l1,vs,rfl,h1,q1⟩:=r1.lst_inv;obtain⟨l2,ws,rfl,h2,q2⟩:=r2.lst_inv;exact⟨l1,l2,vs,ws,rfl,k.gh.seq h1,k.gh.seq h2,a _ G' H' k (.refl _) (Dr h1 h2 q1 q2)⟩
end
section
variable{X:Cx}{B G0:Hp}{e o a b c tg:Ue}{pos p2 p3:Pos}{es rest:Ba}{te to ti:TE}
noncomputable def oIn:D->D->Bi
 |.str i,.str j=>O (inS i j)
 |x,.list xs=>if x.canLay0=C5/\Uq xs=C5/\x.depth<=60 then O (xs.any λy=>Us y x)else C4
 |x,.tuple xs=>if x.canLay0=C5/\Uq xs=C5/\x.depth<=60 then O (xs.any λy=>Us y x)else C4
 |_,_=>C4
noncomputable def Zf(x y:D):Bi:=(oIn x y).map λt=>!t
noncomputable def Z8(x y:D):Bi:=match y with
 |.list xs=>if x.canLay0=C5/\Uq xs=C5/\x.depth<=60 then O (xs.any λy=>Us y x)else C4
 |.tuple xs=>if x.canLay0=C5/\Uq xs=C5/\x.depth<=60 then O (xs.any λy=>Us y x)else C4
 |_=>C4
theorem MC(hu:X.A.units+64<cLine):OpB X (Ui .In) Z8:=by
 refine⟨λv u H Q=>∃G x y d,Same G H/\Rep X.K G v x/\Rep X.K G u y/\Z8 x y=O d/\Q (.bl d) H,?_,λv u G H x y d Q s rx ry e k=>⟨G,x,y,d,s,rx,ry,e,k⟩⟩;intro pins s σ H x y v u Q I rx ry ⟨G,dx,dy,d,sg,px,py,e,q⟩;unfold Z8 at e;split at e
 .split at e
  .rename_i c
   cases e;obtain⟨as,ra⟩:=ZE I sg px rx c.1;obtain⟨bs,rb⟩:=ZE I sg py ry (show Uq _=C5 from c.2.1);exact SeqAt.in_list_reads rb ra c.2.1 c.1 (by have:=c.2.2;lia) ⟨.bl _,H,I,rfl,q⟩
  .cases e
 .split at e
  .rename_i c
   cases e;obtain⟨as,ra⟩:=ZE I sg px rx c.1;obtain⟨bs,rb⟩:=ZE I sg py ry (show Uq _=C5 from c.2.1);exact SeqAt.in_tuple_reads rb ra c.2.1 c.1 (by have:=c.2.2;lia) ⟨.bl _,H,I,rfl,q⟩
  .cases e
 .cases e
theorem Ln(hu:X.A.units+64<cLine):OpB X (Ui .NotIn) (λx y=>(Z8 x y).map λt=>!t):=by
 refine⟨λv u H Q=>∃G x y d,Same G H/\Rep X.K G v x/\Rep X.K G u y/\(Z8 x y).map (λt=>!t)=O d/\Q (.bl d) H,?_,λv u G H x y d Q s rx ry e k=>⟨G,x,y,d,s,rx,ry,e,k⟩⟩;intro pins s σ H x y v u Q I rx ry ⟨G,dx,dy,d,sg,px,py,e,q⟩;unfold Z8 at e;split at e
 .split at e
  .rename_i c
   cases e;obtain⟨as,ra⟩:=ZE I sg px rx c.1;obtain⟨bs,rb⟩:=ZE I sg py ry (show Uq _=C5 from c.2.1);exact SeqAt.notIn_list_reads rb ra c.2.1 c.1 (by have:=c.2.2;lia) ⟨.bl _,H,I,rfl,q⟩
  .cases e
 .split at e
  .rename_i c
   cases e;obtain⟨as,ra⟩:=ZE I sg px rx c.1;obtain⟨bs,rb⟩:=ZE I sg py ry (show Uq _=C5 from c.2.1);exact SeqAt.notIn_tuple_reads rb ra c.2.1 c.1 (by have:=c.2.2;lia) ⟨.bl _,H,I,rfl,q⟩
  .cases e
 .cases e
theorem B_in(hu:X.A.units+64<cLine):OpB X (Ui .In) oIn:=(MF.or (MC hu)).congr λx y=>by cases x<;>cases y<;>rfl
theorem MB(hu:X.A.units+64<cLine):OpB X (Ui .NotIn) Zf:=(Lu.or (Ln hu)).congr λx y=>by cases x<;>cases y<;>rfl
theorem Dq{tl th ts:TO}{lo hi:Option Ue}{st:Ue}(he:PE X e te)(hl:PO X lo tl)(hu:PO X hi th)(hst:PO X (O st) ts):PE X (.Subscript e (.Slice lo hi (O st) p2) pos)
  (λσ H Q=>te σ H λx H1=>tl σ H1 λl H2=>th σ H2 λu H3=>ts σ H3 λt H4=>∃a xs,x=.ref a/\SqL X.K H4 a xs/\l=C4/\u=C4/\t=O (-1)/\∀p,H4 p=C4->Q (.ref p) (upd H4 p (.lst xs.reverse))):=by
 intro pins s σ H Q I h;refine Subscript_ (thn (he pins s σ H _ I h) λv s1 ⟨x,H1,I1,r1,q1⟩=>?_);refine wpAny_Slice (thn (hl pins s1 σ H1 _ I1 q1) λvl s2 ⟨l,H2,I2,pl,q2⟩=>thn (hu pins s2 σ H2 _ I2 q2) λvu s3 ⟨u,H3,I3,pu,q3⟩=>thn (hst pins s3 σ H3 _ I3 q3) λvt s4 ⟨t,H4,I4,pt,q4⟩=>?_);obtain⟨a,xs,rfl,hx,rfl,rfl,rfl,q⟩:=q4;cases r1;have I5:Inv X pins σ H4 {s4 with heap:=s4.heap.push {cls:=.type "slice", data:=.fields #[vl,vu,vt]}}:=I4.kept (t':=s4.toks) λb ob q=>Ql _ q
 obtain⟨its,r,ht,hz⟩:=I5.list hx;have hlen:=r.length;have hg:Ug (model X.prog X.w) X.A (getItem (.ref a) (.ref s4.heap.objs.size)) (EP X pins σ Q) X.xe {s4 with heap:=s4.heap.push {cls:=.type "slice", data:=.fields #[vl,vu,vt]}}:=by refine wpAny_getItem_list_slice ht.isList (Heap.IsSliceOf.new ..) pl pu pt (by simp) ?_ (by rw[List.size_toArray]<;>lia);rw[PySem.W.krv_pick];refine⟨.ref _,_,I5.laid (t':=s4.toks) (o:=.lst xs.reverse) (λb ob q=>Ql _ q) (Qo _) ?_,rfl,q _ (I5.hok.fresh (Qo _))⟩;exact⟨by rw[List.length_reverse];exact hz,its.reverse,0,r.reverse,QB _ C3⟩
 show Ug (model X.prog X.w) X.A (subscriptTail e (.Slice lo hi (O st) p2) (.ref a) (.ref s4.heap.objs.size)) (EP X pins σ Q) X.xe {s4 with heap:=s4.heap.push {cls:=.type "slice", data:=.fields #[vl,vu,vt]}};exact tail_any (ops:=[.ref a,.ref s4.heap.objs.size]) ht.isList.typeIs slot_list_getitem.lookup hg (by with_unfolding_all rfl)
noncomputable def Y7:D->Bf->Bf->Bf->Bb
 |.list xs,C4,C4,O i=>if i = -1 then O (.list xs.reverse)else C4
 |_,_,_,_=>C4
noncomputable def Xe(f:M D)(lo hi st:M Bf):M D:=UM f λx=>UM lo λl=>UM hi λh=>UM st λt=>UN (Y7 x l h t)
theorem HF{lo hi:Option Ue}{st:Ue}{f:M D}{l h t:M Bf}(he:PE X e (tD X.K B G0 f))(hl:PO X lo (tOi X.K B G0 l))(hu:PO X hi (tOi X.K B G0 h))(hst:PO X (O st) (tOi X.K B G0 t)) :
  PE X (.Subscript e (.Slice lo hi (O st) p2) pos) (tD X.K B G0 (Xe f l h t)):=
 UR (Dq he hl hu hst) λσ H Q q=>by
  refine tM.one (R:=Rep X.K) q λv H2 G ρ x k r a=>?_;refine tM.nx (R:=λ_ b c=>b=c) k a λl' H3 G3 ρ3 xl k3 s3 r3 a3=>?_;refine tM.nx (R:=λ_ b c=>b=c) k3 a3 λh' H4 G4 ρ4 xh k4 s4 r4 a4=>?_;refine tM.nx (R:=λ_ b c=>b=c) k4 a4 λt' H5 G5 ρ5 xt k5 s5 r5 a5=>?_;have r3:l'=xl:=r3;have r4:h'=xh:=r4;have r5:t'=xt:=r5;subst r3 r4 r5
  cases x with
  |list xs=>
   cases l' with
   |some _=>exact a5.elim
   |none=>
   cases h' with
   |some _=>exact a5.elim
   |none=>
   cases t' with
   |none=>exact a5.elim
   |some i=>
   obtain⟨ad,vs,rfl,h1,r1⟩:=(((r.mono s3).mono s4).mono s5).lst_inv;by_cases hi:i = -1
   .subst hi
    exact⟨ad,vs,rfl,k5.gh.seq h1,rfl,rfl,rfl,λp hp=>aft.done a5 k5 (Ext.new k5.gh hp) (.lst (SqL.of Kd) (r1.reverse.mono (KB (k5.gh.free hp))))⟩
   .unfold UN Y7 at a5
    dsimp only at a5;rw[QE hi]at a5;exact a5.elim
  |_=>unfold UN Y7 at a5;exact a5.elim
noncomputable def Yh:C7->Option C7
 |[.list xs]=>O xs
 |[.tuple xs]=>O xs
 |_=>C4
theorem Oy{x l:C7}(h:Yh x=O l):x=[.list l]∨x=[.tuple l]:=by
 unfold Yh at h;split at h
 .cases h;exact .inl C3
 .cases h;exact .inr C3
 .cases h
theorem Ri:bootBuiltins "list" = O (.type "list"):=by decide +kernel
theorem FJ{f:M C7}(hg:Gl X "list")(hm:X.mg "list" = C4)(ha:PA X [a] (tDs X.K B G0 f))(he:Uh [a] X.env=(C6,eval a X.env)::Uh [] X.env:=by rfl) :
  PE X (.Call (.Name "list" p2) [a] [] pos) (tL X.K B G0 (UM f λxs=>UN (Yh xs))):=
 UR (TB Nq hg hm Ri ha (by decide) (by decide) he C3) λσ H Q ⟨G,ρ,k,q⟩=>by
  refine⟨G,ρ,k,?_⟩;unfold UM at q;cases z:f ρ with
  |bad=>rw[z]at q;exact q.elim
  |ok xs ρ1=>
   rw[z]at q;dsimp only[UN]at q;intro vs G' H' k' s' r;cases z2:Yh xs with
   |none=>rw[z2]at q;exact q.elim
   |some l=>
    rw[z2]at q;rcases Oy z2 with rfl|rfl
    .obtain⟨v,rfl,q1⟩:=r.one_inv
     obtain⟨p,ws,rfl,h1,r1⟩:=q1.lst_inv;exact⟨p,ws,rfl,.inl (k'.gh.seq h1),λad hp=>q ad ws G' _ (k'.ext (Ext.hid k'.gh hp)) s' (NewL.of k' hp r1)⟩
    .obtain⟨v,rfl,q1⟩:=r.one_inv
     obtain⟨p,ws,rfl,h1,r1⟩:=q1.tup_inv;exact⟨p,ws,rfl,.inr (ZB k'.gh h1),λad hp=>q ad ws G' _ (k'.ext (Ext.hid k'.gh hp)) s' (NewL.of k' hp r1)⟩
noncomputable def Xx(i:Nat):M C7:=λρ=>match ρ[i]? with
 |some (O (.pub d))=>UN (Yh [d]) ρ
 |some (O (.own ds))=>.ok ds ρ
 |_=>.bad
theorem Dp{i:Nat}(hg:Gl X "list")(hm:X.mg "list" = C4)(ho:PE X a (U2 i))(he:Uh [a] X.env=(C6,eval a X.env)::Uh [] X.env:=by rfl) :
  PE X (.Call (.Name "list" p2) [a] [] pos) (tL X.K B G0 (Xx i)):=
 UR (TB Nq hg hm Ri (ZZ ho Z1 he) (by decide) (by decide) he C3) λσ H Q ⟨G,ρ,k,q⟩=>by
  unfold Xx at q;cases z:ρ[i]? with
  |none=>rw[z]at q;exact q.elim
  |some oo=>
   cases oo with
   |none=>rw[z]at q;exact q.elim
   |some sl=>
    cases sl with
    |deep _ _=>rw[z]at q;exact q.elim
    |own ds=>rw[z]at q;dsimp only at q;obtain⟨ad,vs,h1,h2,h3,h4,h5⟩:=k.own i ds z;exact⟨.ref ad,h1,ad,vs,rfl,.inl (SqL.of h4),λl hp=>q l vs G _ (k.ext (Ext.hid k.gh hp)) (.refl _) (NewL.of k hp h5)⟩
    |pub d=>
     rw[z]at q;dsimp only[UN]at q;obtain⟨v,h1,h2⟩:=k.pub i d z;cases z2:Yh [d]with
     |none=>rw[z2]at q;exact q.elim
     |some l=>
      rw[z2]at q;dsimp only at q;rcases Oy z2 with e|e
      .cases e
       obtain⟨p,ws,rfl,g1,r1⟩:=h2.lst_inv;exact⟨_,h1,p,ws,rfl,.inl (k.gh.seq g1),λad hp=>q ad ws G _ (k.ext (Ext.hid k.gh hp)) (.refl _) (NewL.of k hp r1)⟩
      .cases e
       obtain⟨p,ws,rfl,g1,r1⟩:=h2.tup_inv;exact⟨_,h1,p,ws,rfl,.inr (ZB k.gh g1),λad hp=>q ad ws G _ (k.ext (Ext.hid k.gh hp)) (.refl _) (NewL.of k hp r1)⟩
end
section
variable{X:Cx}{B G0:Hp}{e o a b c tg:Ue}{pos p2 p3 p4:Pos}{es rest:Ba}{te to ti:TE}
theorem WY:∀{ns:C8}{us:C9},Vals (ns.map V.int) us->PyProof.Rows.IntsAre us ns
 |[],_,.nil=>.nil
 |n::ns,_,.cons h t=>by obtain⟨tk,rfl⟩:=h;exact .cons n tk (WY t)
noncomputable def XU(ns:C8):Nat:=(PyProof.Rows.firstMet (λi=>ns.getD i 0) ns.length).length
theorem Do(hc:X.calm=C5):ZC X (.type "set") (λxs H Q=>∃l,∃ns:C8,xs=[.ref l]/\SqL X.K H l (ns.map V.int)/\ns.length+1<4096/\∀S p,H p=C4->Q (.ref p) (upd H p (.set S (XU ns)))):=by
 intro pins s σ H xs us Q I rx h;obtain⟨l,ns,rfl,hq,hb,q⟩:=h;obtain⟨u,rfl,ru⟩:=rx.one;cases ru;obtain⟨its,rv,p,hz⟩:=I.list hq;have hi:=WY rv;have hn:its.toArray.size=ns.length:=by have:=rv.length;rw[List.length_map]at this;simp;lia
 refine call_set_list (I.ok.hd hc) p.isList (ns:=ns) (by simpa using hi) (by rw[hn];exact hb) λh' tk hS hk=>?_
 rw[hn]at hS;refine⟨.ref s.heap.objs.size,_,I.laid (t':=tk) (λb o e=>hk b o (Qi e) e) (Qo _) (show Ku X.prog X.w _ h' _ (.set _ (XU ns))from hS),rfl,q _ _ (I.hok.fresh (Qo _))⟩
theorem Dm:ZC X (.builtin "len") (λxs H Q=>∃p S n,xs=[.ref p]/\H p=O (.set S n)/\Q (.int n) H):=by
 intro pins s σ H xs us Q I rx h;obtain⟨p,S,n,rfl,hp,q⟩:=h;obtain⟨u,rfl,ru⟩:=rx.one;cases ru;obtain⟨o,es,ep,t,h1,h2,h3,h4,h5,h6,h7,h8⟩:=(show s.heap.SetOf (intKind X.prog X.w) p S n from I.hok p _ hp)
 have hsb:scanBound=4096:=rfl;refine call_len_set h1 h2 h3 h7 (by lia) ?_;rw[h8];exact⟨.int n,H,I.tok _,⟨_,rfl⟩,q⟩
noncomputable def Yk:C7->Option C8
 |[]=>O []
 |.int i::r=>(Yk r).map (i :: ·)
 |_=>C4
theorem Rb{K:Frag}{G:Hp}:∀{vs:List V}{ds:C7}{ns:C8},Reps K G vs ds->Yk ds=O ns->vs=ns.map V.int
 |_,_,ns,.nil,e=>by cases e;rfl
 |_,_,ns,.cons (d:=d) r t,e=>by
  cases d with
  |int b=>
   unfold Yk at e;cases z:Yk _ with
   |none=>rw[z]at e;cases e
   |some cs=>rw[z]at e;cases e;rw[r.int_inv,Rb t z];rfl
  |_=>cases e
theorem OT(ns:C8):Yk (ns.map int)=O ns:=by
 induction ns with
 |nil=>rfl
 |cons b r ih=>rw[QC,Yk,ih];rfl
noncomputable def WT:C7->Bb
 |[.list ds]=>(match Yk ds with
  |some ns=>if ns.length+1<4096 then O (.int (XU ns))else C4
  |none=>C4)
 |_=>C4
theorem CJ{xs:C7}{d:D}(h:WT xs=O d):∃ds ns,xs=[.list ds]/\Yk ds=O ns/\ns.length+1<4096/\d=.int (XU ns):=by
 unfold WT at h;split at h
 .rename_i ds
  cases z:Yk ds with
  |none=>rw[z]at h;cases h
  |some ns=>
   rw[z]at h;dsimp only at h;split at h
   .rename_i c
    cases h;exact⟨ds,ns,rfl,z,c,rfl⟩
   .cases h
 .cases h
theorem Dl:bootBuiltins "set" = O (.type "set"):=by decide +kernel
theorem DP{f:M C7}(hc:X.calm=C5)(hg:Gl X "len")(hm:X.mg "len" = C4)(hg2:Gl X "set")(hm2:X.mg "set" = C4)(ha:PA X [a] (tDs X.K B G0 f))(he:Uh [a] X.env=(C6,eval a X.env)::Uh [] X.env:=by rfl)
  (BE:Uh [.Call (.Name "set" p2) [a] [] p3] X.env=(C6,eval (.Call (.Name "set" p2) [a] [] p3) X.env)::Uh [] X.env:=by rfl) :
  PE X (.Call (.Name "len" p4) [.Call (.Name "set" p2) [a] [] p3] [] pos) (tD X.K B G0 (Zp WT f)):=
 UR (Tp Dm hg hm boot_len (ZZ (TB (Do hc) hg2 hm2 Dl ha (by decide) (by decide) he C3) Z1 BE) (by decide) (by decide) BE C3) λσ H Q q=>tM.one (R:=Reps X.K) q λvs H2 G ρ x k r a=>by obtain⟨d,e,a⟩:=a.opt;obtain⟨ds,ns,rfl,z,c,rfl⟩:=CJ e;obtain⟨v,rfl,q1⟩:=r.one_inv;obtain⟨l,ws,rfl,h1,r1⟩:=q1.lst_inv;have:=Rb r1 z;subst this;refine⟨l,ns,rfl,k.gh.seq h1,c,λS p hp=>⟨p,S,XU ns,rfl,Kd,?_⟩⟩;exact aft.done a k (Ext.hid k.gh hp) (.int _)
end
end DL
namespace L2
open PySem PySem.Spec PyProof.Rows
end L2
namespace DL
open PySem PySem.Spec L2
open PyProof.Rows hiding St
end DL
namespace L2
open PySem PySem.Spec PyProof.Rows
end L2
namespace DL
open PySem PySem.Spec L2
open PyProof.Rows hiding St
section
variable{X:Cx}{B G0:Hp}{e o:Ue}{es:Ba}
theorem CI{h:Heap}{vs:C9}{xs:C7}{as:Be}{d:D}(rs:ReadsAll h vs xs as)(hxs:Uq xs=C5) :
  vs.countP (λy=>Us (SeqAt.readOf h y) d)=xs.countP (λy=>Us y d):=by
 have key:xs=vs.map (SeqAt.readOf h):=(SeqAt.readsAll_map xs vs as hxs rs).symm;rw[key,List.countP_map];rfl
noncomputable def XF(y x:D):Bb:=match y with
 |.list ds=>if x.canLay0=C5/\Uq ds=C5/\x.depth<=60 then O (.int (ds.countP λy=>Us y x))else C4
 |_=>C4
theorem FI(hu:X.A.units+64<cLine):MtR X "list.count" (λv vs H Q=>∃G u y x d,vs=[u]/\Same G H/\Rep X.K G v y/\Rep X.K G u x/\XF y x=O (.int d)/\Q (.int d) H):=by
 intro pins s σ H x xs v us Q I rx rs h;obtain⟨G,u,dy,dx,d,rfl,sg,py,px,e,q⟩:=h;obtain⟨w,rfl,BI⟩:=rs.one;unfold XF at e;split at e
 .rename_i ds
  split at e
  .rename_i c
   obtain⟨bs,rb⟩:=ZE I sg py rx (show Uq _=C5 from c.2.1);obtain⟨as,ra⟩:=ZE I sg px BI c.1;cases rb with
   |list h1 h2 h3 h4=>rename_i l ob its cs n;obtain⟨cls,dd,data,sl⟩:=ob;simp only at h2 h3;subst h2 h3;refine call_meets F.slot_list_count ⟨_,h1,rfl⟩ F.entry_list_count (F.args_list_count_2 _ _) (SeqAt.list_countAt _ _ _ dd sl _ (λy=>Us (SeqAt.readOf s.heap y) dx)) ⟨h1,SeqAt.items_eqAt h4 ra c.2.1 c.1 (by have:=c.2.2;lia),?_⟩;rw[CI h4 c.2.1];cases e;exact⟨.int _,H,I.tok _,⟨_,rfl⟩,q⟩
  .cases e
 .cases e
noncomputable def V7(y:D)(xs:C7):Bb:=match xs with
 |[x]=>XF y x
 |_=>C4
theorem CH{ds xs:C7}{d:D}(h:V7 (.list ds) xs=O d):∃x n,xs=[x]/\d=.int n/\XF (.list ds) x=O (.int n):=by
 unfold V7 at h;split at h
 .rename_i x
  have h':=h;unfold XF at h;dsimp only at h;split at h
  .cases h;exact⟨x,_,rfl,rfl,h'⟩
  .cases h
 .cases h
noncomputable def V3(f:M D)(g:M C7):M D:=UM f λy=>UM g λxs=>UN (match y with | .list ds=>V7 (.list ds) xs|_=>C4)
theorem Dk{apos cpos:Pos}{f:M D}{g:M C7}(hu:X.A.units+64<cLine)(ho:PE X o (tD X.K B G0 f))(ha:PA X (e::es) (tDs X.K B G0 g))
  (hbase:attributeBase o "count" X.env (eval o X.env)=eval o X.env:=by rfl)
  (hfew:((backTo cpos (Uh (e::es) X.env)).all (λx=>!x.1)&&(backToKw cpos (keywordEach [] X.env)).all (λx=>x.1.isSome)
   && decide ((e::es).length+([]:List Keyword).length+(if([]:List Keyword).isEmpty then 0 else 1)<30))=C5:=by rfl)
  (hline:(apos.endLine==cpos.line)=C5:=by rfl) (hs:Uh (e::es) X.env=(C6,eval e X.env)::Uh es X.env:=by rfl) (hplain:(backTo cpos (Uh es X.env)).any (·.1)=C6:=by rfl) :
  PE X (.Call (.Attribute o "count" apos) (e::es) [] cpos) (tD X.K B G0 (V3 f g)):=
 UR (Xu F.plainAttrs_list F.slot_list_count F.type_list_count (FI hu) ho ha hbase hfew hline hs hplain) λσ H Q q=>by
  refine tM.one (R:=Rep X.K) q λv H2 G ρ y k r a=>?_
  cases y with
  |list ds=>
   obtain⟨l,ws,rfl,h1,r1⟩:=r.lst_inv;refine⟨.inl ⟨rfl,ws,k.gh.seq h1⟩,?_⟩;refine tM.nx (R:=Reps X.K) k a λxs H3 G3 ρ3 es k3 s3 r3 a3=>?_
   obtain⟨d,e,a3⟩:=a3.opt;obtain⟨x,n,rfl,rfl,e'⟩:=CH e;obtain⟨u,rfl,ru⟩:=r3.one_inv;exact⟨G3,u,.list ds,x,n,rfl,k3.gh,r.mono s3,ru,e',aft.now a3 k3 (.int _)⟩
  |_=>
   unfold UM at a;cases z:g ρ with
   |bad=>rw[z]at a;exact a.elim
   |ok xs ρ1=>rw[z]at a;exact a.elim
theorem FH{f:M D}{g:M C7}{ρ ρ1 ρ2:UA}{ds:C7}{x d:D}(h1:f ρ=.ok (.list ds) ρ1)(h2:g ρ1=.ok [x] ρ2)(h3:XF (.list ds) x=O d):V3 f g ρ=.ok d ρ2:=by unfold V3 UM;rw[h1];dsimp only;rw[h2];dsimp only[V7];rw[h3];rfl
end
section
variable{prog:Ub}{w:World}{A:Around}{R:Result->Ua->Prop}{h0:Heap}{l I S:Uc}{rs:List (Uc×C9)}
def Yd(h h':Heap):Prop:=∀b o,h.get? b=O o->h'.get? b=O o
def Ls1(h:Heap)(a:Uc)(its:C9)(sl:Array Bd):Prop:=∃n,h.get? a=O {cls:=.type "list", dict:=C4,data:=.seq its.toArray n,slots:=sl}
def Ls(h:Heap)(a:Uc)(its:C9):Prop:=∃n sl,h.get? a=O {cls:=.type "list", dict:=C4,data:=.seq its.toArray n,slots:=sl}
theorem Ls.kept{h h':Heap}{a:Uc}{its:C9}(x:Ls h a its)(k:Yd h h'):Ls h' a its:=by obtain⟨n,sl,e⟩:=x;exact⟨n,sl,k _ _ e⟩
theorem DO(hh:A.in1.handled=C4)(hI:h0.objs.size<=I)(hS:h0.objs.size<=S)(hIS:S≠I)(hl:h0.IsList l (rs.map λp=>Value.ref p.1).toArray)(hr:∀p∈rs,Ls h0 p.1 p.2) :
  ∀(k i:Nat)(s:Ua)(t:Uc)(acc:C9)(c:Nat)(sl:Array Bd),rs.length-i=k->i<=rs.length->Yd h0 s.heap->s.heap.IsListIter I l i ->
   s.heap.get? S=O {cls:=.type "list", dict:=C4,data:=.seq #[.ref t] c,slots:=#[]}->t≠S->t≠I->Ls1 s.heap t acc sl->acc.length+((rs.drop i).map (·.2)).flatten.length<=Uf ->
   (∀p h' tk Bs,Yd h0 h'->Ls1 h' p (acc++((rs.drop i).map (·.2)).flatten) Bs->(p=t/\i=rs.length/\Bs=sl∨h0.objs.size<=p/\Bs=#[])->R (.ok (.ret (.ref p))) {s with heap:=h',toks:=tk}) ->
   codeAny (model prog w) A (.builtin "sum.loop" ⟨[.ref I,.ref S,rawInt 2,rawInt 0],[]⟩) R s:=by
 intro k;induction k with
 |zero=>
  intro i s t acc c sl hk hi hK hit hSS htS htI ht hz hR;have hin:i=rs.length:=by lia
  subst hin;refine codeAny_builtin F.entry_sum_loop ?_;rw[Around.under_plainId F.plain_sum_loop _];show Ug _ A.in1 (seqItems? (.ref S) >>= _) _ _ s;refine Qe (wpAny_seqItems hSS C3 ?_);show Ug _ A.in1 (tryCatch (pyNext (.ref I)) _ >>= _) _ _ s;have hl':s.heap.IsList l (rs.map λp=>Value.ref p.1).toArray:=by obtain⟨o,e,r⟩:=hl;exact⟨o,hK _ _ e,r⟩
  refine wpAny_bind (wpAny_tryCatch (wpAny_pyNext_list_end hh hit hl' (by simp) λh' ex=>?_));refine Qp (hR t h' s.toks sl (λb o e=>?_) ?_ (.inl ⟨rfl,rfl,rfl⟩))
  .exact ex b o (QO (Qv (Qi e) hI)) (hK b o e)
  .obtain⟨n,e⟩:=ht
   rw[List.drop_length,J4,List.flatten_nil,QS];exact⟨n,ex _ _ htI e⟩
 |succ k ih=>
  intro i s t acc c sl hk hi hK hit hSS htS htI ht hz hR;have hlt:i<rs.length:=by lia
  refine codeAny_builtin F.entry_sum_loop ?_;rw[Around.under_plainId F.plain_sum_loop _];show Ug _ A.in1 (seqItems? (.ref S) >>= _) _ _ s;refine Qe (wpAny_seqItems hSS C3 ?_);show Ug _ A.in1 (tryCatch (pyNext (.ref I)) _ >>= _) _ _ s;have hl':s.heap.IsList l (rs.map λp=>Value.ref p.1).toArray:=by obtain⟨o,e,r⟩:=hl;exact⟨o,hK _ _ e,r⟩
  refine wpAny_bind (wpAny_tryCatch (wpAny_pyNext_list_item (x:=.ref (rs[i]'hlt).1) hit hl' (by simp[hlt]) λh' Ay sb=>?_));show Ug _ A.in1 ((holding [Value.ref (rs[i]'hlt).1] (binaryOp .Add (.ref t) (.ref (rs[i]'hlt).1))).attempt >>= _) _ _ _;refine Qe (wpAny_attempt (wpAny_holding ?_));have hm:rs[i]'hlt∈rs:=Jc hlt;have hd:rs.drop i=rs[i]'hlt::rs.drop (i+1):=Jq hlt;have hK':Yd h0 h':=λb o e=>(sb.2 b (QO (Qv (Qi e) hI))).trans (hK b o e)
  obtain⟨n1,e1⟩:=ht;have e1':=(sb.2 t htI).trans e1;obtain⟨n2,s2,e2⟩:=(hr _ hm).kept hK';have AC:=(sb.2 S hIS).trans hSS;rw[hd,QC,QN,Qk]at hz;refine concat_meets ⟨_,e1',rfl⟩ ⟨_,e2,rfl⟩ noFill_list_add seq_list_add PySem.F.slot_list_add PySem.F.entry_list_add (PySem.F.args_list_add_2 _ _) (list_addW t _ acc.toArray _ n1 n2 C4 C4 sl s2 (by rw[QL,QL];lia)) ⟨e1',e2,?_⟩;have hlS:S<h'.objs.size:=Qi AC;have hlI:I<h'.objs.size:=by obtain⟨o,e,_⟩:=Ay;exact Qi e
  have ea:acc.toArray++(rs[i]'hlt).2.toArray=(acc++(rs[i]'hlt).2).toArray:=by simp
  rw[ea];have hP:∀b o,h'.get? b=O o->(h'.push {cls:=Value.type "list", data:=Data.seq (acc++(rs[i]'hlt).2).toArray}).get? b=O o:=λb o e=>Ql _ e
  have hS1:=hP _ _ AC;have hNew:(h'.push {cls:=Value.type "list", data:=Data.seq (acc++(rs[i]'hlt).2).toArray}).get? h'.objs.size=O {cls:=Value.type "list", data:=Data.seq (acc++(rs[i]'hlt).2).toArray}:=QB _ C3;show Ug _ A.in1 (updateSeq S (λ_=>#[.ref h'.objs.size]) >>= _) _ _ _;refine Qe (wpAny_updateSeq hS1 C3 ?_);have hS2:=Heap.get?_update_self (Obj.mapSeq λ_=>#[Value.ref h'.objs.size]) hS1 C3;refine Qe (wpAny_letGo ?_);refine Qe (wpAny_updateSeq hS2 C3 (Qp ⟨plainId_quiet F.plain_sum_loop _,?_⟩));have oth:∀b o,b≠S->(h'.push {cls:=Value.type "list", data:=Data.seq (acc++(rs[i]'hlt).2).toArray}).get? b=O o->(((h'.push {cls:=Value.type "list", data:=Data.seq (acc++(rs[i]'hlt).2).toArray}).update S (Obj.mapSeq λx=>#[Value.ref h'.objs.size])).update S (Obj.mapSeq λx=>#[Value.ref h'.objs.size])).get? b=O o:=λb o hb e=>(Heap.get?_update_other _ _ (Ne.symm hb)).trans ((Heap.get?_update_other _ _ (Ne.symm hb)).trans e)
  refine ih (i+1) _ h'.objs.size (acc++(rs[i]'hlt).2) _ #[] (by lia) hlt ?_ ?_ (Heap.get?_update_self _ hS2 C3) (JE hlS) (JE hlI) ?_ (by rw[Qk];lia) λp h'' tk Bs hk'' hp hq=>?_
  .exact λb o e=>oth b o (QO (Qv (Qi e) hS)) (hP b o (hK' b o e))
  .obtain⟨o,e,r⟩:=Ay
   exact⟨o,oth I o (Ne.symm hIS) (hP I o e),r⟩
  .exact⟨_,oth _ _ (JE hlS) hNew⟩
  .refine hR p h'' tk Bs hk'' ?_ (.inr ?_)
   .rw[hd,QC,QN,←QY];exact hp
   .rcases hq with ⟨rfl, -,e⟩|hq
    .exact⟨J0 (JJ hS hlS),e⟩
    .exact hq
end
section
variable{prog:Ub}{w:World}{A:Around}{E:J9->Ua->Prop}{s:Ua}{l z:Uc}{rs:List (Uc×C9)}
theorem Dj(a b:J9):argsOk "sum" ⟨[a,b],[]⟩:=by unfold argsOk;kernel_rfl
theorem DN{Q:J9->Ua->Prop}(hh:A.handled=C4)(hl:s.heap.IsList l (rs.map λp=>Value.ref p.1).toArray)(hr:∀p∈rs,Ls s.heap p.1 p.2)(hz:Ls s.heap z [])(hb:(rs.map (·.2)).flatten.length<=Uf)
  (h:∀p h' tk Bs,Yd s.heap h'->Ls1 h' p (rs.map (·.2)).flatten Bs->(p=z/\rs=[]∨s.heap.objs.size<=p/\Bs=#[])->Q (.ref p) {s with heap:=h',toks:=tk}) :
  Ug (model prog w) A (call (.builtin "sum") [.ref l,.ref z]) Q E s:=by
 refine call_function_tree F.kind_sum F.plain_sum F.entry_sum (Dj _ _) ?_;unfold Builtin.«sum»;simp only[Qz,Q6];rw[QE (by decide)];refine Qe (wpAny_of_eq (show Builtin.Builtins.bindParams "sum" ["start"] 0 ⟨[.ref z],[]⟩=pure [O (.ref z)]from rfl) ?_);refine Qe (wpAny_pyIter_list hl ?_);refine Qe (Qp ?_);obtain⟨n,sl,ez⟩:=id hz;have ty:∀h:Heap,h.get? z=O {cls:=.type "list", dict:=C4,data:=.seq [].toArray n,slots:=sl}->({s with heap:=h}:Ua).TypeIs (.ref z) "list" :=λh e=>⟨_,e,rfl⟩
 have ez':(s.heap.push {cls:=.type "list_iterator", data:=.fields #[.ref l,.int 0 0]}).get? z=_:=Ql _ ez;simp only[List.forIn_cons,List.forIn_nil];refine Qe (Qe (Qe (wpAny_isInstance (T:= "list") (b:=C6) (ty _ ez') F.sub_list_str ?_)));simp only[JK,if_false];refine Qp (Qe (Qe (wpAny_isInstance (T:= "list") (b:=C6) (ty _ ez') F.sub_list_bytes ?_)));simp only[JK,if_false];refine Qp (Qe (Qe (wpAny_isInstance (T:= "list") (b:=C6) (ty _ ez') F.sub_list_bytearray ?_)));simp only[JK,if_false];refine Qp (Qp ?_);refine Qe (wpAny_newObj_type ?_);have hzs:=Qi ez;have s1:(s.heap.push {cls:=.type "list_iterator", data:=.fields #[.ref l,.int 0 0]}).objs.size=s.heap.objs.size+1:=Heap.size_push ..;have k2:Yd s.heap ((s.heap.push {cls:=.type "list_iterator", data:=.fields #[.ref l,.int 0 0]}).push {cls:=.type "list", data:=.seq #[.ref z]}):=λb o e=>Ql _ (Ql _ e)
 refine Qp ⟨plainId_quiet F.plain_sum_loop _,DO (h0:=s.heap) (l:=l) (I:=s.heap.objs.size) (S:=(s.heap.push {cls:=.type "list_iterator", data:=.fields #[.ref l,.int 0 0]}).objs.size) (rs:=rs) hh (Qo _) (by rw[s1];exact Jy _) (by rw[s1];exact Nat.succ_ne_self _) hl hr rs.length 0 _ z [] 0 sl C3 (JN _)
  k2 ⟨_,Heap.get?_push_of_some _ (Heap.get?_push_size _ C3),rfl,rfl⟩ (Heap.get?_push_size _ C3) (by rw[s1];exact Nat.ne_of_lt (Nat.lt_succ_of_lt hzs)) (Nat.ne_of_lt hzs) ⟨n,k2 _ _ ez⟩ (by simpa using hb) λp h' tk Bs hk hp hq=>?_⟩
 exact h p h' tk Bs hk (by simpa using hp) (hq.imp (λe=>⟨e.1,List.eq_nil_of_length_eq_zero e.2.1.symm⟩) id)
end
section
variable{X:Cx}{pins:List (Uc×Obj)}{σ:St}{H:Hp}{s:Ua}
theorem Px(I:Inv X pins σ H s):∀{rs:List (Uc×List V)},(∀p∈rs,SqL X.K H p.1 p.2) ->
  ∃ts:List (Uc×C9),(ts.map λp=>Value.ref p.1)=(rs.map λp=>Value.ref p.1)/\(∀p∈ts,Ls s.heap p.1 p.2)/\Vals (rs.map (·.2)).flatten (ts.map (·.2)).flatten
 |[],_=>⟨[],rfl,(λ_ h=>by cases h),(show Vals [] []from Paired.nil)⟩
 |p::rs,h=>by
  obtain⟨ts,e,hl,hv⟩:=Px I λq hq=>h q (Qm _ hq)
  obtain⟨its,rv,⟨⟨c1,d1,t1,sl⟩,n,e1,ec,ed,et⟩,z⟩:=I.list (h p (Qh ..));simp only at ec ed et;subst ec ed et;refine⟨(p.1,its)::ts,by rw[QC,QC,e],λq hq=>?_,?_⟩
  .rcases QM.1 hq with rfl|hq
   .exact⟨n,sl,e1⟩
   .exact hl q hq
  .rw[QC,QC,QN,QN]
   exact rv.append hv
theorem Ox:∀{as:Be}{us:C9},Vals (as.map V.ref) us->us=as.map Value.ref
 |[],_,.nil=>rfl
 |a::as,_,.cons h t=>by cases h;rw[Ox t];rfl
theorem Di(hc:X.calm=C5):ZC X (.builtin "sum") (λxs H Q=>∃l z,∃rs:List (Uc×List V),xs=[.ref l,.ref z]/\SqL X.K H l (rs.map λp=>V.ref p.1)/\(∀p∈rs,SqL X.K H p.1 p.2)/\SqL X.K H z []/\(rs.map (·.2)).flatten.length<=Uf /\
  (rs=[]->Q (.ref z) H)/\∀p,H p=C4->Q (.ref p) (upd H p (.lst (rs.map (·.2)).flatten))):=by
 intro pins s σ H xs us Q I rx h;obtain⟨l,z,rs,rfl,hq,hr,hz,hb,q0,q⟩:=h;obtain⟨u,u',rfl,ru,ru'⟩:=TZ rx;cases ru;cases ru';obtain⟨its,rv,pl, -⟩:=I.list hq;obtain⟨ts,e,hl,hv⟩:=Px I hr;have ei:its=ts.map λp=>Value.ref p.1:=by rw[e];have:=Ox (as:=rs.map (·.1)) (us:=its) (by rw[Q7];exact rv);rw[this,Q7];rfl
 subst ei;obtain⟨zi,rz,⟨⟨c1,d1,t1,sl⟩,n,e1,ec,ed,et⟩, -⟩:=I.list hz;cases rz;simp only at ec ed et;subst ec ed et;have hlen:=hv.length;refine DN (I.ok.hd hc) pl.isList hl ⟨n,sl,e1⟩ (by lia) λp h' tk Bs hk hp hq=>?_
 rcases hq with ⟨rfl,rfl⟩|⟨BJ,rfl⟩
 .have hr0:rs=[]:=by
   cases rs with
   |nil=>rfl
   |cons a b=>cases e
  exact⟨.ref _,H,I.kept hk,rfl,q0 hr0⟩
 .obtain⟨m,ep⟩:=hp
  exact⟨.ref p,_,I.laid (t':=tk) hk BJ (show Ku X.prog X.w _ h' _ (.lst _)from⟨hb,_,m,hv,ep⟩),rfl,q p (I.hok.fresh BJ)⟩
noncomputable def YT:C7->Option (List C7)
 |[]=>O []
 |.list xs::r=>(YT r).map (xs :: ·)
 |_=>C4
theorem Nf{K:Frag}{G:Hp}:∀{vs:List V}{ds:C7}{ls:List C7},Reps K G vs ds->YT ds=O ls ->
  ∃rs:List (Uc×List V),vs=(rs.map λp=>V.ref p.1)/\(∀p∈rs,SqL K G p.1 p.2)/\Reps K G (rs.map (·.2)).flatten ls.flatten/\rs.length=ls.length
 |_,_,ls,.nil,e=>by cases e;exact⟨[],rfl,(λ_ h=>by cases h),.nil,rfl⟩
 |_,_,ls,.cons (d:=d) r t,e=>by
  cases d with
  |list xs=>
   unfold YT at e;cases z:YT _ with
   |none=>rw[z]at e;cases e
   |some cs=>
    rw[z]at e;cases e;obtain⟨rs,rfl,h1,h2,h3⟩:=Nf t z;obtain⟨a,ws,rfl,h,rr⟩:=r.lst_inv;refine⟨(a,ws)::rs,rfl,λp hp=>?_,?_,JM (· + 1) h3⟩
    .rcases QM.1 hp with rfl|hp
     .exact h
     .exact h1 p hp
    .rw[QC,QN,QN]
     exact rr.append h2
  |_=>cases e
theorem DM(ls:List C7):YT (ls.map Ul)=O ls:=by
 induction ls with
 |nil=>rfl
 |cons b r ih=>rw[QC,YT,ih];rfl
noncomputable def WA:C7->Bb
 |[.list ds,.list []]=>(match YT ds with
  |some ls=>if ls.flatten.length<=1000000 then O (.list ls.flatten)else C4
  |none=>C4)
 |_=>C4
theorem Dh{xs:C7}{d:D}(h:WA xs=O d):∃ds ls,xs=[.list ds,.list []]/\YT ds=O ls/\ls.flatten.length<=1000000/\d=.list ls.flatten:=by
 unfold WA at h;split at h
 .rename_i ds
  cases z:YT ds with
  |none=>rw[z]at h;cases h
  |some ls=>
   rw[z]at h;dsimp only at h;split at h
   .rename_i c
    cases h;exact⟨ds,ls,rfl,z,c,rfl⟩
   .cases h
 .cases h
theorem Lm(hc:X.calm=C5):ZW X (.builtin "sum") WA:=by
 refine⟨_,Di hc,λvs G H ds d Q s r e k=>?_⟩;obtain⟨ds,ls,rfl,z,c,rfl⟩:=Dh e;obtain⟨v,v',rfl,q1,q2⟩:=r.two_inv;obtain⟨l,ws,rfl,h1,r1⟩:=q1.lst_inv;obtain⟨a,ws2,rfl,h2,r2⟩:=q2.lst_inv;have:=r2.nil_inv;subst this;obtain⟨rs,rfl,g1,g2,g3⟩:=Nf r1 z;refine⟨l,a,rs,rfl,s.seq h1,λp hp=>s.seq (g1 p hp),s.seq h2,?_,λe0=>?_,λp hp=>?_⟩
 .rw[g2.length];exact Qy c lim
 .subst e0
  have:ls=[]:=List.eq_nil_of_length_eq_zero g3.symm;subst this;exact k _ G H (.refl s) (.lst h2 .nil)
 .exact k _ _ _ (.new s hp) (.lst (SqL.of Kd) (g2.mono (KB (s.free hp))))
end
section
variable{X:Cx}
noncomputable def Zo(ns:C8):C8:=ns.mergeSort λa b=>decide (a<=b)
theorem YL(ns:C8):(Zo ns).Perm ns:=List.mergeSort_perm ..
theorem Ow(ns:C8):(Zo ns).Pairwise (· <= ·):=by have:=List.pairwise_mergeSort (le:=λa b:Int=>decide (a<=b)) (by intro a b c;simp;lia) (by intro a b;simp;lia) ns;exact this.imp (by simp)
theorem Pw:∀{a b:C8},a.Perm b->a.Pairwise (· <= ·)->b.Pairwise (· <= ·)->a=b
 |[],b,p,_,_=>by rw[List.nil_perm.1 p]
 |x::a,[],p,_,_=>by have:=p.length_eq;simp at this
 |x::a,y::b,p,ha,hb=>by
  have hx:y<=x:=by
   rcases QM.1 (p.mem_iff.1 (Qh ..))with e|e
   .exact Int.le_of_eq e.symm
   .exact(Jl.1 hb).1 x e
  have hy:x<=y:=by
   rcases QM.1 (p.mem_iff.2 (Qh ..))with e|e
   .exact Int.le_of_eq e.symm
   .exact(Jl.1 ha).1 y e
  have e:=JY hy hx;subst e;rw[Pw (List.Perm.cons_inv p) (Jl.1 ha).2 (Jl.1 hb).2]
theorem Ov:∀{us:C9}{ns:C8},PyProof.Rows.IntsAre us ns->Vals (ns.map V.int) us
 |_,_,.nil=>Paired.nil
 |_,_,.cons n t h=>Paired.cons ⟨t,rfl⟩ (Ov h)
theorem DK:ZC X (.builtin "sorted") (λxs H Q=>∃l,∃ns:C8,xs=[.ref l]/\SqL X.K H l (ns.map V.int)/\ns.length<64/\∀p,H p=C4->Q (.ref p) (upd H p (.lst ((Zo ns).map V.int)))):=by
 intro pins s σ H xs us Q I rx h;obtain⟨l,ns,rfl,hq,hb,q⟩:=h;obtain⟨u,rfl,ru⟩:=rx.one;cases ru;obtain⟨its,rv,p,hz⟩:=I.list hq;have hi:=WY rv;have hn:its.length=ns.length:=by have:=rv.length;rw[Qd]at this;lia
 refine sorted_ints p.isList hi (by lia) λout ns' a1 a2 a3=>?_
 obtain⟨e,he⟩:=sortedAll_at s.heap its out;have en:ns'=Zo ns:=Pw (a2.trans (YL ns).symm) a3 (Ow ns);subst en;refine⟨.ref (s.heap.objs.size+1),_,I.laid (t':=s.toks) (λb o=>sortedAll_old) (Jy _) (show Ku X.prog X.w _ _ _ (.lst ((Zo ns).map V.int))from⟨?_,out.toList,e,Ov a1,he⟩),rfl,q _ (I.hok.fresh (Jy _))⟩;rw[Qd,(YL ns).length_eq];rw[Qd]at hz;exact hz
noncomputable def WK:C7->Bb
 |[.list ds]=>(match Yk ds with
  |some ns=>if ns.length<64 then O (.list ((Zo ns).map .int))else C4
  |none=>C4)
 |_=>C4
theorem DJ{xs:C7}{d:D}(h:WK xs=O d):∃ds ns,xs=[.list ds]/\Yk ds=O ns/\ns.length<64/\d=.list ((Zo ns).map .int):=by
 unfold WK at h;split at h
 .rename_i ds
  cases z:Yk ds with
  |none=>rw[z]at h;cases h
  |some ns=>
   rw[z]at h;dsimp only at h;split at h
   .rename_i c
    cases h;exact⟨ds,ns,rfl,z,c,rfl⟩
   .cases h
 .cases h
theorem Ou{K:Frag}{G:Hp}:∀ns:C8,Reps K G (ns.map V.int) (ns.map int)
 |[]=>.nil
 |n::r=>.cons (.int n) (Ou r)
theorem HE:ZW X (.builtin "sorted") WK:=by refine⟨_,DK,λvs G H ds d Q s r e k=>?_⟩;obtain⟨ds,ns,rfl,z,c,rfl⟩:=DJ e;obtain⟨v,rfl,q1⟩:=r.one_inv;obtain⟨l,ws,rfl,h1,r1⟩:=q1.lst_inv;have:=Rb r1 z;subst this;exact⟨l,ns,rfl,s.seq h1,c,λp hp=>k _ _ _ (.new s hp) (.lst (SqL.of Kd) (Ou _))⟩
theorem Dg{ns:C8}(h:ns.length<64):WK [.list (ns.map .int)]=O (.list ((Zo ns).map .int)):=by unfold WK;simp only[OT,Qq h]
end
@[simp] theorem mBind_ok{α β:Type}{f:M α}{k:α->M β}{ρ ρ':UA}{x:α}(h:f ρ=.ok x ρ'):UM f k ρ=k x ρ':=by unfold UM;rw[h]
theorem Ot{s:D->UA->Bg}{g:SM}{P:Nat->UA->Prop}{R:Out->Prop}:∀(ds:C7)(n:Nat)(ρ:UA),P n ρ ->
  (∀i d ρ,ds[i]?=O d->P (n+i) ρ->∃ρ1,s d ρ=O ρ1/\((∃ρ2,(g ρ1=.nx ρ2∨g ρ1=.ct ρ2)/\P (n+i+1) ρ2)∨(∃x,g ρ1=.rt x/\R (.rt x))∨(∃ρ2,g ρ1=.bk ρ2/\R (.nx ρ2))∨(∃ρ2 x,g ρ1=.ex ρ2 x/\R (.ex ρ2 x)) ∨ ∃x,g ρ1=.ro x/\R (.ro x)))->(∀ρ,P (n+ds.length) ρ->R (.nx ρ))->R (Xr s g ds ρ)
 |[],n,ρ,h,_,f=>f ρ h
 |d::r,n,ρ,h,st,f=>by
  obtain⟨ρ1,e1,e2⟩:=st 0 d ρ C3 h;rw[Xr,e1];dsimp only;rcases e2 with ⟨ρ2,e2,h2⟩|⟨x,e2,h2⟩|⟨ρ2,e2,h2⟩|⟨ρ2,x,e2,h2⟩|⟨x,e2,h2⟩
  .have goal:=Ot (R:=R) r (n+1) ρ2 h2 (λi d' ρ3 q p=>by
    have e:n+1+i=n+(i+1):=by lia
    rw[e]at p⊢;exact st (i+1) d' ρ3 (by simpa using q) p) (λρ3 p=>f ρ3 (by
    have e:n+1+r.length=n+(d::r).length:=by rw[Qz];lia
    rw[e]at p;exact p))
   rcases e2 with e2|e2<;>(rw[e2];exact goal)
  .rw[e2];exact h2
  .rw[e2];exact h2
  .rw[e2];exact h2
  .rw[e2];exact h2
theorem WU{lo hi:Int}{i:Nat}{d:D}(h:(KS lo hi)[i]?=O d):d=.int (lo+i)/\(i:Int)<hi-lo:=by have hl:i<(KS lo hi).length:=(Qg.mp h).1;rw[Y2]at hl;unfold KS at h;rw[Qj,Qb (by rw[QW];exact hl),List.getElem_range]at h;cases h;exact⟨rfl,by lia⟩
theorem Ll{α:Type}{xs:List α}{i:Int}{v:α}(h0:0<=i)(h:xs[i.toNat]?=O v):atI xs i=O v:=by have:=Kv (xs:=xs) (j:=i.toNat) h;rw[Int.toNat_of_nonneg h0]at this;exact this
section
variable{α β:Type}{ρ ρ1 ρ2 ρ3 ρ':UA}{f g h:M D}
theorem UK{a:α}:UE a ρ=.ok a ρ:=rfl
theorem UO:UB ρ=.ok [] ρ:=rfl
theorem KR{o:Option α}{a:α}(h:o=O a):UN o ρ=.ok a ρ:=by subst h;rfl
theorem Kb{f:M α}{k:α->M β}{x:α}{r:Res β}(h:f ρ=.ok x ρ1)(h2:k x ρ1=r):UM f k ρ=r:=by unfold UM;rw[h];exact h2
theorem K4{f:M α}{k:α->β}{x:α}(h:f ρ=.ok x ρ1):UL k f ρ=.ok (k x) ρ1:=by unfold UL UM;rw[h];rfl
theorem UC{i:Nat}{d:D}(h:ρ[i]?=O (O (.pub d))):Uz i ρ=.ok d ρ:=by unfold Uz;rw[h]
theorem Yo{i:Nat}{ds:C7}(h:ρ[i]?=O (O (.own ds)))(h2:ρ.set i (O (.pub (.list ds)))=ρ'):Uz i ρ=.ok (.list ds) ρ':=by unfold Uz;rw[h];subst h2;rfl
theorem UU{op:D->D->Option β}{x y:D}{r:β}(h1:f ρ=.ok x ρ1)(h2:g ρ1=.ok y ρ2)(h3:op x y=O r):UF op f g ρ=.ok r ρ2:=by unfold UF;exact Kb h1 (Kb h2 (KR h3))
theorem UH{g:M C7}{x:D}{xs:C7}(h1:f ρ=.ok x ρ1)(h2:g ρ1=.ok xs ρ2):UG f g ρ=.ok (x::xs) ρ2:=by unfold UG;exact Kb h1 (Kb h2 C3)
theorem T9{g:M C7}{xs:C7}(h1:g ρ=.ok xs ρ1)(h2:xs.length<=1000000):ZM g ρ=.ok (.tuple xs) ρ1:=by unfold ZM;exact Kb h1 (by rw[Qq h2];rfl)
theorem ZS{g:M C7}{xs:C7}(h1:g ρ=.ok xs ρ1)(h2:xs.length<=1000000):Kg g ρ=.ok (.list xs) ρ1:=by unfold Kg;exact Kb h1 (by rw[Qq h2];rfl)
theorem Y1{g:M C7}{xs:C7}(h1:g ρ=.ok xs ρ1)(h2:xs.length<=1000000):(UM g λxs=>if xs.length<=1000000 then UE xs else λ_=>.bad) ρ=.ok xs ρ1:=
 Kb h1 (by rw[Qq h2];rfl)
theorem Kl{i:Nat}{d y r:D}(h:ρ[i]?=O (O (.pub d)))(h1:g ρ=.ok y ρ1)(h2:oIx d y=O r):UJ i g ρ=.ok r ρ1:=by unfold UJ;rw[h];exact Kb h1 (KR h2)
theorem T8{i:Nat}{ds es:C7}{y r:D}(h:ρ[i]?=O (O (.own ds)))(h1:g ρ=.ok y ρ1)(h3:ρ1[i]?=O (O (.own es)))(h2:oIx (.list es) y=O r):UJ i g ρ=.ok r ρ1:=by unfold UJ;rw[h];exact Kb h1 (by rw[h3];exact KR h2)
theorem ZT{p:C7->Bb}{g:M C7}{xs:C7}{r:D}(h1:g ρ=.ok xs ρ1)(h2:p xs=O r):Zp p g ρ=.ok r ρ1:=by unfold Zp;exact Kb h1 (KR h2)
theorem Kn{n:Nat}{F:C7->Bb}{g:M C7}{xs:C7}{r:D}(h1:g ρ=.ok xs ρ1)(h2:xs.length=n)(h3:F xs=O r):UQ n F g ρ=.ok r ρ1:=by unfold UQ;exact Kb h1 (by rw[Qq h2];exact KR h3)
theorem V2{i:Int}(h1:f ρ=.ok (.int i) ρ1):ZO f ρ=.ok (.int (-i)) ρ1:=by unfold ZO;exact Kb h1 C3
theorem K9{i:Nat}{d r:D}(h:ρ[i]?=O (O (.pub d)))(h2:Ka [d]=O r):K0 i ρ=.ok r ρ:=by unfold K0;rw[h];exact KR h2
theorem HD{i:Nat}{ds:C7}(h:ρ[i]?=O (O (.own ds))):K0 i ρ=.ok (.int ds.length) ρ:=by unfold K0;rw[h]
theorem WS{g:M C7}{i:Int}{r:C7}(h1:g ρ=.ok [.int i] ρ1)(h2:WC [.int i]=O r):YN g ρ=.ok r ρ1:=by unfold YN;exact Kb h1 (KR h2)
theorem Pv{g:M C7}{i j:Int}{r:C7}(h1:g ρ=.ok [.int i,.int j] ρ1)(h2:WB [.int i,.int j]=O r):W7 g ρ=.ok r ρ1:=by unfold W7;exact Kb h1 (KR h2)
theorem V6{g:M C7}{xs r:C7}(h1:g ρ=.ok xs ρ1)(h2:W6 xs=O r):XM g ρ=.ok r ρ1:=by unfold XM;exact Kb h1 (KR h2)
theorem Vs{i:Int}(h1:f ρ=.ok (.int i) ρ1):(UM f λx=>UN (XN x)) ρ=.ok (O i) ρ1:=Kb h1 C3
theorem Z0{f:M Bool}{t:Bool}(h1:f ρ=.ok t ρ1):U9 f ρ=.ok (!t) ρ1:=K4 h1
theorem Yp{t:Bool}(h1:f ρ=.ok (.bool t) ρ1):KU f ρ=.ok t ρ1:=by unfold KU;exact Kb h1 C3
theorem T7{f g:M Bool}{t u:Bool}(h1:f ρ=.ok t ρ)(h2:t=C5->g ρ=.ok u ρ):KY f g ρ=.ok (t&&u) ρ:=by
 unfold KY;refine Kb h1 ?_;cases t with
 |true=>rw[Qq C3];exact h2 C3
 |false=>rfl
theorem Ru{f g:M Bool}{t u:Bool}(h1:f ρ=.ok t ρ)(h2:t=C6->g ρ=.ok u ρ):mOr f g ρ=.ok (t || u) ρ:=by
 unfold mOr;refine Kb h1 ?_;cases t with
 |false=>rw[QE (by decide)];exact h2 C3
 |true=>rfl
theorem Ss{t u:Bool}(h1:f ρ=.ok (.bool t) ρ)(h2:t=C5->g ρ=.ok (.bool u) ρ):YO f g ρ=.ok (.bool (t&&u)) ρ:=by
 unfold YO;refine Kb h1 ?_;cases t with
 |true=>exact h2 C3
 |false=>rfl
theorem GH{t:Bool}(h1:f ρ=.ok (.bool t) ρ1):W9 f ρ=.ok (.bool (!t)) ρ1:=by unfold W9;exact Kb h1 C3
theorem SQ{p q:D->D->Bi}{x y z:D}{t u:Bool}(h1:f ρ=.ok x ρ)(h2:g ρ=.ok y ρ)(h3:p x y=O t)(h4:t=C5->h ρ=.ok z ρ)(h5:t=C5->q y z=O u):XY p q f g h ρ=.ok (t&&u) ρ:=by
 unfold XY;refine Kb h1 (Kb h2 (Kb (KR h3) ?_));cases t with
 |true=>rw[Qq C3];exact Kb (h4 C3) (KR (h5 C3))
 |false=>rfl
theorem ZJ{i j:Int}:UX (.int i) (.int j)=O (.int (i+j)):=rfl
theorem Vy{x y:C7}(h:x.length+y.length<=1000000):UX (.list x) (.list y)=O (.list (x++y)):=by unfold UX;exact Qq h
theorem Tc{i j:Int}:Z7 (.int i) (.int j)=O (.int (i-j)):=rfl
theorem Tk{i j:Int}(h1 : -18446744073709551616<i)(h2:i<18446744073709551616):U8 (.int i) (.int j)=O (.int (i*j)):=by unfold U8 Yx;exact Qq (.inl ⟨by lia,by lia⟩)
theorem Tj{i j:Int}(h1 : -18446744073709551616<j)(h2:j<18446744073709551616):U8 (.int i) (.int j)=O (.int (i*j)):=by unfold U8 Yx;exact Qq (.inr ⟨by lia,by lia⟩)
theorem OS{x:C7}{k:Int}(h : -1000000<=k/\k<=1000000/\x.length*k.toNat<=1000000):U8 (.list x) (.int k)=O (.list (Uk k.toNat x).flatten):=by unfold U8;exact Qq h
theorem X6{i j:Int}(h:0<j):K6 (.int i) (.int j)=O (.int (i % j)):=by unfold K6 Xb;exact Qq h
theorem Pu{i j:Int}(h:0<j)(h2:j<18446744073709551616):Yw (.int i) (.int j)=O (.int (i / j)):=by unfold Yw Xc;exact Qq ⟨h,h2⟩
theorem GF{i j:Int}(h:0<=j/\j<=1000000/\i.natAbs<2 ^ 64):Yv (.int i) (.int j)=O (.int (i ^ j.toNat)):=by unfold Yv Xa;exact Qq h
theorem Xw{p:Int->Int->Bool}{i j:Int}:oIB p (.int i) (.int j)=O (p i j):=rfl
theorem Tb{i j:Int}:oEq (.int i) (.int j)=O (decide (i=j)):=by unfold oEq;rw[if_pos ⟨rfl,rfl,by simp[Ur]⟩];congr 1
theorem ZH{xs:C7}:Ka [.list xs]=O (.int xs.length):=rfl
theorem Ti{xs:C7}:Ka [.tuple xs]=O (.int xs.length):=rfl
theorem GE{i j:Int}:VH [.int i,.int j]=O (.int (if j > i then j else i)):=rfl
theorem WO{j:Int}(h1:j<=1000000)(h2 : -1000000<=j):WC [.int j]=O (KS 0 j):=by unfold WC;exact Qq ⟨h1,h2⟩
theorem P7{i j:Int}(h1:j<=1000000)(h2 : -1000000<=j)(h3:i<=1000000)(h4 : -1000000<=i):WB [.int i,.int j]=O (KS i j):=by unfold WB;exact Qq ⟨h1,h2,h3,h4⟩
theorem Th{xs:C7}:W6 [.list xs]=O (ZF 0 xs):=rfl
theorem Os{z:Str}:(Uo z).depth<=60:=by simp[Ur]
theorem KQ{i:Nat}{d:D}(h1:f ρ=.ok d ρ1)(h2:i<ρ1.length)(h3:ρ1.set i (O (.pub d))=ρ'):UY i f ρ=.nx ρ':=by unfold UY ZK sB gN;rw[h1];dsimp only;rw[if_pos h2];subst h3;rfl
theorem Zc{i:Nat}{f:M C7}{ds:C7}(h1:f ρ=.ok ds ρ1)(h2:i<ρ1.length)(h3:ρ1.set i (O (.own ds))=ρ'):Km i f ρ=.nx ρ':=by unfold Km sB;rw[h1];dsimp only;rw[if_pos h2];subst h3;rfl
theorem Xv{i:Nat}{d:D}{BC ds:C7}(h0:ρ[i]?=O (O (.own BC)))(h1:f ρ=.ok d ρ1)(h2:ρ1[i]?=O (O (.own ds)))(h3:ds.length<1000000)(h4:ρ1.set i (O (.own (ds++[d])))=ρ'):KW i f ρ=.nx ρ':=by unfold KW sB;rw[h0];dsimp only;rw[h1];dsimp only;rw[h2];dsimp only;rw[if_pos h3];subst h4;rfl
theorem RJ{d:D}{s:D->UA->Bg}(h1:f ρ=.ok d ρ1)(h2:s d ρ1=O ρ'):ZK f s ρ=.nx ρ':=by unfold ZK sB;rw[h1];dsimp only;rw[h2]
theorem Sr{d:D}(h1:f ρ=.ok d ρ1):WD f ρ=.nx ρ1:=by unfold WD sB;rw[h1]
theorem UV{i:Nat}{d:D}(h:i<ρ.length)(h2:ρ.set i (O (.pub d))=ρ'):gN i d ρ=O ρ':=by unfold gN;rw[Qq h,h2]
theorem Zw:gN0 [] ρ=O ρ:=rfl
theorem Kp{s:D->UA->Bg}{t:C7->UA->Bg}{d:D}{r:C7}(h1:s d ρ=O ρ1)(h2:t r ρ1=O ρ'):gNC s t (d::r) ρ=O ρ':=by unfold gNC;dsimp only;rw[h1];exact h2
theorem Zv{n:Nat}{t:C7->UA->Bg}{ds:C7}(h1:ds.length=n)(h2:t ds ρ=O ρ'):gT n t (.tuple ds) ρ=O ρ':=by unfold gT;dsimp only;rw[if_pos h1];exact h2
structure Ho(g:SM)(ρ:UA)(Q:Out->Prop):Prop where
 out:Q (g ρ)
noncomputable def MA(h:SM)(Q:Out->Prop):Out->Prop
 |.nx ρ'=>Ho h ρ' Q
 |o=>Q o
structure TV(h:SM)(Q:Out->Prop)(o:Out):Prop where
 out:MA h Q o
variable{Q:Out->Prop}{s t u:SM}
theorem KD(h:Ho s ρ (TV t Q)):Ho (UD s t) ρ Q:=by
 have h:=h.out.out;constructor;unfold UD;cases e:s ρ with
 |nx o=>rw[e]at h;exact h.out
 |_=>rw[e]at h;exact h
theorem U1(h1:s ρ=.nx ρ1)(h2:Ho t ρ1 Q):Ho (UD s t) ρ Q:=by
 constructor;unfold UD;rw[h1];exact h2.out
theorem ZX{o:Out}(h1:s ρ=o)(h2:Q o):Ho s ρ Q:=by constructor;rw[h1];exact h2
theorem KL(h:Q (.nx ρ)):Ho sNx ρ Q:=⟨h⟩
theorem KG{o:UA}(h:Ho t o Q):TV t Q (.nx o):=⟨h⟩
theorem KN{d:D}(h:Q (.rt d)):TV t Q (.rt d):=⟨h⟩
theorem Ko{f:M Bool}{b:Bool}(h1:f ρ=.ok b ρ1)(h2:b=C5->Ho s ρ1 Q)(h3:b=C6->Ho t ρ1 Q):Ho (sIf f s t) ρ Q:=by
 constructor;unfold sIf sB;rw[h1];dsimp only
 cases b with
 |true=>rw[Qq C3];exact(h2 C3).out
 |false=>rw[QE (by decide)];exact(h3 C3).out
theorem Kx{d:D}(h1:f ρ=.ok d ρ1)(h2:Q (.rt d)):Ho (UW f) ρ Q:=by constructor;unfold UW sB;rw[h1];exact h2
theorem GD{P:Out->Prop}(h:Ho s ρ P)(k:∀o,P o->Q o):Ho s ρ Q:=⟨k _ h.out⟩
noncomputable def Mz(I:UA->Prop)(Q:Out->Prop):Out->Prop
 |.nx ρ | .ct ρ=>I ρ
 |.bk ρ=>Q (.nx ρ)
 |.rt d=>Q (.rt d)
 |.ex ρ d=>Q (.ex ρ d)
 |.ro ds=>Q (.ro ds)
 |.bad=>False
structure XJ(I:UA->Prop)(Q:Out->Prop)(o:Out):Prop where
 out:Mz I Q o
theorem Zu{I:UA->Prop}(h:I ρ):XJ I Q (.nx ρ):=⟨h⟩
theorem YK{I:UA->Prop}{d:D}(h:Q (.rt d)):XJ I Q (.rt d):=⟨h⟩
theorem Yj{f:M C7}{tg:D->UA->Bg}{ds:C7}(I:Nat->UA->Prop)(h1:f ρ=.ok ds ρ1)(h0:I 0 ρ1)
  (hst:∀i d ρ,ds[i]?=O d->I i ρ->∃ρ2,tg d ρ=O ρ2/\Ho s ρ2 (XJ (I (i+1)) Q)) (hend:∀ρ,I ds.length ρ->Q (.nx ρ)):Ho (Kq f tg s) ρ Q:=by
 constructor;unfold Kq sB;rw[h1];dsimp only
 refine Ot (P:=I) (R:=Q) ds 0 ρ1 h0 (λi d ρ e p=>?_) (λρ p=>hend ρ (by rw[JH]at p;exact p));rw[JH]at p;obtain⟨ρ2,e2,q⟩:=hst i d ρ e p;refine⟨ρ2,e2,?_⟩;rw[JH];have q:=q.out.out;cases z:s ρ2 with
 |nx o=>rw[z]at q;exact .inl ⟨o,.inl C3,q⟩
 |ct o=>rw[z]at q;exact .inl ⟨o,.inr C3,q⟩
 |rt o=>rw[z]at q;exact .inr (.inl ⟨o,rfl,q⟩)
 |bk o=>rw[z]at q;exact .inr (.inr (.inl ⟨o,rfl,q⟩))
 |ex o x=>rw[z]at q;exact .inr (.inr (.inr (.inl ⟨o,x,rfl,q⟩)))
 |ro o=>rw[z]at q;exact .inr (.inr (.inr (.inr ⟨o,rfl,q⟩)))
 |bad=>rw[z]at q;exact q.elim
theorem Vj{N:List Str}{ds:C7}{P:D->Prop}(h0:K5 N ds=ρ)(h:Ho s ρ λo=>∃d,o=.rt d/\P d):∃d,U5 N s ds=O d/\P d:=by subst h0;obtain⟨d,e,p⟩:=h.out;refine⟨d,?_,p⟩;unfold U5;rw[e]
theorem Yi{N:List Str}{ds:C7}{d:D}(h0:K5 N ds=ρ)(h:Ho s ρ λo=>o=.rt d):U5 N s ds=O d:=by obtain⟨d',e,p⟩:=Vj (P:=λx=>x=d) h0 (GD h λo e=>⟨d,e,rfl⟩);rw[e,p]
end
section
variable{α β:Type}{ρ ρ1 ρ2 ρ3 ρ':UA}{f g h:M D}
theorem RI{l u:M Bf}{x r:D}{a b:Bf}(h1:f ρ=.ok x ρ1)(h2:l ρ1=.ok a ρ2)(h3:u ρ2=.ok b ρ3)(h4:Y6 x a b=O r):Yy f l u ρ=.ok r ρ3:=by unfold Yy;exact Kb h1 (Kb h2 (Kb h3 (KR h4)))
theorem YJ{f g:M Bool}(h1:f ρ=.ok C5 ρ1):mOr f g ρ=.ok C5 ρ1:=by unfold mOr;exact Kb h1 C3
theorem K1{f g:M Bool}{u:Bool}(h1:f ρ=.ok C6 ρ1)(h2:g ρ1=.ok u ρ2):mOr f g ρ=.ok u ρ2:=by unfold mOr;exact Kb h1 (by rw[QE (by decide)];exact h2)
theorem ZU{c:String}{d:D}{t:Bool}(h:f ρ=.ok d ρ1)(ht:(!U3 d c)=t):U9 (KU (UL (λd=>.bool (U3 d c)) f)) ρ=.ok t ρ1:=by subst ht;exact Z0 (Yp (K4 (k:=λd=>Um (U3 d c)) h))
theorem Z2{x:D}{r:C7}(h1:f ρ=.ok x ρ1)(h2:Sz x=O r):K2 f ρ=.ok r ρ1:=by unfold K2;exact Kb h1 (KR h2)
theorem K8{p:D->D->Option β}{i:Nat}{d y:D}{r:β}(h:ρ[i]?=O (O (.pub d)))(h1:g ρ=.ok y ρ1)(h2:p d y=O r):Kh p i g ρ=.ok r ρ1:=by unfold Kh;rw[h];exact Kb h1 (KR h2)
theorem FG{p:D->D->Option β}{i:Nat}{ds es:C7}{y:D}{r:β}(h:ρ[i]?=O (O (.own ds)))(h1:g ρ=.ok y ρ1)(h3:ρ1[i]?=O (O (.own es)))(h2:p (.list es) y=O r):Kh p i g ρ=.ok r ρ1:=by unfold Kh;rw[h];exact Kb h1 (by rw[h3];exact KR h2)
theorem Y0{f:M C7}{k:Nat}{s:D->UA->Bg}{t:M Bool}{ds es:C7}(h1:f ρ=.ok ds ρ1)(h2:Kz s t g ds (U0 ρ1++Uk k C4) []=O es):ZV f k s t g ρ=.ok es ρ1:=by unfold ZV;rw[h1];dsimp only;rw[h2]
theorem YM{s:D->UA->Bg}{t:M Bool}(p:D->Bool)(q:D->D)(I:UA->Prop):∀(ds:C7)(ρ:UA)(es:C7),(∀d∈ds,∀ρ,I ρ->∃ρ1,s d ρ=O ρ1/\t ρ1=.ok (p d) ρ1/\(p d=C5->g ρ1=.ok (q d) ρ1)/\I (U0 ρ1))->I ρ->es.length+ds.length<=1000000 ->
  Kz s t g ds ρ es=O (es++(ds.filter p).map q)
 |[],ρ,es,_,_,_=>by rw[Kz];simp
 |d::r,ρ,es,st,h0,hz=>by
  obtain⟨ρ1,e1,e2,e3,h1⟩:=st d Qh ρ h0;have ih:=λes' hz'=>YM p q I r (U0 ρ1) es' (λd' hd=>st d' (Qm _ hd)) h1 hz';rw[Qz]at hz;rw[Kz,e1];dsimp only;rw[e2];dsimp only
  cases hp:p d with
  |true=>rw[Qq C3,e3 hp];dsimp only;rw[Qq (by lia),ih _ (by rw[Qk,Q4];lia),List.filter_cons_of_pos hp,QC,QY];rfl
  |false=>rw[QE (by decide),ih _ (by lia),List.filter_cons_of_neg (by rw[hp];decide)]
theorem GC{j:Nat}{d:D}{k:Int}{BC ds:C7}(h1:f ρ=.ok d ρ1)(h0:ρ1[j]?=O (O (.own BC)))(h2:g ρ1=.ok (.int k) ρ2)(h3:ρ2[j]?=O (O (.own ds)))(h4:0<=k/\k<ds.length)(h5:ρ2.set j (O (.own (ds.set k.toNat d)))=ρ'):VG j g f ρ=.nx ρ':=by unfold VG sB;rw[h1];dsimp only;rw[h0];dsimp only;rw[h2];dsimp only;rw[h3];dsimp only;rw[if_pos h4];subst h5;rfl
theorem P6{xs:C7}{a b:Bf}:Y6 (.list xs) a b=O (.list (DL.cutD xs a b)):=rfl
theorem YZ{xs:C7}:Sz (.list xs)=O xs:=rfl
theorem Cv(bs:List Bool):XG (bs.map Um)=O bs:=by
 induction bs with
 |nil=>rfl
 |cons b r ih=>rw[QC,XG,ih];rfl
theorem GB{bs:List Bool}:ZL [.list (bs.map Um)]=O (.bool (bs.all id)):=by unfold ZL;dsimp only;rw[Cv];rfl
end
section
variable{α β:Type}{ρ ρ1 ρ2 ρ3 ρ4 ρ':UA}{f g h:M D}{s:SM}
theorem Lk{g:M C7}{xs r:C7}(h1:g ρ=.ok xs ρ1)(h2:Z6 xs=O r):Xd g ρ=.ok r ρ1:=by unfold Xd;exact Kb h1 (KR h2)
theorem Lj{l u t:M Bf}{xs:C7}(h1:f ρ=.ok (.list xs) ρ1)(h2:l ρ1=.ok C4 ρ2)(h3:u ρ2=.ok C4 ρ3)(h4:t ρ3=.ok (O (-1)) ρ4):Xe f l u t ρ=.ok (.list xs.reverse) ρ4:=by unfold Xe;exact Kb h1 (Kb h2 (Kb h3 (Kb h4 (KR (by unfold Y7;exact Qq C3)))))
theorem SO{i:Nat}{d:D}{ds:C7}(h:ρ[i]?=O (O (.pub d)))(h2:Yh [d]=O ds):Xx i ρ=.ok ds ρ:=by unfold Xx;rw[h];exact KR h2
theorem Sa{N:List Str}{ds:C7}(h0:K5 N ds=ρ)(h:Ho s ρ λo=>∃ρ',o=.nx ρ'):U5 N s ds=O .none:=by subst h0;obtain⟨ρ',e⟩:=h.out;unfold U5;rw[e]
theorem WR{i j:Int}:oNe (.int i) (.int j)=O (!decide (i=j)):=by unfold oNe;rw[if_pos ⟨rfl,rfl,by simp[Ur]⟩];congr 1
theorem FF{xs:C8}{j:Nat}{v:Int}:(xs.map int).set j (.int v)=(xs.set j v).map int:=by rw[List.map_set]
theorem En{xs:C8}{a b:Int}(ha:0<=a)(hb:0<=b)(hl:b<=xs.length):DL.cutD (xs.map int) (O a) (O b)=((xs.drop a.toNat).take (b.toNat-a.toNat)).map int:=by
 unfold DL.cutD HT.sIx;dsimp only;rw[QE (by lia),QE (by lia),Qd,List.map_take,List.map_drop];have e2:min b.toNat xs.length=b.toNat:=by lia
 rw[e2];by_cases hab:a.toNat<=xs.length
 .have e1:min a.toNat xs.length=a.toNat:=by lia
  rw[e1]
 .have e3:b.toNat-a.toNat=0:=by lia
  have e4:b.toNat-min a.toNat xs.length=0:=by lia
  rw[e3,e4,JO,JO]
theorem DD{xs ys:C8}:Zb (xs.map int) (ys.map int)=(xs.zip ys).map λp=>.tuple [.int p.1,.int p.2]:=by unfold Zb;rw[List.zip_map,Q7];rfl
end
section
variable{X:Cx}{B G0:Hp}{KX:XW}{e o a b c tg i:Ue}{pos p2:Pos}{es rest:Ba}
noncomputable def YI(f:M Bool)(g:SM):Nat->SM
 |0,_=>.bad
 |n+1,ρ=>match f ρ with
  |.bad=>.bad
  |.ok t ρ1=>if t=C5 then(match g ρ1 with
   |.nx ρ2=>YI f g n ρ2
   |.ct ρ2=>YI f g n ρ2
   |.bk ρ2=>.nx ρ2
   |.rt d=>.rt d
   |.ro ds=>.ro ds
   |.ex ρ2 d=>.ex ρ2 d
   |.bad=>.bad)else .nx ρ1
theorem Em{body:List Stmt}{f:M Bool}{g:SM}(n:Nat)(hp:PassesOwn (model X.prog X.w) X.A X.env X.xe)(hc:PT X c (tBo X.K B G0 f))(hb:PSs X body (tS X.K B G0 KX g)):PS X (.While c body [] pos) (tS X.K B G0 KX (YI f g n)):=
 Kf (E4 hp hc hb) λDn σ H ⟨G,ρ,k,a⟩=>by
  refine⟨λm σ' H'=>∃G' ρ',EOk X.K B G0 G' H' σ' ρ'/\aftS X.K B G0 KX (YI f g m ρ') G' Dn,⟨n,G,ρ,k,a⟩,?_⟩;rintro m σ' H' ⟨G',ρ',k',a'⟩;cases m with
  |zero=>exact a'.elim
  |succ m=>
   rw[YI]at a';refine⟨G',ρ',k',?_⟩;cases z:f ρ' with
   |bad=>rw[z]at a';exact a'.elim
   |ok t ρ1=>
    rw[z]at a';dsimp only at a';intro v G1 H1 k1 s1 e1;subst e1;cases v with
    |false=>rw[QE Js]at a'⊢;exact a' _ G1 H1 k1 s1
    |true=>
     rw[Qq C3]at a'⊢;refine⟨λσ2 H2=>∃G2 ρ2,EOk X.K B G0 G2 H2 σ2 ρ2/\aftS X.K B G0 KX (YI f g m ρ2) G2 Dn,λσ2 H2 h2=>⟨m,Nat.lt_succ_self m,h2⟩,G1,ρ1,k1,?_⟩;cases z2:g ρ1 with
     |nx ρ2=>rw[z2]at a';exact λσ4 G4 H4 k4 s4=>⟨G4,ρ2,k4,aftS.mono (s1.trans s4) a'⟩
     |ct ρ2=>rw[z2]at a';exact λσ4 G4 H4 k4 s4=>⟨G4,ρ2,k4,aftS.mono (s1.trans s4) a'⟩
     |bk ρ2=>rw[z2]at a';exact λσ4 G4 H4 k4 s4=>a' σ4 G4 H4 k4 (s1.trans s4)
     |rt d=>rw[z2]at a';exact a'
     |ro ds=>rw[z2]at a';exact a'
     |ex ρ2 d=>rw[z2]at a';exact λv σ4 G4 H4 k4 s4 r4=>a' v σ4 G4 H4 k4 (s1.trans s4) r4
     |bad=>rw[z2]at a';exact a'.elim
noncomputable def Xo(ρ:UA)(j:Nat):Option C7:=match ρ[j]? with
 |some (O (.own ds))=>O ds
 |_=>C4
theorem SU{ρ:UA}{j:Nat}{ds:C7}(h:Xo ρ j=O ds):ρ[j]?=O (O (.own ds)):=by
 unfold Xo at h;split at h
 .rename_i es e;cases h;exact e
 .cases h
theorem P5{ρ:UA}{j:Nat}{ds:C7}(h:ρ[j]?=O (O (.own ds))):Xo ρ j=O ds:=by unfold Xo;rw[h]
noncomputable def Ys(j:Nat)(f:M C7):SM:=λρ=>match Xo ρ j with
 |none=>.bad
 |some _=>sB f (λes ρ1=>match Xo ρ1 j with
  |some ds=>if ds.length+es.length<=1000000 then .nx (ρ1.set j (O (.own (ds++es))))else .bad
  |none=>.bad) ρ
theorem Li{j:Nat}{f:M C7}{apos cpos:Pos}(ho:PE X o (U2 j))(he:PE X e (tL X.K B G0 f))
  (hbase:attributeBase o "extend" X.env (eval o X.env)=eval o X.env:=by rfl)
  (hfew:((backTo cpos (Uh [e] X.env)).all (λx=>!x.1)&&(backToKw cpos (keywordEach [] X.env)).all (λx=>x.1.isSome)
   && decide ([e].length+([]:List Keyword).length+(if([]:List Keyword).isEmpty then 0 else 1)<30))=C5:=by rfl)
  (hline:(apos.endLine==cpos.line)=C5:=by rfl) (hs:Uh [e] X.env=[(C6,eval e X.env)]:=by rfl)
  (hsw:swapsWith (.Call (.Attribute o "extend" apos) [e] [] cpos) C4 pos.line X.env=pure C6:=by rfl) :
  PS X (.Expr (.Call (.Attribute o "extend" apos) [e] [] cpos) pos) (tS X.K B G0 KX (Ys j f)):=
 Kf (X1 (Xu Jn PySem.F.slot_list_extend PySem.F.type_list_extend Co ho (ZZ he Z1 (by rw[hs];rfl)) hbase hfew hline (by rw[hs];rfl) C3) hsw) λD σ H ⟨G,ρ,k,a⟩=>by
  unfold Ys at a;cases q0:Xo ρ j with
  |none=>rw[q0]at a;exact a.elim
  |some BC=>
  rw[q0]at a;dsimp only at a;obtain⟨ad,vs0,h1,h2,h3,h4,h5⟩:=k.own j BC (SU q0);refine⟨.ref ad,h1,.inl ⟨rfl,_,SqL.of h4⟩,G,ρ,k,?_⟩;unfold sB at a;cases z:f ρ with
  |bad=>rw[z]at a;exact a.elim
  |ok es ρ1=>
  rw[z]at a;dsimp only at a;intro b zs G1 H1 k1 s1 n1;cases q1:Xo ρ1 j with
  |none=>rw[q1]at a;exact a.elim
  |some ds=>
  rw[q1]at a;dsimp only at a;split at a
  .rename_i hl
   obtain⟨ad1,vs,g1,g2,g3,g4,g5⟩:=k1.own j ds (SU q1);rw[h1]at g1;cases g1;refine⟨ad,b,vs,zs,rfl,rfl,g4,n1.h,by rw[g5.length,n1.r.length];exact Qy hl lim,?_⟩;exact a σ G1 _ (k1.change (SU q1) h1 (g5.append n1.r)) s1
  .exact a.elim
end
end DL
namespace DL
open PySem PySem.Spec PySem.W PyProof.Rows
noncomputable def UP{α:Type}(lt:Nat->Nat->Bool):KasT α->α
 |.ret a=>a
 |.ask i j k=>UP lt (k (lt i j))
theorem WV{α β:Type}{lt:Nat->Nat->Bool}{f:α->KasT β}:∀t:KasT α,UP lt (t.bind f)=UP lt (f (UP lt t))
 |.ret _=>rfl
 |.ask i j k=>by show UP lt ((k (lt i j)).bind f)=_;rw[WV];rfl
section
variable{key:Nat->Int}{p:Array Nat}
noncomputable def KA(key:Nat->Int)(p:Array Nat)(i:Nat):Int:=key (p.getD i 0)
def srt(key:Nat->Int)(p:Array Nat)(m:Nat):Prop:=∀i j,i<=j->j<m->KA key p i<=KA key p j
def dsc(key:Nat->Int)(p:Array Nat)(m:Nat):Prop:=∀i j,i<=j->j<m->KA key p j<=KA key p i
noncomputable abbrev kl(key:Nat->Int)(i j:Nat):Bool:=decide (key i<key j)
theorem Oq{k d i:Nat}(hk:k<p.size)(hd:d<=k):KA key (bubble p k d) i=if i=k-d then KA key p k else if k-d<i/\i<=k then KA key p (i-1)else KA key p i:=by
 unfold KA;simp only[Q8];rw[getElem?_bubble hk d hd]
 repeat' split
 all_goals rfl
theorem Vi{i j k:Nat}(hj:j<=p.size):KA key (kas_rev p i j) k=if i<=k/\k<j then KA key p (i+j-1-k)else KA key p k:=by
 unfold KA kas_rev;simp only[Q8];rw[getElem?_mirror_all hj]
 split<;>rfl
theorem X8{i j:Nat}:(kas_rev p i j).size=p.size:=mirror_size _ _ _ _
theorem YV{i j:Nat}:(kas_rev p i j).Perm p:=mirror_perm _ _ _ _
theorem SN:∀(f n:Nat),1<=n->srt key p n->srt key p (UP (kl key) (kas_asc p f n))/\n<=UP (kl key) (kas_asc p f n)/\UP (kl key) (kas_asc p f n)<=n+f /\
  (UP (kl key) (kas_asc p f n)<n+f->KA key p (UP (kl key) (kas_asc p f n))<KA key p (UP (kl key) (kas_asc p f n)-1))
 |0,n,h1,hs=>⟨hs,Qo _,Qo _,λh=>absurd h (Ju _)⟩
 |f+1,n,h1,hs=>by
  unfold kas_asc UP;cases c:kl key (p.getD n 0) (p.getD (n-1) 0)with
  |true=>dsimp only;rw[Qq C3];exact⟨hs,Qo _,by show n<=n+(f+1);lia,λ_=>Qa c⟩
  |false=>
   dsimp only;rw[QE (by decide)];have hle:KA key p (n-1)<=KA key p n:=J8.mp (JA c)
   obtain⟨a1,a2,a3,a4⟩:=SN f (n+1) (by lia) (λi j hij hj=>by
    by_cases B3:j=n
    .subst B3
     by_cases hin:i=j
     .subst hin;exact Jz _
     .exact Int.le_trans (hs i (j-1) (by lia) (by lia)) hle
    .exact hs i j hij (by lia))
   exact⟨a1,by lia,by lia,λh=>a4 (by lia)⟩
def eqs(key:Nat->Int)(p:Array Nat)(n q:Nat):Prop:=∀i,n-1-q<=i->i<n->KA key p i=KA key p (n-1)
theorem Tz:∀(f:Nat)(p:Array Nat)(n q:Nat),1<=n->q+1<=n->n+f<=p.size->dsc key p n->eqs key p n q ->
  let r:=UP (kl key) (kas_desc f p n q)
  r.1.Perm p/\r.1.size=p.size/\dsc key r.1 r.2.1/\eqs key r.1 r.2.1 r.2.2/\r.2.2+1<=r.2.1/\n<=r.2.1/\r.2.1<=n+f
 |0,p,n,q,h1,hq,hz,hd,he=>⟨JZ _,rfl,hd,he,hq,Qo _,Qo _⟩
 |f+1,p,n,q,h1,hq,hz,hd,he=>by
  intro r;have hr:r=UP (kl key) (kas_desc (f+1) p n q):=rfl;unfold kas_desc UP at hr;cases c:kl key (p.getD n 0) (p.getD (n-1) 0)with
  |true=>
   rw[c]at hr;(try dsimp only at hr);rw[if_pos C3]at hr;have hlt:KA key p n<KA key p (n-1):=Qa c
   have ext:∀p':Array Nat,(∀i,KA key p' i=KA key p i)->dsc key p' (n+1)/\eqs key p' (n+1) 0:=λp' hp=>⟨λi j hij hj=>by
     rw[hp,hp];by_cases B3:j=n
     .subst B3
      by_cases hin:i=j
      .subst hin;exact Jz _
      .exact Int.le_trans (Int.le_of_lt hlt) (hd i (j-1) (by lia) (by lia))
     .exact hd i j hij (by lia),λi hi1 hi2=>by
     have:i=n:=by lia
     subst this;rfl⟩
   by_cases hq0:q > 0
   .rw[Qq hq0]at hr
    have same:∀i,KA key (kas_rev p (n-(q+1)) n) i=KA key p i:=λi=>by
     rw[Vi (by lia)];split
     .rw[he _ (by lia) (by lia),he i (by lia) (by lia)]
     .rfl
    obtain⟨d1,e1⟩:=ext _ same;obtain⟨a1,a2,a3,a4,a5,a6,a7⟩:=Tz f (kas_rev p (n-(q+1)) n) (n+1) 0 (by lia) (by lia) (by rw[X8];lia) d1 e1;rw[←hr]at a1 a2 a3 a4 a5 a6 a7;exact⟨a1.trans YV,a2.trans X8,a3,a4,a5,by lia,by lia⟩
   .rw[QE hq0]at hr
    obtain⟨d1,e1⟩:=ext p λ_=>rfl
    obtain⟨a1,a2,a3,a4,a5,a6,a7⟩:=Tz f p (n+1) 0 (by lia) (by lia) (by lia) d1 e1;rw[←hr]at a1 a2 a3 a4 a5 a6 a7;exact⟨a1,a2,a3,a4,a5,by lia,by lia⟩
  |false=>
   rw[c]at hr;(try dsimp only at hr);rw[if_neg (by decide)]at hr;unfold UP at hr;have hle:KA key p (n-1)<=KA key p n:=J8.mp (JA c);cases d:kl key (p.getD (n-1) 0) (p.getD n 0)with
   |true=>rw[d]at hr;(try dsimp only at hr);rw[if_pos C3]at hr;unfold UP at hr;rw[hr];exact⟨JZ _,rfl,hd,he,hq,Qo _,by show n<=n+(f+1);lia⟩
   |false=>
    rw[d]at hr;(try dsimp only at hr);rw[if_neg (by decide)]at hr;have hge:KA key p n<=KA key p (n-1):=J8.mp (JA d)
    obtain⟨a1,a2,a3,a4,a5,a6,a7⟩:=Tz f p (n+1) (q+1) (by lia) (by lia) (by lia) (λi j hij hj=>by
     by_cases B3:j=n
     .subst B3
      by_cases hin:i=j
      .subst hin;exact Jz _
      .exact Int.le_trans hge (hd i (j-1) (by lia) (by lia))
     .exact hd i j hij (by lia)) (λi hi1 hi2=>by
     have e0:KA key p n=KA key p (n-1):=JY hge hle;show KA key p i=KA key p (n+1-1);rw[Nat.add_sub_cancel,e0];by_cases hin:i=n
     .subst hin;exact e0
     .exact he i (by lia) (by lia))
    rw[←hr]at a1 a2 a3 a4 a5 a6 a7;exact⟨a1,a2,a3,a4,a5,by lia,by lia⟩
theorem OR{n nrem:Nat}(h1:1<=n)(hn:n<=nrem)(hz:nrem<=p.size)(hd:dsc key p n) :
  let r:=UP (kl key) (kas_tail3 n nrem p)
  r.2.Perm p/\r.2.size=p.size/\srt key r.2 r.1/\1<=r.1/\r.1<=nrem:=by
 intro r;have hr:r=UP (kl key) (kas_tail3 n nrem p):=rfl;unfold kas_tail3 at hr;rw[WV]at hr;have hs:srt key (kas_rev p 0 n) n:=λi j hij hj=>by rw[Vi (by lia),Vi (by lia),Qq (by lia),Qq (by lia)];exact hd _ _ (by lia) (by lia)
 obtain⟨a1,a2,a3,_⟩:=SN (key:=key) (p:=kas_rev p 0 n) (nrem-n) n h1 hs;rw[hr];exact⟨YV,X8,a1,by show 1<=UP _ _;lia,by show UP _ _<=_;lia⟩
theorem No{n nrem:Nat}(h1:1<=n)(hn:n+1<=nrem)(hz:nrem<=p.size)(hd:dsc key p (n+1)) :
  let r:=UP (kl key) (kas_descPart n nrem p)
  r.2.Perm p/\r.2.size=p.size/\srt key r.2 r.1/\1<=r.1/\r.1<=nrem:=by
 intro r;have hr:r=UP (kl key) (kas_descPart n nrem p):=rfl;unfold kas_descPart at hr;rw[WV]at hr
 obtain⟨a1,a2,a3,a4,a5,a6,a7⟩:=Tz (key:=key) (nrem-(n+1)) p (n+1) 0 (by lia) (by lia) (by lia) hd (λi hi1 hi2=>by
  have:i=n:=by lia
  subst this;rfl)
 generalize UP (kl key) (kas_desc (nrem-(n+1)) p (n+1) 0)=d at hr a1 a2 a3 a4 a5 a6 a7;obtain⟨p1,n1,q1⟩:=d;dsimp only at hr a1 a2 a3 a4 a5 a6 a7;by_cases hq:q1 > 0
 .rw[Qq hq]at hr
  have same:∀i,KA key (kas_rev p1 (n1-(q1+1)) n1) i=KA key p1 i:=λi=>by
   rw[Vi (by lia)];split
   .rw[a4 _ (by lia) (by lia),a4 i (by lia) (by lia)]
   .rfl
  obtain⟨b1,b2,b3,b4,b5⟩:=OR (key:=key) (p:=kas_rev p1 (n1-(q1+1)) n1) (n:=n1) (nrem:=nrem) (by lia) (by lia) (by rw[X8];lia) (λi j hij hj=>by rw[same,same];exact a3 i j hij hj);rw[hr];exact⟨(b1.trans YV).trans a1,(b2.trans X8).trans a2,b3,b4,b5⟩
 .rw[QE hq]at hr
  obtain⟨b1,b2,b3,b4,b5⟩:=OR (key:=key) (p:=p1) (n:=n1) (nrem:=nrem) (by lia) (by lia) (by lia) a3;rw[hr];exact⟨b1.trans a1,b2.trans a2,b3,b4,b5⟩
theorem DI{nrem:Nat}(h1:1<=nrem)(hz:nrem<=p.size) :
  let r:=UP (kl key) (kas_count nrem p)
  r.2.Perm p/\r.2.size=p.size/\srt key r.2 r.1/\1<=r.1/\r.1<=nrem:=by
 intro r;have hr:r=UP (kl key) (kas_count nrem p):=rfl;unfold kas_count at hr;rw[WV]at hr
 obtain⟨a1,a2,a3,a4⟩:=SN (key:=key) (p:=p) (nrem-1) 1 (Qo _) (λi j hij hj=>by
  have:i=j:=by lia
  subst this;exact Jz _)
 generalize UP (kl key) (kas_asc p (nrem-1) 1)=n at hr a1 a2 a3 a4;by_cases hn:(n==nrem)=C5
 .rw[Qq hn]at hr
  unfold UP at hr;rw[hr];exact⟨JZ _,rfl,a1,a2,by show n<=nrem;lia⟩
 .rw[QE hn]at hr
  have hne:n≠nrem:=by simpa using hn
  have hlt:=a4 (by lia);by_cases hn1:n > 1
  .rw[Qq hn1]at hr
   unfold UP at hr;cases c:kl key (p.getD 0 0) (p.getD (n-1) 0)with
   |true=>rw[c]at hr;(try dsimp only at hr);rw[if_pos C3]at hr;unfold UP at hr;rw[hr];exact⟨JZ _,rfl,a1,a2,by show n<=nrem;lia⟩
   |false=>
    rw[c]at hr;(try dsimp only at hr);rw[if_neg (by decide)]at hr;have hge:KA key p (n-1)<=KA key p 0:=J8.mp (JA c);have all:∀i,i<n->KA key p i=KA key p 0:=λi hi=>JY (Int.le_trans (a1 i (n-1) (by lia) (by lia)) hge) (a1 0 i (by lia) hi)
    have same:∀i,KA key (kas_rev p 0 n) i=KA key p i:=λi=>by
     rw[Vi (by lia)];split
     .rw[all _ (by lia),all i (by lia)]
     .rfl
    obtain⟨b1,b2,b3,b4,b5⟩:=No (key:=key) (p:=kas_rev p 0 n) (n:=n) (nrem:=nrem) a2 (by lia) (by rw[X8];exact hz) (λi j hij hj=>by
     rw[same,same];by_cases B3:j=n
     .subst B3
      by_cases hin:i=j
      .subst hin;exact Jz _
      .rw[all i (by lia)]
       rw[all (j-1) (by lia)]at hlt;exact Int.le_of_lt hlt
     .rw[all i (by lia),all j (by lia)];exact Jz _)
    rw[hr];exact⟨b1.trans YV,b2.trans X8,b3,b4,b5⟩
  .rw[QE hn1]at hr
   have:n=1:=by lia
   subst this
   obtain⟨b1,b2,b3,b4,b5⟩:=No (key:=key) (p:=p) (n:=1) (nrem:=nrem) (Qo _) (by lia) hz (λi j hij hj=>by
    by_cases hij2:i=j
    .subst hij2;exact Jz _
    .have h0:i=0:=by lia
     have h1:j=1:=by lia
     subst h0;subst h1;exact Int.le_of_lt hlt)
   rw[hr];exact⟨b1,b2,b3,b4,b5⟩
theorem Rh{k:Nat}(hs:srt key p k):∀(f l r:Nat),l<=r->r<=k->r-l<=f->(∀i,i<l->KA key p i<=KA key p k)->(∀i,r<=i->i<k->KA key p k<KA key p i) ->
  let m:=UP (kl key) (kas_place p k f l r)
  m<=k/\(∀i,i<m->KA key p i<=KA key p k)/\(∀i,m<=i->i<k->KA key p k<KA key p i)
 |0,l,r,hlr,hrk,hf,h1,h2=>⟨by show l<=k;lia,h1,λi (hi:l<=i)=>h2 i (by lia)⟩
 |f+1,l,r,hlr,hrk,hf,h1,h2=>by
  intro m;have hm:m=UP (kl key) (kas_place p k (f+1) l r):=rfl;unfold kas_place at hm;by_cases hge:l ≥ r
  .rw[Qq hge]at hm
   unfold UP at hm;rw[hm];exact⟨by lia,h1,λi hi=>h2 i (by lia)⟩
  .rw[QE hge]at hm
   unfold UP at hm;cases c:kl key (p.getD k 0) (p.getD ((l+r) / 2) 0)with
   |true=>rw[c]at hm;(try dsimp only at hm);rw[if_pos C3]at hm;rw[hm];have hlt:KA key p k<KA key p ((l+r) / 2):=Qa c;exact Rh hs f l ((l+r) / 2) (by lia) (by lia) (by lia) h1 λi hi hik=>Int.lt_of_lt_of_le hlt (hs _ _ hi hik)
   |false=>rw[c]at hm;(try dsimp only at hm);rw[if_neg (by decide)]at hm;rw[hm];have hle:KA key p ((l+r) / 2)<=KA key p k:=J8.mp (JA c);exact Rh hs f ((l+r) / 2+1) r (by lia) hrk (by lia) (λi hi=>Int.le_trans (hs i ((l+r) / 2) (by lia) (by lia)) hle) h2
theorem P4:∀(f:Nat)(p:Array Nat)(k:Nat),k+f<=p.size->srt key p k->let r:=UP (kl key) (kas_bin f p k);r.Perm p/\r.size=p.size/\srt key r (k+f)
 |0,p,k,_,hs=>⟨JZ _,rfl,hs⟩
 |f+1,p,k,hz,hs=>by
  intro r;have hr:r=UP (kl key) (kas_bin (f+1) p k):=rfl;unfold kas_bin at hr;rw[WV]at hr;obtain⟨a1,a2,a3⟩:=Rh (key:=key) hs k 0 k (JN _) (Qo _) (by omega) (λi hi=>by omega) (λi h1 h2=>by omega);generalize UP (kl key) (kas_place p k k 0 k)=l at hr a1 a2 a3;have hk:k<p.size:=by omega
  obtain⟨b1,b2,b3⟩:=P4 f (bubble p k (k-l)) (k+1) (by rw[bubble_size];omega) (λi j hij hj=>by
   rw[Oq hk (by omega),Oq hk (by omega),show k-(k-l)=l by omega];by_cases hi:i=l
   .rw[Qq hi]
    by_cases Ac:j=l
    .rw[Qq Ac];exact Jz _
    .rw[QE Ac,Qq (by omega)]
     exact Int.le_of_lt (a3 (j-1) (by omega) (by omega))
   .rw[QE hi]
    by_cases hi2:l<i/\i<=k
    .rw[Qq hi2,QE (show ¬j=l by omega),Qq (by omega)]
     exact hs _ _ (by omega) (by omega)
    .rw[QE hi2]
     by_cases Ac:j=l
     .rw[Qq Ac];exact a2 i (by omega)
     .rw[QE Ac]
      split
      .exact hs _ _ (by omega) (by omega)
      .exact hs _ _ (by omega) (by omega))
  rw[hr];exact⟨b1.trans (bubble_perm _ _ _),b2.trans (bubble_size _ _ _),by rw[show k+(f+1)=k+1+f by omega];exact b3⟩
theorem DC{n:Nat}(h1:1<=n):let r:=UP (kl key) (kas_sort n);r.Perm (List.toArray (Uj n))/\r.size=n/\srt key r n:=by
 intro r;have hr:r=UP (kl key) (kas_sort n):=rfl;unfold kas_sort at hr;rw[WV]at hr;have hsz:(List.toArray (Uj n)).size=n:=by simp
 obtain⟨a1,a2,a3,a4,a5⟩:=DI (key:=key) (p:=List.toArray (Uj n)) (nrem:=n) h1 (by rw[hsz];exact Qo _);generalize UP (kl key) (kas_count n (List.toArray (Uj n)))=d at hr a1 a2 a3 a4 a5;by_cases hlt:d.1<n
 .rw[Qq hlt]at hr
  have hmax:max d.1 1=d.1:=by lia
  rw[hmax]at hr;obtain⟨b1,b2,b3⟩:=P4 (key:=key) (n-d.1) d.2 d.1 (by lia) a3;rw[hr];exact⟨b1.trans a1,by lia,by rw[show d.1+(n-d.1)=n by lia]at b3;exact b3⟩
 .rw[QE hlt]at hr
  unfold UP at hr;rw[hr];exact⟨a1,by lia,by rw[show d.1=n by lia]at a3;exact a3⟩
noncomputable def Asks{α:Type}(N:Nat)(R:α->Prop):KasT α->Prop
 |.ret a=>R a
 |.ask i j k=>i<N/\j<N/\∀b,Asks N R (k b)
theorem Asks.bind{α β:Type}{N:Nat}{R:α->Prop}{S:β->Prop}{f:α->KasT β}(hf:∀a,R a->Asks N S (f a)):∀{t:KasT α},Asks N R t->Asks N S (t.bind f)
 |.ret a,h=>hf a h
 |.ask _ _ k,⟨h1,h2,h3⟩=>⟨h1,h2,λb=>Asks.bind hf (h3 b)⟩
theorem P3{α:Type}{lt:Nat->Nat->Bool}{cmp:Nat->Nat->(Bool->Ua->Prop)->Ua->Prop}{s:Ua}{N:Nat}{R:α->Prop}(hc:∀i j C,i<N->j<N->C (lt i j) s->cmp i j C s):∀(t:KasT α)(Q:α->Ua->Prop),Asks N R t->Q (UP lt t) s->t.kasWp cmp Q s
 |.ret _,_,_,h=>h
 |.ask i j k,Q,⟨h1,h2,h3⟩,h=>hc i j _ h1 h2 (P3 hc (k (lt i j)) Q (h3 _) h)
def bnd(N:Nat)(p:Array Nat):Prop:=∀i,p.getD i 0<N
theorem WN{N:Nat}{p q:Array Nat}(hN:0<N)(h:bnd N p)(e:q.Perm p):bnd N q:=λi=>by
 rw[Q8];cases z:q[i]? with
 |none=>exact hN
 |some v=>have hm:v∈q:=Array.mem_of_getElem? z;have hm2:v∈p:=e.mem_iff.mp hm;obtain⟨j,hj,e2⟩:=Array.mem_iff_getElem.mp hm2;have:=h j;rw[Q8,JB hj,e2]at this;exact this
section
variable{N:Nat}(hN:0<N)
include hN
theorem SL{p:Array Nat}(h:bnd N p):∀(f n:Nat),Asks N (λ_=>True) (kas_asc p f n)
 |0,_=>trivial
 |f+1,n=>⟨h _,h _,λb=>by
  cases b with
  |true=>(try dsimp only);rw[if_pos C3];trivial
  |false=>(try dsimp only);rw[if_neg (by decide)];exact SL h f (n+1)⟩
theorem Tx:∀(f:Nat)(p:Array Nat)(n q:Nat),bnd N p->Asks N (λr=>bnd N r.1) (kas_desc f p n q)
 |0,p,_,_,h=>h
 |f+1,p,n,q,h=>⟨h _,h _,λb=>by
  cases b with
  |true=>
   dsimp only;rw[Qq C3];split
   .exact Tx f _ _ _ (WN hN h YV)
   .exact Tx f _ _ _ h
  |false=>
   dsimp only;rw[QE (by decide)];refine⟨h _,h _,λb=>?_⟩;cases b with
   |true=>(try dsimp only);rw[if_pos C3];exact h
   |false=>(try dsimp only);rw[if_neg (by decide)];exact Tx f _ _ _ h⟩
theorem OQ{p:Array Nat}{n nrem:Nat}(h:bnd N p):Asks N (λr=>bnd N r.2) (kas_tail3 n nrem p):=
 Asks.bind (N:=N) (R:=λ_=>True) (S:=λr:Nat×Array Nat=>bnd N r.2) (f:=λm=>.ret (m,kas_rev p 0 n)) (λ_ _=>WN (p:=p) (q:=kas_rev p 0 n) hN h YV) (SL hN (WN hN h YV) _ _)
theorem Nn{p:Array Nat}{n nrem:Nat}(h:bnd N p):Asks N (λr=>bnd N r.2) (kas_descPart n nrem p):=
 Asks.bind (λr hr=>by
  split
  .exact OQ hN (WN hN hr YV)
  .exact OQ hN hr) (Tx hN _ _ _ _ h)
theorem DH{p:Array Nat}{nrem:Nat}(h:bnd N p):Asks N (λr=>bnd N r.2) (kas_count nrem p):=
 Asks.bind (R:=λ_=>True) (λn _=>by
  split
  .exact h
  .split
   .refine⟨h _,h _,λb=>?_⟩
    cases b with
    |true=>(try dsimp only);rw[if_pos C3];exact h
    |false=>(try dsimp only);rw[if_neg (by decide)];exact Nn hN (WN hN h YV)
   .exact Nn hN h) (SL hN h _ _)
theorem Rg{p:Array Nat}(h:bnd N p)(k:Nat):∀(f l r:Nat),Asks N (λ_=>True) (kas_place p k f l r)
 |0,_,_=>trivial
 |f+1,l,r=>by
  unfold kas_place;split
  .trivial
  .refine⟨h _,h _,λb=>?_⟩
   cases b with
   |true=>(try dsimp only);rw[if_pos C3];exact Rg h k f _ _
   |false=>(try dsimp only);rw[if_neg (by decide)];exact Rg h k f _ _
theorem P0:∀(f:Nat)(p:Array Nat)(k:Nat),bnd N p->Asks N (λ_=>True) (kas_bin f p k)
 |0,_,_,_=>trivial
 |f+1,p,k,h=>Asks.bind (R:=λ_=>True) (λl _=>P0 f _ _ (WN hN h (bubble_perm _ _ _))) (Rg hN h k _ _ _)
end
theorem DB{n:Nat}(hn:0<n):Asks n (λ_=>True) (kas_sort n):=by
 have hb:bnd n (List.toArray (Uj n)):=λi=>by
  rw[Q8];by_cases hi:i<n
  .simp[hi]
  .simp[hi,hn]
 refine Asks.bind (λr hr=>?_) (DH hn hb);split
 .exact P0 hn _ _ _ hr
 .trivial
end
noncomputable def UZ(q:Int×Int):Int:=q.1*10000000+q.2
def okP(q:Int×Int):Prop:=-1000000<=q.2/\q.2<=1000000
theorem GA{x y:Int×Int}(hx:okP x)(hy:okP y):UZ x<UZ y ↔ (x.1<y.1∨x.1=y.1/\x.2<y.2):=by
 unfold UZ okP at *
 lia
theorem El{x y:Int×Int}(hx:okP x)(hy:okP y)(h:UZ x=UZ y):x=y:=by
 unfold UZ okP at *;have h1:x.1=y.1:=by lia
 have h2:x.2=y.2:=by lia
 exact Prod.ext h1 h2
section
variable{prog:Ub}{w:World}{A:Around}{E:J9->Ua->Prop}{s:Ua}
def V1(h:Heap)(v:J9)(q:Int×Int):Prop:=∃a t u o n,v=.ref a/\h.get? a=O o/\o.cls=.type "tuple" /\ o.data=.seq #[.int q.1 t,.int q.2 u] n
theorem Gz{x y:J9}{p q:Int×Int}{Q:Bool->Ua->Prop}(hx:V1 s.heap x p)(hy:V1 s.heap y q)(h:Q (decide (p.1<q.1∨p.1=q.1/\p.2<q.2)) s):Ug (model prog w) A (keyLt' (tuples' C5) x y) Q E s:=by
 obtain⟨a,t,u,o,n,rfl,e1,c1,d1⟩:=hx;obtain⟨b,t',u',o',n',rfl,e2,c2,d2⟩:=hy;refine kat_lt e1 d1 e2 d2 ?_;show KatLex prog w A C5 _ Q [(Value.int p.1 t,Value.int q.1 t'),(Value.int p.2 u,Value.int q.2 u')] 0 s;refine kat_cons (wpAny_eqBool_int ?_);by_cases h1:p.1=q.1
 .have e:(p.1==q.1)=C5:=by simpa using h1
  rw[e];refine kat_yes (kat_cons (wpAny_eqBool_int ?_));by_cases h2:p.2=q.2
  .have e:(p.2==q.2)=C5:=by simpa using h2
   rw[e];refine kat_yes (kat_nil ?_);have:decide (p.1<q.1∨p.1=q.1/\p.2<q.2)=C6:=QG (by lia);rw[this]at h;exact h
  .have e:(p.2==q.2)=C6:=by simpa using h2
   rw[e];refine kat_no (kat_one _ _ (PyProof.Rows.lt_int ?_))
   have:decide (p.1<q.1∨p.1=q.1/\p.2<q.2)=decide (p.2<q.2):=by
    by_cases z:p.2<q.2
    .rw[QU z,QU (.inr ⟨h1,z⟩)]
    .rw[QG z,QG (by lia)]
   rw[this]at h;exact h
 .have e:(p.1==q.1)=C6:=by simpa using h1
  rw[e];refine kat_no (oneLt_int ?_)
  have:decide (p.1<q.1∨p.1=q.1/\p.2<q.2)=decide (p.1<q.1):=by
   by_cases z:p.1<q.1
   .rw[QU z,QU (.inl z)]
   .rw[QG z,QG (by lia)]
  rw[this]at h;exact h
noncomputable def Zt(h:Heap):C9->LP->Prop
 |[],[]=>True
 |v::vs,q::qs=>V1 h v q/\Zt h vs qs
 |_,_=>False
theorem Zt.get{h:Heap}:∀{vs:C9}{qs:LP},Zt h vs qs->vs.length=qs.length/\∀(i:Nat)(hi:i<vs.length),V1 h (vs.getD i .none) (qs.getD i (0,0))
 |[],[],_=>⟨rfl,λi hi=>absurd hi (Nat.not_lt_zero _)⟩
 |v::vs,q::qs,⟨h1,h2⟩=>by
  obtain⟨e,f⟩:=Zt.get h2;refine⟨by simp[e],λi hi=>?_⟩;cases i with
  |zero=>exact h1
  |succ i=>exact f i (by simpa using hi)
theorem Zt.tups{h:Heap}:∀{vs:C9}{qs:LP},Zt h vs qs->∃fs:C9,KatTups h vs fs/\fs.length=vs.length/\∀v∈fs,∃i t,v=.int i t
 |[],[],_=>⟨[],trivial,rfl,λ_ h=>by cases h⟩
 |v::vs,q::qs,⟨hp,h2⟩=>by
  obtain⟨a,t,u,o,n,rfl,e1,c1,d1⟩:=hp;obtain⟨fs,f1,f2,f3⟩:=Zt.tups h2;refine⟨.int q.1 t::fs,.cons e1 c1 d1 C3 f1,by simp[f2],λv hv=>?_⟩;rcases QM.mp hv with rfl|hv
  .exact⟨_,_,rfl⟩
  .exact f3 v hv
theorem Zt.mono{h h':Heap}(k:∀b o,h.get? b=O o->h'.get? b=O o):∀{vs:C9}{qs:LP},Zt h vs qs->Zt h' vs qs
 |[],[],_=>trivial
 |v::vs,q::qs,⟨hp,h2⟩=>by obtain⟨a,t,u,o,n,rfl,e1,c1,d1⟩:=hp;exact⟨⟨a,t,u,o,n,rfl,k _ _ e1,c1,d1⟩,Zt.mono k h2⟩
def VQ(qs:LP)(π:Bc):Prop:=π.Perm (Uj qs.length)/\(π.map λi=>qs.getD i (0,0)).Pairwise λx y=>UZ x<=UZ y
theorem C1{a:Uc}{vs:C9}{qs:LP}{n:Nat}{P:Fin->Ua->Prop}(ho:s.heap.get? a=O (seqObj "list" vs.toArray n))
  (hp:Zt ((s.heap.update a (Obj.mapSeq λ_=>#[]))) vs qs) (hq:∀q∈qs,okP q) (h64:vs.length<64)
  (h:∀π:Bc,VQ qs π->P (.done (.ret .none)) {s with heap:=sortedHeap s.heap a vs (List.toArray (π.map λi=>vs.getD i .none))}) :
  Ug (model prog w) A (Builtin.«list.sort» ⟨[.ref a],[]⟩) P E s:=by
 obtain⟨hl,hget⟩:=hp.get;rw[list_sort_plain];have ha:a<s.heap.objs.size:=Qi ho;refine Qe (listItems_at ho C3 ?_);refine Qe (listUpdate_at ho C3 ?_);obtain⟨e1,ho1⟩:∃e1,(s.heap.update a (Obj.mapSeq λ_=>#[])).get? a=O (seqObj "list" #[] e1):=⟨_,get?_update_seq ho (λ_=>#[])⟩
 refine Qe (seqEpoch_at ho1 C3 ?_);refine Qe (wpAny_newTuple ?_);refine Qe (wpAny_newList ?_);refine wpAny_holding ?_;have ho6:(((s.heap.update a (Obj.mapSeq λ_=>#[])).push (seqObj "tuple" vs.toArray 0)).push (seqObj "list" #[] 0)).get? a=O (seqObj "list" #[] e1):=by rw[Heap.get?_push_ne _ _ _ (by rw[size_push',Heap.size_update];exact QO (Nat.lt_succ_of_lt ha)),Heap.get?_push_ne _ _ _ (by rw[Heap.size_update];exact QO ha)];exact ho1
 have hp6:Zt (((s.heap.update a (Obj.mapSeq λ_=>#[])).push (seqObj "tuple" vs.toArray 0)).push (seqObj "list" #[] 0)) vs qs:=hp.mono λb o e=>Ql _ (Ql _ e)
 show Ug (model prog w) A _ P E {s with heap:=((s.heap.update a (Obj.mapSeq λ_=>#[])).push (seqObj "tuple" vs.toArray 0)).push (seqObj "list" #[] 0)};dsimp only;have hsz:vs.toArray.size=vs.length:=by simp
 by_cases h2:vs.toArray.size<2
 .rw[Qq h2,Qq h2]
  refine Qe (Qp ?_);rw[StateT.run_pure];refine Qe (Qp ?_);dsimp only;refine Qe (seqEpoch_at ho6 C3 ?_);refine Qe (listUpdate_at ho6 C3 ?_ (hsz2:=by rw[Array.size_map];show(pairsOf vs).size<=_;rw[pairsOf_size,sizeLine_eq];lia));simp only[bne_self_eq_false,JK,if_false]
  have hid:(arrOf (SortSt.mk' general' (vs.toArray.zip vs.toArray) #[] 7 C4)).map (·.2)=List.toArray ((Uj vs.length).map λi=>vs.getD i .none):=by
   show(vs.toArray.zip vs.toArray).map (·.2)=_
   apply Array.toList_inj.mp;apply List.ext_getElem?;intro i;simp only[Array.toList_map,Array.toList_zip,Qj,List.getElem?_zip_eq_some];by_cases hi:i<vs.length
   .simp[List.getElem?_zip_eq_some,hi,List.getElem?_range]
   .simp[hi]
  rw[hid];refine Qp (h (Uj vs.length) ⟨by rw[hl],?_⟩);rw[List.pairwise_map];rw[hsz]at h2
  rcases(show vs.length=0∨vs.length=1 by lia)with z|z<;>rw[z]
  .exact .nil
  .exact List.pairwise_singleton _ _
 .rw[QE h2,QE h2]
  rw[hsz]at h2;obtain⟨fs,f1,f2,f3⟩:=hp6.tups;refine Qe (kat_kind (T:=.type "int") f1 (by lia) (λv hv=>by obtain⟨i,t,rfl⟩:=f3 v hv;exact(show Looks _ _ (pure (Value.type "int")) _ from .now)) C3 ?_)
  refine Qe (QP (kat_run (ks:=vs) (G:=λp s'=>s' = {s with heap:=((s.heap.update a (Obj.mapSeq λ_=>#[])).push (seqObj "tuple" vs.toArray 0)).push (seqObj "list" #[] 0)}/\p=UP (kl λi=>UZ (qs.getD i (0,0))) (kas_sort vs.length))
   (Q:=λst' s'=>s' = {s with heap:=((s.heap.update a (Obj.mapSeq λ_=>#[])).push (seqObj "tuple" vs.toArray 0)).push (seqObj "list" #[] 0)}/\failedOf st'=C4/\arrOf st'=(UP (kl λi=>UZ (qs.getD i (0,0))) (kas_sort vs.length)).map (kas_item (vs.toArray.zip vs.toArray)))
   rfl (by lia) h64 (λp st' s' a1 a2 a3 a4=>⟨a4.1,a3,by rw[a2,a4.2]⟩) ?_) ?_ λ_ _ e=>e)
  .refine P3 (N:=vs.length) (R:=λ_=>True) (lt:=kl λi=>UZ (qs.getD i (0,0))) (λi j C hi hj hC=>?_) _ _ (DB (by lia)) ⟨rfl,rfl⟩
   refine Gz (Zt.get hp6 |>.2 i hi) (Zt.get hp6 |>.2 j hj) ?_;have oi:okP (qs.getD i (0,0)):=hq _ (by rw[Q2,Qb (by lia)];exact Jc _);have oj:okP (qs.getD j (0,0)):=hq _ (by rw[Q2,Qb (by lia)];exact Jc _);have e:decide ((qs.getD i (0,0)).1<(qs.getD j (0,0)).1∨(qs.getD i (0,0)).1=(qs.getD j (0,0)).1/\(qs.getD i (0,0)).2<(qs.getD j (0,0)).2)=kl (λi=>UZ (qs.getD i (0,0))) i j:=by unfold kl;exact decide_eq_decide.mpr (GA oi oj).symm
   rw[e];exact hC
  .rintro⟨⟨⟩,st'⟩ s' ⟨rfl,hf,har⟩
   dsimp only;obtain⟨b1,b2,b3⟩:=DC (key:=λi=>UZ (qs.getD i (0,0))) (n:=vs.length) (by lia);generalize UP (kl λi=>UZ (qs.getD i (0,0))) (kas_sort vs.length)=p at har b1 b2 b3;have hout:=kat_snds (ks:=vs) (vs:=vs) C3 har;have hsz2:((arrOf st').map (·.2)).size=vs.length:=by rw[hout,QL,Qd,JU,b2]
   refine Qe (seqEpoch_at ho6 C3 ?_);refine Qe (listUpdate_at ho6 C3 ?_ (hsz2:=by rw[hsz2,sizeLine_eq];lia));rw[hf];simp only[bne_self_eq_false,JK,if_false];rw[hout];refine Qp (h p.toList ⟨?_,?_⟩)
   .have:=Array.perm_iff_toList_perm.mp b1
    rw[←hl];exact this
   .rw[List.pairwise_map,List.pairwise_iff_getElem]
    intro i j hi hj hij;rw[JU,b2]at hi hj;have:=b3 i j (by lia) hj;unfold KA at this;rw[Q8,Q8,JB (by lia),JB (by lia)]at this;simpa using this
end
section
variable{prog:Ub}{w:World}{A:Around}{E:J9->Ua->Prop}{s:Ua}
theorem Cw{l:Uc}{vs:C9}{qs:LP}{Q:J9->Ua->Prop}(hl:s.heap.IsList l vs.toArray)(hp:Zt s.heap vs qs)(hq:∀q∈qs,okP q)(h64:vs.length<64)
  (h:∀π:Bc,VQ qs π->Q (.ref (s.heap.objs.size+1)) {s with heap:=sortedAll s.heap vs (List.toArray (π.map λi=>vs.getD i .none))}) :
  Ug (model prog w) A (call (.builtin "sorted") [.ref l]) Q E s:=by
 refine Calls.call_function_entry kind_sorted plain_sorted entry_sorted (args_sorted1 _) ?_;unfold Builtin.«sorted»;refine Qe (m:=checkCount "sorted" 1 1 _) (Qp ?_);refine Qe (collect_list hl ?_);refine Qe (wpAny_newList ?_);have hsz:((s.heap.push (seqObj "list" #[] 0)).update s.heap.objs.size (Obj.mapSeq (· ++ vs.toArray))).objs.size=s.heap.objs.size+1:=by rw[Heap.size_update,size_push']
 have hoL:(((s.heap.push (seqObj "list" #[] 0)).update s.heap.objs.size (Obj.mapSeq (· ++ vs.toArray))).push (seqObj "list" vs.toArray 0)).get? (s.heap.objs.size+1)=O (seqObj "list" vs.toArray 0):=by rw[←hsz];exact QB _ C3
 show Ug _ _ _ _ _ {s with heap:=((s.heap.push (seqObj "list" #[] 0)).update s.heap.objs.size (Obj.mapSeq (· ++ vs.toArray))).push (seqObj "list" vs.toArray 0)};rw[hsz];refine Qe (wpAny_holding (wpAny_call_entry slot_list_sort ⟨_,hoL,rfl⟩ entry_list_sort (C1 (qs:=qs) hoL (hp.mono λb o e=>?_) hq h64 λπ a1=>⟨_,rfl,?_⟩) (args_list_sort _)))
 .have hlt:b<s.heap.objs.size:=Qi e
  dsimp only;have Ar:(b:Nat)<s.heap.objs.size:=hlt;rw[Heap.get?_update_ne _ _ _ _ (QO (Nat.lt_succ_of_lt Ar)),Heap.get?_push_ne _ _ _ (by rw[hsz];exact QO (Nat.lt_succ_of_lt Ar)),Heap.get?_update_ne _ _ _ _ (QO hlt),Heap.get?_push_ne _ _ _ (QO hlt)];exact e
 .exact Qp ⟨_,rfl,h π a1⟩
end
end DL
namespace DL
open PySem PySem.Spec L2
open PyProof.Rows hiding St
section
variable{X:Cx}
theorem PZ{pins:List (Uc×Obj)}{s:Ua}{σ:St}{H:Hp}(I:Inv X pins σ H s):∀{as:Be}{us:C9}{qs:LP},Vals (as.map V.ref) us->as.length=qs.length->(∀(i:Nat) a q,as[i]?=O a->qs[i]?=O q->SqT X.K H a [.int q.1,.int q.2])->Zt s.heap us qs
 |[],_,[],.nil,_,_=>trivial
 |a::as,_,q::qs,.cons r t,hl,h=>by refine⟨?_,PZ I t (by simpa using hl) λi a q h1 h2=>h (i+1) a q (by simpa using h1) (by simpa using h2)⟩;cases r;obtain⟨its,rv,⟨o,e,c,n,d⟩,_⟩:=I.tuple (h 0 a q C3 C3);obtain⟨u,v,rfl,r1,r2⟩:=rv.two;obtain⟨t1,rfl⟩:=r1;obtain⟨t2,rfl⟩:=r2;exact⟨a,t1,t2,o,n,rfl,e,c,by simpa using d⟩
theorem Op{as:Be}{us:C9}(r:Vals (as.map V.ref) us):∀(π:Bc),(∀i∈π,i<as.length)->Vals (π.map λi=>V.ref (as.getD i 0)) (π.map λi=>us.getD i .none)
 |[],_=>.nil
 |i::π,h=>by
  refine .cons ?_ (Op r π λj hj=>h j (Qm _ hj));have hi:=h i Qh;have e:(as.map V.ref)[i]?=O (.ref (as.getD i 0)):=by rw[List.getElem?_map,List.getElem?_eq_getElem hi];simp[List.getD,List.getElem?_eq_getElem hi]
  obtain⟨u,e2,ru⟩:=r.get e;simp only[List.getD,e2,JR];exact ru
theorem DG:ZC X (.builtin "sorted") (λxs H Q=>∃l,∃as:Be,∃qs:LP,xs=[.ref l]/\SqL X.K H l (as.map V.ref)/\as.length=qs.length/\(∀(i:Nat) a q,as[i]?=O a->qs[i]?=O q->SqT X.K H a [.int q.1,.int q.2])/\(∀q∈qs,okP q)/\qs.length<64 /\
  ∀π p,VQ qs π->H p=C4->Q (.ref p) (upd H p (.lst (π.map λi=>V.ref (as.getD i 0))))):=by
 intro pins s σ H xs us Q I rx h;obtain⟨l,as,qs,rfl,hq,hl,ht,ho,hb,q⟩:=h;obtain⟨u,rfl,ru⟩:=rx.one;cases ru;obtain⟨its,rv,p,hz⟩:=I.list hq;have hn:its.length=qs.length:=by have:=rv.length;rw[Qd]at this;lia
 refine Cw (qs:=qs) p.isList (PZ I rv hl ht) ho (by lia) λπ hπ=>?_
 obtain⟨e,he⟩:=sortedAll_at s.heap its (List.toArray (π.map λi=>its.getD i .none))
 have hπl:∀i∈π,i<as.length:=λi hi=>by
  have:=hπ.1.mem_iff.mp hi;rw[QX]at this
  lia
 refine⟨.ref (s.heap.objs.size+1),_,I.laid (t':=s.toks) (λb o=>sortedAll_old) (Jy _) (show Ku X.prog X.w _ _ _ (.lst (π.map λi=>V.ref (as.getD i 0)))from⟨?_,_,e,Op rv π hπl,he⟩),rfl,q π _ hπ (I.hok.fresh (Jy _))⟩;rw[Qd,hπ.1.length_eq,QW];rw[Qd]at hz
 lia
noncomputable def V0:D->Option (Int×Int)
 |.tuple [.int a,.int b]=>O (a,b)
 |_=>C4
noncomputable def WM:C7->Option LP
 |[]=>O []
 |d::r=>(V0 d).bind λq=>(WM r).map (q :: ·)
noncomputable def Zy(q:Int×Int):D:=.tuple [.int q.1,.int q.2]
theorem DA{d:D}{q:Int×Int}(h:V0 d=O q):d=Zy q:=by
 unfold V0 at h;split at h
 .cases h;rfl
 .cases h
theorem Nd:∀{ds:C7}{qs:LP},WM ds=O qs->ds=qs.map Zy
 |[],qs,h=>by cases h;rfl
 |d::r,qs,h=>by
  unfold WM at h;cases z:V0 d with
  |none=>rw[z]at h;cases h
  |some q=>
   rw[z]at h;cases z2:WM r with
   |none=>rw[z2]at h;cases h
   |some qs'=>rw[z2]at h;cases h;rw[DA z,Nd z2];rfl
noncomputable def Vc(qs:LP):LP:=qs.mergeSort λx y=>decide (UZ x<=UZ y)
theorem DF(qs:LP):(Vc qs).Perm qs:=List.mergeSort_perm ..
theorem Dy(qs:LP):(Vc qs).Pairwise λx y=>UZ x<=UZ y:=by have:=List.pairwise_mergeSort (le:=λx y:Int×Int=>decide (UZ x<=UZ y)) (by intro a b c;simp;lia) (by intro a b;simp;lia) qs;exact this.imp (by simp)
theorem PY:∀{a b:LP},(∀x∈a,okP x)->a.Perm b->a.Pairwise (λx y=>UZ x<=UZ y)->b.Pairwise (λx y=>UZ x<=UZ y)->a=b
 |[],b,_,p,_,_=>by rw[List.nil_perm.1 p]
 |x::a,[],_,p,_,_=>by have:=p.length_eq;simp at this
 |x::a,y::b,ok,p,ha,hb=>by
  have hx:UZ y<=UZ x:=by
   rcases QM.1 (p.mem_iff.1 (Qh ..))with e|e
   .rw[e];exact Jz _
   .exact(Jl.1 hb).1 x e
  have hy:UZ x<=UZ y:=by
   rcases QM.1 (p.mem_iff.2 (Qh ..))with e|e
   .rw[e];exact Jz _
   .exact(Jl.1 ha).1 y e
  have oky:okP y:=ok y (p.mem_iff.2 (Qh ..));have e:=El (ok x (Qh ..)) oky (JY hy hx);subst e;rw[PY (λz hz=>ok z (Qm _ hz)) (List.Perm.cons_inv p) (Jl.1 ha).2 (Jl.1 hb).2]
theorem Ek{qs:LP}{π:Bc}(ok:∀q∈qs,okP q)(h:VQ qs π):(π.map λi=>qs.getD i (0,0))=Vc qs:=by
 have hp:(π.map λi=>qs.getD i (0,0)).Perm qs:=by
  have h1:=h.1.map λi=>qs.getD i (0,0)
  have e:(Uj qs.length).map (λi=>qs.getD i (0,0))=qs:=by
   apply List.ext_getElem?;intro i;rw[Qj];by_cases hi:i<qs.length
   .rw[List.getElem?_range hi,List.getElem?_eq_getElem hi];simp[List.getD,List.getElem?_eq_getElem hi]
   .rw[Jd (by rw[QW];lia),Jd (by lia)];rfl
  rw[e]at h1;exact h1
 exact PY (λx hx=>ok x (hp.mem_iff.mp hx)) (hp.trans (DF qs).symm) h.2 (Dy qs)
noncomputable def okPB(q:Int×Int):Bool:=decide (-1000000<=q.2/\q.2<=1000000)
noncomputable def VZ:C7->Bb
 |[.list ds]=>(match WM ds with
  |some qs=>if qs.length<64/\qs.all okPB=C5 then O (.list ((Vc qs).map Zy))else C4
  |none=>C4)
 |_=>C4
theorem DE{xs:C7}{d:D}(h:VZ xs=O d):∃qs:LP,xs=[.list (qs.map Zy)]/\qs.length<64/\(∀q∈qs,okP q)/\d=.list ((Vc qs).map Zy):=by
 unfold VZ at h;split at h
 .rename_i ds
  cases z:WM ds with
  |none=>rw[z]at h;cases h
  |some qs=>
   rw[z]at h;dsimp only at h;split at h
   .rename_i c
    cases h;exact⟨qs,by rw[Nd z],c.1,λq hq=>(show -1000000<=q.2/\q.2<=1000000 from Qa (QZ.mp c.2 q hq)),rfl⟩
   .cases h
 .cases h
theorem Oo{K:Frag}{G:Hp}:∀{vs:List V}{qs:LP},Reps K G vs (qs.map Zy)->∃as:Be,vs=as.map V.ref/\as.length=qs.length/\∀(i:Nat) a q,as[i]?=O a->qs[i]?=O q->SqT K G a [.int q.1,.int q.2]
 |_,[],.nil=>⟨[],rfl,rfl,λi a q h=>by simp at h⟩
 |_,q::qs,.cons r t=>by
  obtain⟨as,rfl,hl,h⟩:=Oo t;obtain⟨a,ws,rfl,h1,r1⟩:=r.tup_inv;cases r1 with
  |cons ra rb=>
   obtain⟨v,rfl,rb'⟩:=rb.one_inv;refine⟨a::as,rfl,by simp[hl],λi a' q' e1 e2=>?_⟩;cases i with
   |zero=>cases e1;cases e2;rw[ra.int_inv,rb'.int_inv]at h1;exact h1
   |succ i=>exact h i a' q' (by simpa using e1) (by simpa using e2)
theorem Ej{K:Frag}{G:Hp}{a:Uc}{q:Int×Int}(h:SqT K G a [.int q.1,.int q.2]):Rep K G (.ref a) (Zy q):=.tup h (.cons (.int _) (.cons (.int _) .nil))
theorem On{K:Frag}{G:Hp}{as:Be}{qs:LP}(hl:as.length=qs.length)(h:∀(i:Nat) a q,as[i]?=O a->qs[i]?=O q->SqT K G a [.int q.1,.int q.2]):∀π:Bc,(∀i∈π,i<qs.length)->Reps K G (π.map λi=>V.ref (as.getD i 0)) ((π.map λi=>qs.getD i (0,0)).map Zy)
 |[],_=>.nil
 |i::π,hb=>by
  refine .cons ?_ (On hl h π λj hj=>hb j (Qm _ hj));have hi:=hb i Qh;refine Ej (h i _ _ ?_ ?_)
  .rw[List.getElem?_eq_getElem (by lia)];simp[List.getD,List.getElem?_eq_getElem (show i<as.length by lia)]
  .rw[List.getElem?_eq_getElem hi];simp[List.getD,List.getElem?_eq_getElem hi]
theorem Gy:ZW X (.builtin "sorted") VZ:=by refine⟨_,DG,λvs G H ds d Q s r e k=>?_⟩;obtain⟨qs,rfl,h64,ok,rfl⟩:=DE e;obtain⟨v,rfl,q1⟩:=r.one_inv;obtain⟨l,ws,rfl,h1,r1⟩:=q1.lst_inv;obtain⟨as,rfl,hl,ht⟩:=Oo r1;refine⟨l,as,qs,rfl,s.seq h1,hl,λi a q e1 e2=>ZB s (ht i a q e1 e2),ok,h64,λπ p hπ hp=>?_⟩;have hb:∀i∈π,i<qs.length:=λi hi=>QX.mp (hπ.1.mem_iff.mp hi);have rr:=(On hl ht π hb).mono (KB (s.free hp):Same G (upd G p (.lst (π.map λi=>V.ref (as.getD i 0)))));rw[Ek ok hπ]at rr;exact k _ _ _ (Ext.new s hp) (.lst (SqL.of Kd) rr)
theorem ZW.or{f:J9}{p q:C7->Bb}(h1:ZW X f p)(h2:ZW X f q):ZW X f (λxs=>(p xs).orElse λ_=>q xs):=by
 obtain⟨r1,c1,k1⟩:=h1;obtain⟨r2,c2,k2⟩:=h2;refine⟨λxs H Q=>r1 xs H Q∨r2 xs H Q,λpins s σ H xs us Q I rx h=>?_,λvs G H ds d Q s r e k=>?_⟩
 .rcases h with h|h
  .exact c1 pins s σ H xs us Q I rx h
  .exact c2 pins s σ H xs us Q I rx h
 .dsimp only at e
  cases z:p ds with
  |some d'=>rw[z]at e;cases e;exact .inl (k1 vs G H ds _ Q s r z k)
  |none=>rw[z]at e;exact .inr (k2 vs G H ds _ Q s r e k)
noncomputable def Wz(xs:C7):Bb:=(WK xs).orElse λ_=>VZ xs
theorem Lh:ZW X (.builtin "sorted") Wz:=HE.or Gy
theorem OP{ns:C8}(h:ns.length<64):Wz [.list (ns.map .int)]=O (.list ((Zo ns).map .int)):=by unfold Wz;rw[Dg h];rfl
end
section
variable{X:Cx}
noncomputable def YS:C7->Bb
 |[d]=>if d.canLay0=C5/\d.showable=C5/\d.hasDict=C6/\d.depth<=50/\d.shown.length<=1000000 then O (.str d.shown)else C4
 |_=>C4
theorem Dx(hu:X.A.units+64<cLine)(hg:X.A.guards=O []):ZC X (.builtin "repr") (λxs H Q=>∃G v d,xs=[v]/\Same G H/\Rep X.K G v d/\d.canLay0=C5/\d.showable=C5/\d.hasDict=C6/\d.depth<=50/\d.shown.length<=1000000/\Q (.str d.shown) H):=by
 intro pins s σ H xs us Q I rx h;obtain⟨G,v,d,rfl,sg,r,c1,c2,c3,c4,c5,q⟩:=h;obtain⟨u,rfl,ru⟩:=rx.one;obtain⟨as,ra⟩:=ZE I sg r ru c1;have fin:∀h'(t:Tok) tk,(∀b o,s.heap.get? b=O o->h'.get? b=O o)->EP X pins σ Q (.str d.shown t) {s with heap:=h',toks:=tk}:=λh' t tk hk=>⟨.str d.shown,H,I.kept hk,⟨t,rfl⟩,q⟩
 cases r with
 |non=>cases ru;exact P.repr_of_none (fin s.heap _ _ λ_ _ e=>e)
 |bl b=>cases ru;exact P.repr_of_bool (fin s.heap _ _ λ_ _ e=>e)
 |int i=>obtain⟨t,rfl⟩:=ru;exact P.repr_of_int (by have:(int i).showable=C5:=c2;simpa[PyData.showable]using this) (fin s.heap _ _ λ_ _ e=>e)
 |str x=>obtain⟨t,rfl⟩:=ru;exact P.repr_of_str (fin s.heap _ _ λ_ _ e=>e) (Qy c5 lim)
 |lst h r=>cases ru;exact repr_of_reads' ra c2 (λz=>by rw[c3]at z;cases z) hg (by lia) (λ_ _ e=>e) (λh' t tk hk=>fin h' t tk hk) (Qy c5 lim)
 |tup h r=>cases ru;exact repr_of_reads' ra c2 (λz=>by rw[c3]at z;cases z) hg (by lia) (λ_ _ e=>e) (λh' t tk hk=>fin h' t tk hk) (Qy c5 lim)
 |dic h=>cases c1
 |exc _ _ _ _=>cases c1
 |dct _ _ _ _ _=>cases c1
 |dtt _ _ _ _=>cases c1
theorem Lg(hu:X.A.units+64<cLine)(hg:X.A.guards=O []):ZW X (.builtin "repr") YS:=by
 refine⟨_,Dx hu hg,λvs G H ds d Q s r e k=>?_⟩;unfold YS at e;split at e
 .split at e
  .rename_i x c
   cases e;obtain⟨v,rfl,q1⟩:=r.one_inv;exact⟨G,v,_,rfl,s,q1,c.1,c.2.1,c.2.2.1,c.2.2.2.1,c.2.2.2.2,k _ G H (.refl s) (.str _)⟩
  .cases e
 .cases e
theorem Ch:bootBuiltins "repr" = O (.builtin "repr"):=by decide +kernel
theorem Ei{d:D}(c:d.canLay0=C5/\d.showable=C5/\d.hasDict=C6/\d.depth<=50/\d.shown.length<=1000000):YS [d]=O (.str d.shown):=by unfold YS;exact Qq c
end
section
variable{X:Cx}{B G0:Hp}{e o a b c tg:Ue}{pos p2:Pos}{es rest:Ba}{te to ti:TE}
noncomputable def Zs{β:Type}(p:D->D->Option β)(f:M D)(j:Nat):M β:=UM f λx=>λρ=>match ρ[j]? with
 |some (O (.pub d))=>UN (p x d) ρ
 |some (O (.own ds))=>UN (p x (.list ds)) ρ
 |_=>.bad
theorem Rt{K:Frag}{σ:St}{H:Hp}{p:D->D->Bi}{r:R2}{j:Nat}{f:M D}{Q:Bool->Hp->Prop}{QV:VK}(hq:∀t H3,Q t H3->QV (.bl t) H3)
  (hr:∀v u G H x y d Q,Same G H->Rep K G v x->Rep K G u y->p x y=O d->Q (.bl d) H->r v u H Q)
  (q:tBo K B G0 (Zs p f j) σ H Q):tD K B G0 f σ H λx H1=>U2 j σ H1 λy H2=>r x y H2 QV:=by
 refine tM.one (R:=Rep K) q λv H2 G ρ x k rx a=>?_
 cases z:ρ[j]? with
 |none=>rw[z]at a;exact a.elim
 |some o=>
  cases o with
  |none=>rw[z]at a;exact a.elim
  |some sl=>
   cases sl with
   |deep _ _=>rw[z]at a;exact a.elim
   |pub d=>rw[z]at a;dsimp only at a;obtain⟨d',e',a'⟩:=aft.opt a;obtain⟨u,h1,h2⟩:=k.pub j d z;exact⟨u,h1,hr v u G H2 x d d' _ k.gh rx h2 e' (hq _ _ (a' d' G H2 k (.refl _) C3))⟩
   |own ds=>rw[z]at a;dsimp only at a;obtain⟨d',e',a'⟩:=aft.opt a;obtain⟨ad,vs,h1,h2,h3,h4,h5⟩:=k.own j ds z;exact⟨.ref ad,h1,hr v (.ref ad) H2 H2 x (.list ds) d' _ (.refl _) (rx.mono k.gh) (.lst (SqL.of h4) (h5.mono k.gh)) e' (hq _ _ (a' d' G H2 k (.refl _) C3))⟩
theorem Gx{op:CmpOp}{p:D->D->Bi}{j:Nat}{f:M D}(o:OpB X (Ui op) p)(ha:PE X a (tD X.K B G0 f))(hb:PE X b (U2 j))(hm:behindInMarks op b=C6) :
  PT X (.Compare a [op] [b] pos) (tBo X.K B G0 (Zs p f j)):=by
 obtain⟨r,h,i⟩:=o;exact Ze (Sw h ha hb hm) λσ H Q q=>Rt (λt H3 z=>⟨t,rfl,z⟩) i q
theorem Gw{op:CmpOp}{p:D->D->Bi}{j:Nat}{f:M D}(o:OpB X (Ui op) p)(ha:PE X a (tD X.K B G0 f))(hb:PE X b (U2 j))(hm:behindInMarks op b=C6) :
  PE X (.Compare a [op] [b] pos) (tD X.K B G0 (UL Um (Zs p f j))):=by
 obtain⟨r,h,i⟩:=o;exact UR (PD h ha hb hm) λσ H Q q=>Rt (λt H3 z=>z) i (tBo.val q)
theorem Gv{β:Type}{p:D->D->Option β}{f:M D}{j:Nat}{ρ ρ1:UA}{x d:D}{r:β}(h1:f ρ=.ok x ρ1)(h2:ρ1[j]?=O (O (.pub d)))(h3:p x d=O r):Zs p f j ρ=.ok r ρ1:=by unfold Zs;exact Kb h1 (by rw[h2];exact KR h3)
theorem Tg{β:Type}{p:D->D->Option β}{f:M D}{j:Nat}{ρ ρ1:UA}{x:D}{ds:C7}{r:β}(h1:f ρ=.ok x ρ1)(h2:ρ1[j]?=O (O (.own ds)))(h3:p x (.list ds)=O r):Zs p f j ρ=.ok r ρ1:=by unfold Zs;exact Kb h1 (by rw[h2];exact KR h3)
end
noncomputable def Vh(ρ:UA)(j:Nat):Bb:=match ρ[j]? with
 |some (O (.pub d))=>O d
 |some (O (.own ds))=>O (.list ds)
 |some (O (.deep _ d))=>O d
 |_=>C4
theorem EOk.tree{K:Frag}{B G0 G H:Hp}{σ:St}{ρ:UA}{j:Nat}{d:D}(k:EOk K B G0 G H σ ρ)(h:Vh ρ j=O d):∃v,σ[j]?=O (O v)/\Rep K H v d:=by
 unfold Vh at h;split at h
 .rename_i d' e
  cases h;obtain⟨v,h1,h2⟩:=k.pub j _ e;exact⟨v,h1,h2.mono k.gh⟩
 .rename_i ds e
  cases h;obtain⟨a,vs,h1,h2,h3,h4,h5⟩:=k.own j ds e;exact⟨.ref a,h1,.lst (SqL.of h4) (h5.mono k.gh)⟩
 .rename_i p d' e
  cases h;obtain⟨ω,k1,k2⟩:=k.dp;obtain⟨v,fp,s,r,_⟩:=k1 j p _ e;exact⟨v,s,r.rep k.gh⟩
 .cases h
end DL
namespace HT
open PySem PyProof.Rows
end HT
namespace DL
open PySem PySem.Spec L2
open PyProof.Rows hiding St
end DL
namespace DL
open PySem
theorem lz0{P:C9->Prop}{us:C9}(hl:us.length=0)(h:P []):P us:=by
 cases us with
 |nil=>exact h
 |cons a r=>cases hl
theorem lzS{P:C9->Prop}{us:C9}{n:Nat}(hl:us.length=n+1)(h:∀a r,r.length=n->P (a::r)):P us:=by
 cases us with
 |nil=>cases hl
 |cons a r=>exact h a r (Nat.succ.inj hl)
theorem lz1{P:C9->Prop}{us:C9}(hl:us.length=1)(h:∀a,P [a]):P us:=lzS hl λa r e=>lz0 (P:=λr=>P (a::r)) e (h a)
theorem lz2{P:C9->Prop}{us:C9}(hl:us.length=2)(h:∀a b,P [a,b]):P us:=lzS hl λa r e=>lz1 (P:=λr=>P (a::r)) e (h a)
theorem lz3{P:C9->Prop}{us:C9}(hl:us.length=3)(h:∀a b c,P [a,b,c]):P us:=lzS hl λa r e=>lz2 (P:=λr=>P (a::r)) e (h a)
theorem lz4{P:C9->Prop}{us:C9}(hl:us.length=4)(h:∀a b c d,P [a,b,c,d]):P us:=lzS hl λa r e=>lz3 (P:=λr=>P (a::r)) e (h a)
theorem lz5{P:C9->Prop}{us:C9}(hl:us.length=5)(h:∀a b c d e,P [a,b,c,d,e]):P us:=lzS hl λa r e=>lz4 (P:=λr=>P (a::r)) e (h a)
theorem bz1{fd:Ud}{ps:List Str}{us:C9}(hl:us.length=1)(h:∀a,bindArgs fd {pos:=[a]}=pure (ps.zip [a])):bindArgs fd {pos:=us}=pure (ps.zip us):=lz1 (P:=λus=>bindArgs fd {pos:=us}=pure (ps.zip us)) hl h
theorem bz2{fd:Ud}{ps:List Str}{us:C9}(hl:us.length=2)(h:∀a b,bindArgs fd {pos:=[a,b]}=pure (ps.zip [a,b])):bindArgs fd {pos:=us}=pure (ps.zip us):=lz2 (P:=λus=>bindArgs fd {pos:=us}=pure (ps.zip us)) hl h
theorem bz3{fd:Ud}{ps:List Str}{us:C9}(hl:us.length=3)(h:∀a b c,bindArgs fd {pos:=[a,b,c]}=pure (ps.zip [a,b,c])):bindArgs fd {pos:=us}=pure (ps.zip us):=lz3 (P:=λus=>bindArgs fd {pos:=us}=pure (ps.zip us)) hl h
theorem bz5{fd:Ud}{ps:List Str}{us:C9}(hl:us.length=5)(h:∀a b c d e,bindArgs fd {pos:=[a,b,c,d,e]}=pure (ps.zip [a,b,c,d,e])):bindArgs fd {pos:=us}=pure (ps.zip us):=lz5 (P:=λus=>bindArgs fd {pos:=us}=pure (ps.zip us)) hl h
end DL
namespace DL
open PySem PySem.Spec L2
open PyProof.Rows hiding St
noncomputable def whole(h:Heap):Frag:=(Uj h.objs.size).filterMap λa=>(h.get? a).map λo=>(a,o)
theorem Om{g:Uc->Option Obj}{x:Uc}:∀l:Be,(l.filterMap λa=>(g a).map λo=>(a,o)).lookup x=if x∈l then g x else C4
 |[]=>rfl
 |y::l=>by
  have ih:=Om (g:=g) (x:=x) l;by_cases e:x=y
  .subst e
   rw[Qq Qh];cases z:g x with
   |none=>rw[List.filterMap_cons_none (by rw[z];rfl),ih,z];split<;>rfl
   |some o=>rw[List.filterMap_cons_some (by rw[z];rfl),QR,beq_self_eq_true]
  .have m:(x∈y::l)=(x∈l):=by simp[List.mem_cons,e]
   have b:(x==y)=C6:=by simpa using e
   have ih':(if x∈y::l then g x else C4)=_:=(by simp only[m];exact ih.symm)
   rw[ih'];cases z:g y with
   |none=>rw[List.filterMap_cons_none (by rw[z];rfl)]
   |some o=>rw[List.filterMap_cons_some (by rw[z];rfl),QR,b]
theorem Tw{h:Heap}{a:Uc}:(whole h).lookup a=h.get? a:=by
 unfold whole;rw[Om];split
 .rfl
 .rename_i n
  cases z:h.get? a with
  |none=>rfl
  |some o=>exact absurd (QX.mpr (Qi z)) n
theorem Eh(h:Heap):(whole h).In h:=λa o e=>by rw[Tw]at e;exact e
noncomputable def My(st:Stmt):Option DefRec:=match st with
 |.FunctionDef name a b _ _ _ sc _ _ pos=>O ⟨name,a,b,sc,pos⟩
 |_=>C4
noncomputable def Vg(st:Stmt):Option Str:=match st with
 |.FunctionDef name _ _ _ _ _ _ _ _ _=>O name
 |_=>C4
noncomputable def Mx(st:Stmt):Pos:=match st with
 |.FunctionDef _ _ _ _ _ _ _ _ _ pos=>pos
 |_=>⟨0,0,0,0⟩
noncomputable abbrev U7(p:Ub)(i:Nat):Stmt:=p.main.body.getD i (.Pass ⟨0,0,0,0⟩)
noncomputable def XT(p:Ub)(ix:Bc):List DefRec:=ix.filterMap λi=>My (U7 p i)
section
variable{p q:Ub}{loose:List Str}{mean:ExcName->Bd}{mg mb:Str->Bd}{h:Heap}{w:World}
theorem VY{ix:Bc}(T:Top q loose mean mg mb h)(e:recsOf q=XT p ix)(i:Nat)(x:Str)(hi:ix.contains i=C5)(hn:Vg (U7 p i)=O x):∃f fd,mg x=O (.ref f)/\Fun (whole h) x x (U7 p i) f fd:=by
 cases hs:U7 p i with
 |FunctionDef name a b _ _ _ sc _ _ pos=>
  rw[hs]at hn;cases hn;have hd:(⟨x,a,b,sc,pos⟩:DefRec)∈recsOf q:=by rw[e];exact List.mem_filterMap.mpr ⟨i,by simpa using hi,by rw[hs];rfl⟩
  obtain⟨f,⟨oc,od,dt,osl⟩,pm,cd,doc,h1,h2,h3,h4⟩:=T.fn _ hd;have h3:dt=_:=h3;subst h3;refine⟨f,_,h1,⟨⟨oc,od,.none,doc,pm,_,cd,_,osl,rfl,by rw[Tw];exact h2,?_⟩,?_⟩⟩
  .obtain⟨c,⟨_,_,dc,_⟩,vs,t,rfl,g1,g2,g3⟩:=h4
   have g2:dc=_:=g2;subst g2;unfold PySem.W.codeIn;dsimp only;rw[Tw,g1];dsimp only;have g4:vs.toList[1]?=O (.str x t):=by rw[Array.getElem?_toList];exact g3
   cases hv:vs.toList with
   |nil=>rw[hv]at g4;cases g4
   |cons v0 r=>
    rw[hv]at g4;cases r with
    |nil=>cases g4
    |cons v1 r=>cases g4;exact beq_self_eq_true _
  .unfold PySem.W.keepIn
   dsimp only;rw[Tw,h2]
 |_=>rw[hs]at hn;cases hn
theorem Dw{K:Frag}{x qual y:Str}{st:Stmt}{f:Uc}{fd:Ud}(F:Fun K x qual st f fd)
  (hb:∀(kV doc pm:J9)(an:Bk)(cdv ct v:J9),bindArgs (PySem.W.fnOf x qual (XH st) (ZY st) (Kw st) .none kV doc pm an cdv ct) ⟨[v],[]⟩=pure [(y,v)]) (s:Ua) (v:J9):BindsTo s fd ⟨[v],[]⟩ [(y,v)]:=by
 obtain⟨oc,od,kV,doc,pm,an,cdv,ct,osl,rfl,lk,hcd⟩:=F.ex;exact .of_eq (hb kV doc pm an cdv ct v)
noncomputable def VP(q:Ub)(loose:List Str)(x:Str):Bool:=
 !startupNames.contains x && !loose.contains x && !((recsOf q).map (·.name)).contains x && !((litsOf q).map (·.1)).contains x && !((clssOf q loose).map (·.name)).contains x
theorem ZI(T:Top q loose mean mg mb h){xs:List Str}(e:xs.all (VP q loose)=C5){x:Str}(hx:x∈xs):mg x=C4:=by have:=QZ.mp e x hx;unfold VP at this;simp only[QQ,Bool.not_eq_true',List.contains_eq_mem,decide_eq_false_iff_not]at this;exact T.free x this.1.1.1.1 this.1.1.1.2 this.1.1.2 this.1.2 this.2
theorem Tv(T:Top q loose mean mg mb h){x:Str}{i:Int}(e:valOf q x=O (.int i)):∃t,mg x=O (.int i t):=by obtain⟨v,h1,h2⟩:=T.const x _ e;have:=h2 h;cases this;exact⟨_,h1⟩
end
noncomputable def scOk(sc:Scope)(N gl:List Str):Bool:=(N.all λx=>match sc.names.lookup x with|some .local=>C5|some .cell=>C5|_=>C6)&&gl.all λx=>match sc.names.lookup x with|some .globalImplicit=>C5|_=>C6
noncomputable def fnB(sc:Scope)(N gl:List Str):Bool:=decide (sc.kind=.function) && !sc.isCoroutine && !sc.isGenerator&&decide N.Nodup&&(sc.names.all λy=>match y.2 with | .free=>C6|_=>C5)&&scOk sc N gl
structure FnNm(sc:Scope)(N gl:List Str):Prop where
 kind:sc.kind=.function
 co:sc.isCoroutine=C6
 gen:sc.isGenerator=C6
 nd:N.Nodup
 nofree:∀y∈sc.names,y.2≠.free
 nm:∀x∈N,sc.names.lookup x=O .local∨sc.names.lookup x=O .cell
 gl:∀x∈gl,sc.names.lookup x=O .globalImplicit
theorem Za{sc:Scope}{N gl:List Str}(H:fnB sc N gl=C5):FnNm sc N gl:=by
 unfold fnB scOk at H;simp only[QQ,Jh,Bool.not_eq_true',QZ]at H;obtain⟨⟨⟨⟨⟨h1,h2⟩,h3⟩,h4⟩,h5⟩,h6,h7⟩:=H;refine⟨h1,h2,h3,h4,λy hy e=>?_,λx hx=>?_,λx hx=>?_⟩
 .have:=h5 y hy;rw[e]at this;cases this
 .have:=h6 x hx
  split at this
  .rename_i e;exact .inl e
  .rename_i e;exact .inr e
  .cases this
 .have:=h7 x hx
  split at this
  .rename_i e;exact e
  .cases this
section
variable{sc:Scope}{N gl:List Str}{x:Str}
theorem fq(H:FnNm sc N gl)(n:Nat):X0 N (N.take n) sc:=⟨H.kind,H.co,H.gen,H.nd,by rw[Jt,List.take_eq_take_iff];lia,λx hx=>H.nm x (List.mem_of_mem_take hx),H.nofree⟩
theorem lq(H:FnNm sc N gl)(i:Nat)(h:N[i]?=O x:=by rfl):L2.Loc sc x:=H.nm x (Qt h)
theorem pq{X:Cx}{pos:Pos}(H:FnNm X.env.scope X.N gl)(i:Nat)(h:X.N[i]?=O x:=by rfl)(hd:(x==("__debug__" : Str))=C6:=by decide)(hc:(x==("__classdict__" : Str))=C6:=by decide):PE X (.Name x pos) (U2 i):=
 RV h ((H.nm x (Qt h)).elim .inl λz=>.inr (.inl z)) hd hc
end
theorem Zr{q p:Ub}{loose:List Str}{mean:ExcName->Bd}{mg mb:Str->Bd}{h:Heap}{ix:Bc}(P:Ub)(w:World)(base:Heap){ps:List Str}{k n:Nat}{F:C7->Bb}(T:Top q loose mean mg mb h)(e:recsOf q=XT p ix)(i:Nat)(x:Str)(hi:ix.contains i=C5)(hn:Vg (U7 p i)=O x)
  (ok:∀{f:Uc}{fd:Ud},Fun (whole h) x x (U7 p i) f fd->FnOk P w (whole h) mg base CX0 k f fd ps (spD (whole h) n F))
  (hb:∀(kV doc pm:J9)(an:Bk)(cdv ct:J9)(us:C9),us.length=ps.length->bindArgs (PySem.W.fnOf x x (XH (U7 p i)) (ZY (U7 p i)) (Kw (U7 p i)) .none kV doc pm an cdv ct) ⟨us,[]⟩=pure (ps.zip us)):Def P w (whole h) mg base x k n F:=by
 obtain⟨f,fd,m,FU⟩:=VY T e i x hi hn;exact Def.mk m FU (FU.binds hb) (ok FU)
section
variable{X:Cx}{B G0:Hp}{e:Ue}{pos:Pos}{es:Ba}
theorem pdf{k kk n:Nat}{F:C7->Bb}{g:M C7}{x:Str}{p2:Pos}(d:Def X.prog X.w X.K X.mg X.base x k n F)(hr:Room kk X.A)(hg:Gl X x)(ha:PA X (e::es) (tDs X.K B G0 g))(hk:k<=kk:=by decide)(hn:(e::es).length=n:=by rfl)
  (hdb:(x==("__debug__" : Str))=C6:=by decide) (he:Uh (e::es) X.env=(C6,eval e X.env)::Uh es X.env:=by rfl) (hpl:(backTo pos (Uh es X.env)).any (·.1)=C6:=by rfl) :
  PE X (.Call (.Name x p2) (e::es) [] pos) (tD X.K B G0 (UQ n F g)):=HM d (hr.mono hk) hg ha hn hdb he hpl
end
theorem Mw{q p:Ub}{loose:List Str}{mean:ExcName->Bd}{mg mb:Str->Bd}{h:Heap}{ix:Bc}{P:Ub}{w:World}{k:Nat}{F:C7->Bb}{y:Str}{fa:Uc}(T:Top q loose mean mg mb h)(e:recsOf q=XT p ix)(i:Nat)(x:Str)(hi:ix.contains i=C5)(hn:Vg (U7 p i)=O x)(hfa:mg x=O (.ref fa))
  (hb:∀(kV doc pm:J9)(an:Bk)(cdv ct v:J9),bindArgs (PySem.W.fnOf x x (XH (U7 p i)) (ZY (U7 p i)) (Kw (U7 p i)) .none kV doc pm an cdv ct) ⟨[v],[]⟩=pure [(y,v)])
  (ok:∀(base:Heap){f:Uc}{fd:Ud},Fun (whole h) x x (U7 p i) f fd->FnOk P w (whole h) mg base CX0 k f fd [y] (spD (whole h) 1 F)) :
  ∃fd:Ud,(∀(s:Ua)(v:J9),BindsTo s fd ⟨[v],[]⟩ [(y,v)])/\∀base:Heap,FnOk P w (whole h) mg base CX0 k fa fd [y] (spD (whole h) 1 F):=by
 obtain⟨f,fd,m,FU⟩:=VY T e i x hi hn;cases hfa.symm.trans m;exact⟨fd,Dw FU hb,λbase=>ok base FU⟩
theorem Eg{l:PySem.W.OpenLaw}{n k:Nat}{q:Ub}{loose:List Str}{XP:(Str->Bd)->Heap->Prop}{YP:World->Heap->Prop}{d:DefRec}{F:C7->Bb}{x:Str}
  (hn:l.most=O n) (hn2:n<=Uf) (hdf:d.params.defaults=[]) (hr:Room k callerA)
  (hF:∀(w:World)(s₀:Ua)(mg mb:Str->Bd)(fa:Uc)(h:Heap),PySem.W.Ground q loose [] XP w s₀ mg mb h->mg d.name=O (.ref fa) ->
   ∃fd:Ud,(∀(s:Ua)(u:J9),BindsTo s fd ⟨[u],[]⟩ [(x,u)])/\∀base:Heap,FnOk l.prog w (whole h) mg base CX0 k fa fd [x] (spD (whole h) 1 F))
  (hl:∀ns:C8,ns.length<=n->F [.list (ns.map int)]=O (.bool C5)) :
  PySem.W.WalkO q loose XP YP l.row.toRowW d [] (λf vs=>PySem.call f vs):=by
 refine Att.attach_call hn hdf λw s₀ s₁ mg mb fa o pm cd doc a vs ns G Y ho hd hcd hmg hobj hints hlen hg=>?_
 obtain⟨fd,hb,hF⟩:=hF w s₀ mg mb fa _ G hmg;exact EZ (Eh _) G.T.g G.T.b G.T.builtins G.T.nolimit hg hobj hints (Qy hlen hn2) hr (λbase _ _=>hF base) hb (λH hO hS=>ML hS (hl ns hlen)) λH e s' z=>z
section
variable{α β:Type}{ρ ρ1 ρ2 ρ3 ρ':UA}{f:M D}{s t:SM}{Q:Out->Prop}{d:D}{ds fs:C7}{nm x:Str}{o:Out}
theorem Ef{c:String}{t:Bool}(h:f ρ=.ok d ρ1)(ht:U3 d c=t):UL (λd=>Um (U3 d c)) f ρ=.ok (Um t) ρ1:=by subst ht;exact K4 (k:=λd=>Um (U3 d c)) h
theorem Lf{c:String}{kvs:List (D×D)}(h:f ρ=.ok (.dict kvs) ρ1)(hc:(("dict" == c) || ("" == c))=C6:=by decide):UL (λd=>Um (U3 d c)) f ρ=.ok (Um C6) ρ1:=Ef h (nty hc)
theorem PB{c:String}{kvs:List (D×D)}(h:f ρ=.ok (.dict kvs) ρ1)(hc:(("dict" == c) || ("" == c))=C6:=by decide):U9 (KU (UL (λd=>.bool (U3 d c)) f)) ρ=.ok C5 ρ1:=ZU h (by rw[nty hc];rfl)
end
end DL
namespace L2
open PySem PySem.Spec PyProof.Rows
end L2
namespace DL
open PySem PySem.Spec L2
open PyProof.Rows hiding St
noncomputable def ZA:D->Option Key
 |.int i=>O (.inl i)
 |.str x=>O (.inr x)
 |_=>C4
section
variable{K:Frag}{B G0 G H:Hp}{σ:St}{ρ:UA}
theorem PX{d:D}{k:Key}(h:ZA d=O k):d=kD k:=by
 cases d with
 |int i=>cases h;rfl
 |str x=>cases h;rfl
 |_=>cases h
theorem Rep.key_inv{v:V}{k:Key}(r:Rep K G v (kD k)):v=kV k:=by
 cases k with
 |inl i=>exact r.int_inv
 |inr x=>exact r.str_inv
theorem EOk.under{p:Uc}(k:EOk K B G0 G H σ ρ)(hp:H p=C4):EOk K (upd B p (.dK [])) G0 G (upd H p (.dK [])) σ ρ where
 bh:=λb o q=>by
  by_cases z:b=p
  .subst z;rw[Kd]at q⊢;exact q
  .rw[US z]at q⊢;exact k.bh b o q
 gh:=k.gh.trans (KB hp)
 g0:=k.g0
 np:=λa u q n=>by
  by_cases z:a=p
  .subst z;exact k.gh.free hp
  .rw[US z]at q;exact k.np a u q n
 len:=k.len
 pub:=k.pub
 own:=λi ds q=>by obtain⟨a,vs,h1,h2,h3,h4,h5⟩:=k.own i ds q;have z:a≠p:=KO h4 hp;exact⟨a,vs,h1,by rw[US z];exact h2,h3,by rw[US z];exact h4,h5⟩
 sep:=k.sep
 dp:=k.dp.map (λ_ _ _ q=>⟨q,rfl⟩) (λ_ ds q=>⟨ds,q,rfl⟩) λi pt d v fp q s r w n=>⟨r.mono (.refl _) (KB hp),λb m=>let ⟨_,hl⟩:=r.isl b m;⟨by rw[US (KO hl hp)];exact(w b m).1,(w b m).2⟩⟩
end
section
variable{X:Cx}{B G0:Hp}{KX:XW}{e o a b c:Ue}{pos p2:Pos}{es rest:Ba}
theorem Vr(k:Key):ZA (kD k)=O k:=by cases k<;>rfl
end
end DL
namespace DL
open PySem PySem.Spec L2 PySem.SeqAt PySem.AutoSeq1
open PyProof.Rows hiding St
end DL
namespace DL
open PySem PySem.Spec L2
open PyProof.Rows hiding St
end DL
namespace L2
open PySem PySem.Spec PyProof.Rows
end L2
namespace DL
open PySem PySem.Spec L2
open PyProof.Rows hiding St
end DL
namespace L2
open PySem PySem.Spec PyProof.Rows
end L2
namespace DL
open PySem PySem.Spec L2
open PyProof.Rows hiding St
noncomputable def spO(K:Frag)(n:Nat)(F:C7->Option C7):Sp:=λvs H Q _=>∃G ds r,vs.length=n/\Same G H/\Reps K G vs ds/\F ds=O r/\∀a ws G' H',Ext G H G' H'->H a=C4->G' a=C4->H' a=O (.lst ws)->Reps K G' ws r->Q (.ref a) H'
noncomputable def tSO(K:Frag)(B G0:Hp)(g:SM)(f:M C7):TS:=λDn σ H=>∃G ρ,EOk K B G0 G H σ ρ/\match g ρ with
 |.nx ρ1=>(match f ρ1 with
  |.ok ds _=>∀a vs G' H',Ext G0 B G' H'->B a=C4->G' a=C4->H' a=O (.lst vs)->Reps K G' vs ds->Dn.rt (.ref a) H'
  |.bad=>False)
 |.ro ds=>∀a vs G' H',Ext G0 B G' H'->B a=C4->G' a=C4->H' a=O (.lst vs)->Reps K G' vs ds->Dn.rt (.ref a) H'
 |_=>False
section
variable{X:Cx}{B G0:Hp}{e:Ue}{pos:Pos}{es:Ba}{st:Stmt}{sts:List Stmt}
theorem Le{f:M C7}(h:PE X e (tL X.K B G0 f)):PSs X [.Return (O e) pos] (tSO X.K B G0 sNx f):=Xs (XI (Vo h)) λD σ H ⟨G,ρ,k,a⟩=>by
 refine⟨G,ρ,k,?_⟩;dsimp only[sNx]at a;cases z:f ρ with
 |bad=>rw[z]at a;exact a.elim
 |ok ds ρ'=>rw[z]at a;exact λad vs G' H' k' s' n=>a ad vs G' H' k'.exit n.b n.g n.h n.r
theorem Gu{g h:SM}{f:M C7}(h1:PS X st (tS X.K B G0 KX0 g))(h2:PSs X sts (tSO X.K B G0 h f)):PSs X (st::sts) (tSO X.K B G0 (UD g h) f):=Xs (X9 h1 h2) λD σ H ⟨G,ρ,k,a⟩=>by
 refine⟨G,ρ,k,?_⟩;unfold UD at a;cases z:g ρ with
 |nx ρ1=>rw[z]at a;exact λσ' G' H' k' s'=>⟨G',ρ1,k',a⟩
 |rt d=>rw[z]at a;exact a.elim
 |ro ds=>rw[z]at a;exact a
 |bk ρ1=>rw[z]at a;exact a.elim
 |ct ρ1=>rw[z]at a;exact a.elim
 |ex ρ1 d=>rw[z]at a;exact a.elim
 |bad=>rw[z]at a;exact a.elim
noncomputable def Yt(N:List Str)(g:SM)(f:M C7)(ds:C7):Option C7:=match g (K5 N ds)with
 |.nx ρ=>(match f ρ with
  |.ok r _=>O r
  |.bad=>C4)
 |.ro ds=>O ds
 |_=>C4
theorem okO{P:Ub}{w:World}{K:Frag}{mg:Str->Bd}{base:Heap}{x qual:Str}{st:Stmt}{f:Uc}{fd:Ud}{N ps:List Str}{k n:Nat}{g:SM}{q:M C7}(F:Fun K x qual st f fd)(S:X0 N ps (Kw st))(hn:ps.length=n)
  (der:∀(cdv:J9)(A:Around)(outer:List Env)(s:Ua)(H:Hp)(E:XK)(B G0:Hp),Room k (A.deeper (envOfC qual (Kw st) s.heap.objs.size f cdv)) ->
   PSs (Zi CX0 P w K mg base N qual (Kw st) f cdv A outer s H E).nox (ZY st) (tSO K B G0 g q)):FnOk P w K mg base CX0 (k+1) f fd ps (spO K n (Yt N g q)):=by
 refine F.ok S (λvs H Q E h=>?_) (λcdv A outer s H vs Q E hr h=>?_)
 .obtain⟨_,_,_,hl,_⟩:=h
  rw[hl,hn]
 .obtain⟨G,ds,d,hl,sg,r,hF,qq⟩:=h
  refine⟨_,der cdv A outer s H E H G hr,G,K5 N ds,SE sg r,?_⟩;unfold Yt at hF;cases z:g (K5 N ds)with
  |nx ρ=>
   rw[z]at hF;dsimp only at hF⊢;cases z2:q ρ with
   |bad=>rw[z2]at hF;cases hF
   |ok d' ρ'=>rw[z2]at hF;cases hF;exact λa vs G' H' ex hb hg hh rr=>qq a vs G' H' ex hb hg hh rr
  |rt d'=>rw[z]at hF;cases hF
  |ro d'=>rw[z]at hF;cases hF;exact λa vs G' H' ex hb hg hh rr=>qq a vs G' H' ex hb hg hh rr
  |bk ρ=>rw[z]at hF;cases hF
  |ct ρ=>rw[z]at hF;cases hF
  |ex ρ d=>rw[z]at hF;cases hF
  |bad=>rw[z]at hF;cases hF
def Wy(P:Ub)(w:World)(K:Frag)(mg:Str->Bd)(base:Heap)(x:Str)(k n:Nat)(F:C7->Option C7):Prop:=
 ∃(f:Uc)(fd:Ud)(ps:List Str),mg x=O (.ref f)/\PySem.W.keepIn K (.ref f)=C5/\YG K fd ps []/\FnOk P w K mg base CX0 k f fd ps (spO K n F)
noncomputable def W3(n:Nat)(F:C7->Option C7)(g:M C7):M C7:=UM g λxs=>if xs.length=n then UN (F xs)else λ_=>.bad
theorem EG{k kk n:Nat}{F:C7->Option C7}{g:M C7}{x:Str}{p2:Pos}(d:Wy X.prog X.w X.K X.mg X.base x k n F)(hr:Room kk X.A)(hg:Gl X x)(ha:PA X (e::es) (tDs X.K B G0 g))(hk:k<=kk:=by decide)(hn:(e::es).length=n:=by rfl)
  (hdb:(x==("__debug__" : Str))=C6:=by decide) (he:Uh (e::es) X.env=(C6,eval e X.env)::Uh es X.env:=by rfl) (hpl:(backTo pos (Uh es X.env)).any (·.1)=C6:=by rfl) :
  PE X (.Call (.Name x p2) (e::es) [] pos) (tL X.K B G0 (W3 n F g)):=by
 obtain⟨f,fd,ps,h1,h2,h3,h4⟩:=d;refine UR (Sv h4 (hr.mono hk) hg h1 h2 h3 .nil TY ha hdb he hpl) λσ H Q ⟨G,ρ,kk0,a⟩=>?_
 refine⟨G,ρ,kk0,?_⟩;unfold W3 UM at a;cases z:g ρ with
 |bad=>rw[z]at a;exact a.elim
 |ok xs ρ1=>
  rw[z]at a;dsimp only at a⊢;intro vs G1 H1 k1 s1 r1;by_cases hl:xs.length=n
  .rw[Qq hl]at a
   unfold UN at a;cases zf:F xs with
   |none=>rw[zf]at a;exact a.elim
   |some r=>
    rw[zf]at a;dsimp only at a;refine⟨G1,xs,r,by rw[QS,r1.length];exact hl,k1.gh,by rw[QS];exact r1,zf,λad ws G' H' ex hh B5 hH rr=>?_⟩;refine a ad ws G' H' (k1.ext ex) (s1.trans ex.g) ⟨?_,B5,hH,rr,λj es q w=>?_,λj pt d v fp q s r=>k1.freshD ex.h hh q s r⟩
    .cases q:B ad with
     |none=>rfl
     |some u=>have:=k1.bh ad u q;rw[hh]at this;cases this
    .obtain⟨b,us,g1,g2,g3,g4,g5⟩:=k1.own j es q
     rw[g1]at w;cases w;rw[hh]at g4;cases g4
  .rw[QE hl]at a
   exact a.elim
end
theorem Ld{q p:Ub}{loose:List Str}{mean:ExcName->Bd}{mg mb:Str->Bd}{h:Heap}{ix:Bc}(P:Ub)(w:World)(base:Heap){ps:List Str}{k n:Nat}{F:C7->Option C7}(T:PyProof.Rows.Top q loose mean mg mb h)(e:recsOf q=XT p ix)(i:Nat)(x:Str)(hi:ix.contains i=C5)(hn:Vg (U7 p i)=O x)
  (ok:∀{f:Uc}{fd:Ud},Fun (whole h) x x (U7 p i) f fd->FnOk P w (whole h) mg base CX0 k f fd ps (spO (whole h) n F))
  (hb:∀(kV doc pm:J9)(an:Bk)(cdv ct:J9)(us:C9),us.length=ps.length->bindArgs (PySem.W.fnOf x x (XH (U7 p i)) (ZY (U7 p i)) (Kw (U7 p i)) .none kV doc pm an cdv ct) ⟨us,[]⟩=pure (ps.zip us)):Wy P w (whole h) mg base x k n F:=by
 obtain⟨f,fd,m,FU⟩:=VY T e i x hi hn;exact⟨f,fd,ps,m,FU.kp,FU.binds hb,ok FU⟩
theorem Gs{n:Nat}{F:C7->Option C7}{g:M C7}{ρ ρ1:UA}{xs r:C7}(h1:g ρ=.ok xs ρ1)(h2:xs.length=n)(h3:F xs=O r):W3 n F g ρ=.ok r ρ1:=by unfold W3 UM;rw[h1];dsimp only;rw[Qq h2,h3];rfl
theorem NG{N:List Str}{g:SM}{f:M C7}{ds r:C7}{ρ ρ1 ρ2:UA}(h0:K5 N ds=ρ)(h1:g ρ=.nx ρ1)(h2:f ρ1=.ok r ρ2):Yt N g f ds=O r:=by subst h0;unfold Yt;rw[h1];dsimp only;rw[h2]
end DL
namespace L2
open PySem PySem.Spec PyProof.Rows
end L2
namespace DL
open PySem PySem.Spec L2
open PyProof.Rows hiding St
theorem EOk.lent{K:Frag}{B G0 G H:Hp}{σ:St}{ρ:UA}(k:EOk K B G0 G H σ ρ):EOk K H H H H σ (U4 ρ) where
 bh:=.refl _
 gh:=.refl _
 g0:=.refl _
 np:=λ_ _ e n=>by rw[n]at e;cases e
 len:=by unfold U4;rw[Qd];exact k.len
 pub:=λi d e=>by
  rcases Oz e with e2|⟨ds,rfl,e2⟩|⟨p,e2⟩
  .exact k.tree (by unfold Vh;rw[e2])
  .exact k.tree (by unfold Vh;rw[e2])
  .exact k.tree (by unfold Vh;rw[e2])
 own:=λi ds e=>(WW e).elim
 sep:=λi j a ds es e=>(WW e).elim
 dp:=.of (λ_ _ _ q=>OU q) λ_ _ q=>WW q
theorem EOk.back{K:Frag}{B G0 G H H':Hp}{σ:St}{ρ:UA}(k:EOk K B G0 G H σ ρ)(e:Same H H'):EOk K B G0 G H' σ ρ:=k.ext ⟨e,.refl _,k.gh.trans e,λ_ _ _ n=>n⟩
noncomputable def WH(f:M Bool):M Bool:=λρ=>match f (U4 ρ)with
 |.ok b _=>.ok b ρ
 |.bad=>.bad
section
variable{X:Cx}{B G0:Hp}{KX:XW}{e a b c tg iter:Ue}{pos:Pos}
theorem Ee{f:M Bool}(h:∀B' G',PT X e (tBo X.K B' G' f)):PT X e (tBo X.K B G0 (WH f)):=by
 have h':PT X e (λσ H Q=>∃B' G',tBo X.K B' G' f σ H Q):=λpins s σ H Q I ⟨B',G',q⟩=>h B' G' pins s σ H Q I q;refine Ze h' λσ H Q ⟨G,ρ,k,a⟩=>⟨H,H,H,U4 ρ,k.lent,?_⟩;unfold WH at a
 cases z:f (U4 ρ)with
 |bad=>rw[z]at a;exact a.elim
 |ok t ρ'=>rw[z]at a;dsimp only at a⊢;exact λv G' H' k' s' r=>a v G H' (k.back k'.bh) (.refl _) r
end
theorem Gr{f:M Bool}{ρ ρ':UA}{b:Bool}(h:f (U4 ρ)=.ok b ρ'):WH f ρ=.ok b ρ:=by unfold WH;rw[h]
end DL
namespace L2
open PySem PySem.Spec PyProof.Rows
end L2
namespace DL
open PySem PySem.Spec L2
open PyProof.Rows hiding St
end DL
namespace L2
open PySem PySem.Spec PyProof.Rows
end L2
namespace DL
open PySem PySem.Spec L2
open PyProof.Rows hiding St
theorem Vf{α:Type}(a:α):[a].Nodup:=by simp
section
variable{K:Frag}{B G0 G H:Hp}{σ:St}{ρ:UA}
structure NewT(K:Frag)(B G H:Hp)(σ:St)(ρ:UA)(pt:Pat)(v:V)(d:D)(fp:Be):Prop where
 r:RepO K G H pt v d fp
 nd:fp.Nodup
 b:∀a∈fp,B a=C4/\G a=C4
 f:∀a∈fp,∀(j:Nat) es,ρ[j]?=O (O (.own es))->σ[j]?≠O (O (.ref a))
 dp:∀a∈fp,∀(j:Nat) p d v fp',ρ[j]?=O (O (.deep p d))->σ[j]?=O (O v)->RepO K G H p v d fp'->a∉fp'
theorem EOk.setDeep{i:Nat}{pt:Pat}{v:V}{d:D}{fp:Be}(k:EOk K B G0 G H σ ρ)(n:NewT K B G H σ ρ pt v d fp)(hi:i<ρ.length):EOk K B G0 G H (σ.set i (O v)) (ρ.set i (O (.deep pt d))) where
 bh:=k.bh
 gh:=k.gh
 g0:=k.g0
 np:=k.np
 len:=by rw[QH,QH];exact k.len
 pub:=λj d' q=>by
  by_cases z:i=j
  .subst z;have:=Kk q;cases this
  .rw[Qf z]at q⊢
   exact k.pub j d' q
 own:=λj es q=>by
  by_cases z:i=j
  .subst z;have:=Kk q;cases this
  .rw[Qf z]at q⊢
   exact k.own j es q
 sep:=λj l c es fs q1 q2 s1 s2=>by
  have z1:i≠j:=λz=>by subst z;have:=Kk q1;cases this
  have z2:i≠l:=λz=>by subst z;have:=Kk q2;cases this
  rw[Qf z1]at q1 s1;rw[Qf z2]at q2 s2;exact k.sep j l c es fs q1 q2 s1 s2
 dp:=by
  obtain⟨ω,k1,k2⟩:=k.dp;have hs:i<σ.length:=by rw[←k.len];exact hi
  refine⟨λb=>if b∈fp then i else ω b,λj p d' q=>?_,λj es b q s=>?_⟩
  .by_cases z:i=j
   .subst z
    have:=Kk q;cases this;exact⟨v,fp,QD hs,n.r,n.nd,λa m=>⟨(n.b a m).1,(n.b a m).2,Qq m⟩⟩
   .rw[Qf z]at q⊢
    obtain⟨v',fp',s,r,nn,w⟩:=k1 j p d' q;refine⟨v',fp',s,r,nn,λb m=>⟨(w b m).1,(w b m).2.1,?_⟩⟩;dsimp only;rw[QE (λz=>n.dp b z j p d' v' fp' q s r m)];exact(w b m).2.2
  .by_cases z:i=j
   .subst z;have:=Kk q;cases this
   .rw[Qf z]at q s
    dsimp only;rw[QE (λz=>n.f b z j es q s)];exact k2 j es b q s
theorem EOk.newT{G' H':Hp}{pt:Pat}{v:V}{d:D}{fp:Be}(k1:EOk K B G0 G H σ ρ)(sh:Same H H')(r:RepO K G' H' pt v d fp)(nd:fp.Nodup)(fr:∀a∈fp,H a=C4/\G' a=C4):NewT K B G' H' σ ρ pt v d fp where
 r:=r
 nd:=nd
 b:=λa m=>⟨k1.bh.free (fr a m).1,(fr a m).2⟩
 f:=λa m j es q w=>by obtain⟨b,us,g1,g2,g3,g4,g5⟩:=k1.own j es q;rw[g1]at w;cases w;rw[(fr a m).1]at g4;cases g4
 dp:=λa m j p d v fp' q s r=>k1.freshD sh (fr a m).1 q s r
theorem EOk.forget{i:Nat}(k:EOk K B G0 G H σ ρ):EOk K B G0 G H σ (ρ.set i C4):=by
 have nz:∀{m:Nat}{s:Sl},(ρ.set i C4)[m]?=O (O s)->ρ[m]?=O (O s):=λ{m s} q=>by
  by_cases z:i=m
  .subst z;have:=Kk q;cases this
  .rw[Qf z]at q;exact q
 exact⟨k.bh,k.gh,k.g0,k.np,by rw[QH];exact k.len,λj d q=>k.pub j d (nz q),λj ds q=>k.own j ds (nz q),λj l c es fs q1 q2 s1 s2=>k.sep j l c es fs (nz q1) (nz q2) s1 s2,
  k.dp.map (λm p d q=>⟨nz q,rfl⟩) (λm es q=>⟨es,nz q,rfl⟩) λm p d v fp q s r w n=>⟨r,w⟩⟩
theorem RepOl.leaf:∀{vs:List V}{ds:C7},Reps K G vs ds->RepOl K G H .leaf vs ds []
 |_,_,.nil=>.nil
 |_,_,.cons h t=>.cons (f1:=[]) (f2:=[]) (.leaf h) (RepOl.leaf t)
theorem RepOl.append{p:Pat}:∀{vs ws:List V}{ds es:C7}{f1 f2:Be},RepOl K G H p vs ds f1->RepOl K G H p ws es f2->RepOl K G H p (vs++ws) (ds++es) (f1++f2)
 |_,_,_,_,_,_,.nil,s=>s
 |_,_,_,_,_,_,.cons r t,s=>by rw[QY];exact .cons r (RepOl.append t s)
theorem RepOl.length{p:Pat}:∀{vs:List V}{ds:C7}{fp:Be},RepOl K G H p vs ds fp->vs.length=ds.length
 |_,_,_,.nil=>rfl
 |_,_,_,.cons _ t=>by rw[Qz,Qz,RepOl.length t]
noncomputable def Zn(ρ:UA)(i:Nat):Option (Pat×D):=match ρ[i]? with
 |some (O (.own ds))=>O (.lst .leaf,.list ds)
 |some (O (.deep p d))=>O (p,d)
 |_=>C4
theorem EOk.slots(k:EOk K B G0 G H σ ρ):∃ω:Uc->Nat,∀(i:Nat) p d,Zn ρ i=O (p,d)->∃v fp,σ[i]?=O (O v)/\RepO K G H p v d fp/\fp.Nodup/\∀a∈fp,B a=C4/\G a=C4/\ω a=i:=by
 obtain⟨ω,k1,k2⟩:=k.dp;refine⟨ω,λi p d h=>?_⟩;unfold Zn at h;split at h
 .rename_i ds q
  cases h;obtain⟨a,vs,h1,h2,h3,h4,h5⟩:=k.own i ds q;refine⟨.ref a,[a],h1,.lst h4 (.leaf h5),Vf a,λb m=>?_⟩;rw[Qw.mp m];exact⟨h2,h3,k2 i ds a q h1⟩
 .rename_i p' d' q
  cases h;exact k1 i p d q
 .cases h
theorem EOk.mutD{j:Nat}{p:Pat}{d d':D}{v:V}{fp fp':Be}{a:Uc}{o:HO}(k:EOk K B G0 G H σ ρ)(hd:ρ[j]?=O (O (.deep p d)))(hv:σ[j]?=O (O v))(r:RepO K G H p v d fp)(ha:a∈fp)
  (r':RepO K G (upd H a o) p v d' fp') (BW:fp'.Nodup) (sub:∀b∈fp',b∈fp):EOk K B G0 G (upd H a o) σ (ρ.set j (O (.deep p d'))):=by
 obtain⟨ω,k1,k2⟩:=k.dp;obtain⟨v0,fp0,s0,r0,n0,w0⟩:=k1 j p d hd;rw[hv]at s0;cases s0;have e0:=r0.uniq (.refl _) r;subst e0;obtain⟨hb,hg,hw⟩:=w0 a ha;obtain⟨ws,hl⟩:=r.isl a ha;have nt:∀vs,H a≠O (.tup vs):=λvs z=>by rw[hl]at z;cases ws<;>cases z
 have Ac:j<ρ.length:=(Qg.mp hd).1;have nz:∀{m:Nat}{s:Sl},j≠m->(ρ.set j (O (.deep p d')))[m]?=O (O s)->ρ[m]?=O (O s):=λ{m s} z q=>by rw[Qf z]at q;exact q
 refine⟨λb u e=>?_,λb u e=>?_,k.g0,k.np,by rw[QH];exact k.len,λm dm e=>?_,λm es e=>?_,λm l c es fs q1 q2 s1 s2=>?_,ω,λm pm dm e=>?_,λm es b e s=>?_⟩
 .rw[US (KO e hb)];exact k.bh b u e
 .rw[US (KO e hg)];exact k.gh b u e
 .by_cases z:j=m
  .subst z;have:=Kk e;cases this
  .exact k.pub m dm (nz z e)
 .by_cases z:j=m
  .subst z;have:=Kk e;cases this
  .have e:=nz z e
   obtain⟨c,us,g1,g2,g3,g4,g5⟩:=k.own m es e;have zc:c≠a:=λw=>by subst w;exact z (hw.symm.trans (k2 m es c e g1))
   exact⟨c,us,g1,g2,g3,by rw[US zc];exact g4,g5⟩
 .have z1:j≠m:=λz=>by subst z;have:=Kk q1;cases this
  have z2:j≠l:=λz=>by subst z;have:=Kk q2;cases this
  exact k.sep m l c es fs (nz z1 q1) (nz z2 q2) s1 s2
 .by_cases z:j=m
  .subst z
   have:=Kk e;cases this;exact⟨v,fp',hv,r',BW,λb mb=>w0 b (sub b mb)⟩
  .obtain⟨vm,fm,sm,rm,nm,wm⟩:=k1 m pm dm (nz z e)
   exact⟨vm,fm,sm,rm.upd nt (λmm=>z (hw.symm.trans (wm a mm).2.2)),nm,wm⟩
 .have z:j≠m:=λz=>by subst z;have:=Kk e;cases this
  exact k2 m es b (nz z e) s
theorem EOk.mutM{j i:Nat}{p:Pat}{d d':D}{v:V}{fp fp':Be}{ds:C7}{a b0:Uc}{o:HO}(k:EOk K B G0 G H σ ρ)(hd:ρ[j]?=O (O (.deep p d)))(hv:σ[j]?=O (O v))(r:RepO K G H p v d fp)(ha:a∈fp)
  (hi:ρ[i]?=O (O (.own ds))) (hb0:σ[i]?=O (O (.ref b0))) (r':RepO K G (upd H a o) p v d' fp') (BW:fp'.Nodup) (sub:∀b∈fp',b∈fp∨b=b0):EOk K B G0 G (upd H a o) σ ((ρ.set j (O (.deep p d'))).set i C4):=by
 obtain⟨ω,k1,k2⟩:=k.dp;have hij:i≠j:=λz=>by subst z;rw[hd]at hi;cases hi
 obtain⟨v0,fp0,s0,r0,n0,w0⟩:=k1 j p d hd;rw[hv]at s0;cases s0;have e0:=r0.uniq (.refl _) r;subst e0;obtain⟨hb,hg,hw⟩:=w0 a ha;obtain⟨ws,hl⟩:=r.isl a ha;obtain⟨b1,us1,i1,i2,i3,i4,i5⟩:=k.own i ds hi;rw[hb0]at i1;cases i1;have Aj:=k2 i ds b0 hi hb0;have nt:∀vs,H a≠O (.tup vs):=λvs z=>by rw[hl]at z;cases ws<;>cases z
 have nz:∀{m:Nat}{s:Sl},j≠m->((ρ.set j (O (.deep p d'))).set i C4)[m]?=O (O s)->ρ[m]?=O (O s)/\i≠m:=λ{m s} z q=>by
  by_cases zi:i=m
  .subst zi;have:=Kk q;cases this
  .rw[Qf zi,Qf z]at q;exact⟨q,zi⟩
 have atj:∀{s:Sl},((ρ.set j (O (.deep p d'))).set i C4)[j]?=O (O s)->s=.deep p d':=λ{s} q=>by rw[Qf hij]at q;have:=Kk q;cases this;rfl
 refine⟨λb u e=>?_,λb u e=>?_,k.g0,k.np,by rw[QH,QH];exact k.len,λm dm e=>?_,λm es e=>?_,λm l c es fs q1 q2 s1 s2=>?_,λb=>if b=b0 then j else ω b,λm pm dm e=>?_,λm es b e s=>?_⟩
 .rw[US (KO e hb)];exact k.bh b u e
 .rw[US (KO e hg)];exact k.gh b u e
 .by_cases z:j=m
  .subst z;cases atj e
  .exact k.pub m dm (nz z e).1
 .by_cases z:j=m
  .subst z;cases atj e
  .have e:=(nz z e).1
   obtain⟨c,us,g1,g2,g3,g4,g5⟩:=k.own m es e;have zc:c≠a:=λw=>by subst w;exact z (hw.symm.trans (k2 m es c e g1))
   exact⟨c,us,g1,g2,g3,by rw[US zc];exact g4,g5⟩
 .have z1:j≠m:=λz=>by subst z;cases atj q1
  have z2:j≠l:=λz=>by subst z;cases atj q2
  exact k.sep m l c es fs (nz z1 q1).1 (nz z2 q2).1 s1 s2
 .by_cases z:j=m
  .subst z
   cases atj e;refine⟨v,fp',hv,r',BW,λb mb=>?_⟩;dsimp only;rcases sub b mb with mb|rfl
   .refine⟨(w0 b mb).1,(w0 b mb).2.1,?_⟩
    split
    .rfl
    .exact(w0 b mb).2.2
   .exact⟨i2,i3,Qq C3⟩
  .obtain⟨e,zi⟩:=nz z e
   obtain⟨vm,fm,sm,rm,nm,wm⟩:=k1 m pm dm e;refine⟨vm,fm,sm,rm.upd nt (λmm=>z (hw.symm.trans (wm a mm).2.2)),nm,λb mb=>⟨(wm b mb).1,(wm b mb).2.1,?_⟩⟩;dsimp only;rw[QE (λy=>by subst y;exact zi (Aj.symm.trans (wm b mb).2.2))];exact(wm b mb).2.2
 .have z:j≠m:=λz=>by subst z;cases atj e
  obtain⟨e,zi⟩:=nz z e;dsimp only;have:=k2 m es b e s;rw[QE (λy=>by subst y;exact zi (Aj.symm.trans this))];exact this
end
noncomputable def tT(K:Frag)(B G0:Hp)(pt:Pat)(f:M D):TE:=λσ H Q=>∃G ρ,EOk K B G0 G H σ ρ/\match f ρ with
 |.ok d ρ'=>∀v fp G' H',EOk K B G0 G' H' σ ρ'->Same G G'->NewT K B G' H' σ ρ' pt v d fp->Q v H'
 |.bad=>False
noncomputable def Xn(i:Nat)(pt:Pat)(f:M D):SM:=sB f λd ρ=>if i<ρ.length then .nx (ρ.set i (O (.deep pt d)))else .bad
noncomputable def spT(K:Frag)(n:Nat)(pt:Pat)(F:C7->Bb):Sp:=λvs H Q _=>∃G ds d,vs.length=n/\Same G H/\Reps K G vs ds/\F ds=O d/\∀v fp G' H',Ext G H G' H'->RepO K G' H' pt v d fp->fp.Nodup->(∀a∈fp,H a=C4/\G' a=C4)->Q v H'
noncomputable def tST(K:Frag)(B G0:Hp)(pt:Pat)(g:SM)(f:M D):TS:=λDn σ H=>∃G ρ,EOk K B G0 G H σ ρ/\match g ρ with
 |.nx ρ1=>(match f ρ1 with
  |.ok d _=>∀v fp G' H',Ext G0 B G' H'->RepO K G' H' pt v d fp->fp.Nodup->(∀a∈fp,B a=C4/\G' a=C4)->Dn.rt v H'
  |.bad=>False)
 |_=>False
noncomputable def W2(N:List Str)(g:SM)(f:M D)(ds:C7):Bb:=match g (K5 N ds)with
 |.nx ρ=>(match f ρ with
  |.ok r _=>O r
  |.bad=>C4)
 |_=>C4
def DefT(P:Ub)(w:World)(K:Frag)(mg:Str->Bd)(base:Heap)(x:Str)(k n:Nat)(pt:Pat)(F:C7->Bb):Prop:=
 ∃(f:Uc)(fd:Ud)(ps:List Str),mg x=O (.ref f)/\PySem.W.keepIn K (.ref f)=C5/\YG K fd ps []/\FnOk P w K mg base CX0 k f fd ps (spT K n pt F)
section
variable{X:Cx}{B G0:Hp}{KX:XW}{e o a b c:Ue}{pos:Pos}{es:Ba}{st:Stmt}{sts:List Stmt}{pt:Pat}
theorem Gq{i:Nat}{x:Str}{f:M D}{p2:Pos}(hN:X.N.Nodup)(hi:X.N[i]?=O x)(hx:Loc X.env.scope x)(he:PE X e (tT X.K B G0 pt f))(hs:swapsWith e (O (.Name x p2)) pos.line X.env=pure C6:=by rfl)
  (hf:X.fn x=C5∨X.env.scope.names.lookup x=O .local:=by first|exact .inl rfl|exact .inr rfl|assumption):PS X (.Assign [.Name x p2] e pos) (tS X.K B G0 KX (Xn i pt f)):=
 Kf (Sb hN hi hx he hs hf) λD σ H ⟨G,ρ,k,a⟩=>by
  refine⟨G,ρ,k,?_⟩;unfold Xn sB at a;cases z:f ρ with
  |bad=>rw[z]at a;exact a.elim
  |ok ds ρ1=>
   rw[z]at a;intro v fp G' H' k' s' n;dsimp only at a;split at a
   .rename_i hl
    exact a _ G' H' (k'.setDeep n hl) s'
   .exact a.elim
theorem NewL.tree{K:Frag}{G H:Hp}{σ:St}{ρ:UA}{ad:Uc}{vs:List V}{ds:C7}(n:NewL K B G H σ ρ ad vs ds){p:Pat}(r:RepOl K G H p vs ds []):NewT K B G H σ ρ (.lst p) (.ref ad) (.list ds) [ad] where
 r:=.lst n.h r
 nd:=Vf ad
 b:=λb m=>by rw[Qw.mp m];exact⟨n.b,n.g⟩
 f:=λb m=>by rw[Qw.mp m];exact n.f
 dp:=λb m=>by rw[Qw.mp m];exact n.dp
theorem Gp{p:Pat}:PE X (.List [] pos) (tT X.K B G0 (.lst p) (UE (.list []))):=UR (SB (B:=B) (G0:=G0) Pr) λσ H Q ⟨G,ρ,k,a⟩=>by
 refine⟨G,ρ,k,?_⟩;intro ad vs G' H' k' s' n;have hv:vs=[]:=by have:=n.r;cases this;rfl
 subst hv;exact a _ _ G' H' k' s' (n.tree .nil)
theorem Lc{f:M D}(h:PE X e (tT X.K B G0 pt f)):PSs X [.Return (O e) pos] (tST X.K B G0 pt sNx f):=Xs (XI (Vo h)) λD σ H ⟨G,ρ,k,a⟩=>by
 refine⟨G,ρ,k,?_⟩;dsimp only[sNx]at a;cases z:f ρ with
 |bad=>rw[z]at a;exact a.elim
 |ok ds ρ'=>rw[z]at a;exact λv fp G' H' k' s' n=>a v fp G' H' k'.exit n.r n.nd n.b
theorem Go{g h:SM}{f:M D}(h1:PS X st (tS X.K B G0 KX0 g))(h2:PSs X sts (tST X.K B G0 pt h f)):PSs X (st::sts) (tST X.K B G0 pt (UD g h) f):=Xs (X9 h1 h2) λD σ H ⟨G,ρ,k,a⟩=>by
 refine⟨G,ρ,k,?_⟩;unfold UD at a;cases z:g ρ with
 |nx ρ1=>rw[z]at a;exact λσ' G' H' k' s'=>⟨G',ρ1,k',a⟩
 |rt d=>rw[z]at a;exact a.elim
 |ro ds=>rw[z]at a;exact a.elim
 |bk ρ1=>rw[z]at a;exact a.elim
 |ct ρ1=>rw[z]at a;exact a.elim
 |ex ρ1 d=>rw[z]at a;exact a.elim
 |bad=>rw[z]at a;exact a.elim
theorem okT{P:Ub}{w:World}{K:Frag}{mg:Str->Bd}{base:Heap}{x qual:Str}{st:Stmt}{f:Uc}{fd:Ud}{N ps:List Str}{k n:Nat}{g:SM}{q:M D}(F:Fun K x qual st f fd)(S:X0 N ps (Kw st))(hn:ps.length=n)
  (der:∀(cdv:J9)(A:Around)(outer:List Env)(s:Ua)(H:Hp)(E:XK)(B G0:Hp),Room k (A.deeper (envOfC qual (Kw st) s.heap.objs.size f cdv)) ->
   PSs (Zi CX0 P w K mg base N qual (Kw st) f cdv A outer s H E).nox (ZY st) (tST K B G0 pt g q)):FnOk P w K mg base CX0 (k+1) f fd ps (spT K n pt (W2 N g q)):=by
 refine F.ok S (λvs H Q E h=>?_) (λcdv A outer s H vs Q E hr h=>?_)
 .obtain⟨_,_,_,hl,_⟩:=h
  rw[hl,hn]
 .obtain⟨G,ds,d,hl,sg,r,hF,qq⟩:=h
  refine⟨_,der cdv A outer s H E H G hr,G,K5 N ds,SE sg r,?_⟩;unfold W2 at hF;cases z:g (K5 N ds)with
  |nx ρ=>
   rw[z]at hF;dsimp only at hF⊢;cases z2:q ρ with
   |bad=>rw[z2]at hF;cases hF
   |ok d' ρ'=>rw[z2]at hF;cases hF;exact λv fp G' H' ex rr nd fr=>qq v fp G' H' ex rr nd fr
  |rt d'=>rw[z]at hF;cases hF
  |ro ds=>rw[z]at hF;cases hF
  |bk ρ=>rw[z]at hF;cases hF
  |ct ρ=>rw[z]at hF;cases hF
  |ex ρ d=>rw[z]at hF;cases hF
  |bad=>rw[z]at hF;cases hF
theorem Ed{k kk n:Nat}{F:C7->Bb}{g:M C7}{x:Str}{p2:Pos}(d:DefT X.prog X.w X.K X.mg X.base x k n pt F)(hr:Room kk X.A)(hg:Gl X x)(ha:PA X (e::es) (tDs X.K B G0 g))(hk:k<=kk:=by decide)(hn:(e::es).length=n:=by rfl)
  (hdb:(x==("__debug__" : Str))=C6:=by decide) (he:Uh (e::es) X.env=(C6,eval e X.env)::Uh es X.env:=by rfl) (hpl:(backTo pos (Uh es X.env)).any (·.1)=C6:=by rfl) :
  PE X (.Call (.Name x p2) (e::es) [] pos) (tT X.K B G0 pt (UQ n F g)):=by
 obtain⟨f,fd,ps,h1,h2,h3,h4⟩:=d;refine UR (Sv h4 (hr.mono hk) hg h1 h2 h3 .nil TY ha hdb he hpl) λσ H Q ⟨G,ρ,kk0,a⟩=>?_
 refine⟨G,ρ,kk0,?_⟩;unfold UQ UM at a;cases z:g ρ with
 |bad=>rw[z]at a;exact a.elim
 |ok xs ρ1=>
  rw[z]at a;dsimp only at a⊢;intro vs G1 H1 k1 s1 r1;by_cases hl:xs.length=n
  .rw[Qq hl]at a
   unfold UN at a;cases zf:F xs with
   |none=>rw[zf]at a;exact a.elim
   |some r=>rw[zf]at a;dsimp only at a;refine⟨G1,xs,r,by rw[QS,r1.length];exact hl,k1.gh,by rw[QS];exact r1,zf,λv fp G' H' ex rr nd fr=>?_⟩;exact a v fp G' H' (k1.ext ex) (s1.trans ex.g) (k1.newT ex.h rr nd fr)
  .rw[QE hl]at a
   exact a.elim
noncomputable def WG(j i:Nat):SM:=λρ=>match ρ[j]?,ρ[i]? with
 |some (O (.deep (.lst (.lst .leaf)) (.list dss))),O (O (.own ds))=>if dss.length<1000000 then .nx ((ρ.set j (O (.deep (.lst (.lst .leaf)) (.list (dss++[.list ds]))))).set i C4)else .bad
 |_,_=>.bad
theorem Gn{j i:Nat}{apos cpos:Pos}(ho:PE X o (U2 j))(he:PE X e (U2 i))
  (hbase:attributeBase o "append" X.env (eval o X.env)=eval o X.env:=by rfl)
  (hfew:((backTo cpos (Uh [e] X.env)).all (λx=>!x.1)&&(backToKw cpos (keywordEach [] X.env)).all (λx=>x.1.isSome)
   && decide ([e].length+([]:List Keyword).length+(if([]:List Keyword).isEmpty then 0 else 1)<30))=C5:=by rfl)
  (hline:(apos.endLine==cpos.line)=C5:=by rfl) (hs:Uh [e] X.env=[(C6,eval e X.env)]:=by rfl)
  (hsw:swapsWith (.Call (.Attribute o "append" apos) [e] [] cpos) C4 pos.line X.env=pure C6:=by rfl) :
  PS X (.Expr (.Call (.Attribute o "append" apos) [e] [] cpos) pos) (tS X.K B G0 KX (WG j i)):=
 Kf (X1 (Xu Jn Jv Jw WZ ho (ZZ he Z1 (by rw[hs];rfl)) hbase hfew hline (by rw[hs];rfl) C3) hsw) λD σ H ⟨G,ρ,k,q⟩=>by
  unfold WG at q;split at q
  case h_2=>exact q.elim
  case h_1 dss ds hj hi=>
  split at q
  case isFalse=>exact q.elim
  case isTrue hlim=>
  obtain⟨ω,ks⟩:=k.slots;obtain⟨v,fp,hv,r,nd,w⟩:=ks j _ _ (by unfold Zn;rw[hj]);obtain⟨v2,fp2,hv2,r2,nd2,w2⟩:=ks i _ _ (by unfold Zn;rw[hi]);cases r with
  |lst h rl=>
  rename_i ad vs fp;cases r2 with
  |lst h2 rl2=>
  rename_i bd us fp2;have hij:i≠j:=λz=>by subst z;rw[hj]at hi;cases hi
  have hne:bd≠ad:=λz=>by subst z;exact hij ((w2 bd Qh).2.2.symm.trans (w bd Qh).2.2)
  have hnb:bd∉ad::fp:=λm=>hij ((w2 bd Qh).2.2.symm.trans (w bd m).2.2)
  have hf2:fp2=[]:=by obtain⟨a',us',i1,i2,i3,i4,i5⟩:=k.own i ds hi;rw[hv2]at i1;cases i1;have u:RepO X.K G H (.lst .leaf) (.ref bd) (.list ds) [bd]:=.lst i4 (.leaf i5);have:=(RepO.lst h2 rl2).uniq (.refl _) u;injection this
  subst hf2;refine⟨.ref ad,hv,.inl ⟨rfl,_,SqL.of h⟩,.ref bd,hv2,ad,vs,.ref bd,rfl,rfl,h,by rw[rl.length];exact Qv hlim lim,?_⟩;have nt:∀ws,H ad≠O (.tup ws):=λws z=>by rw[h]at z;cases z
  obtain⟨na,nf⟩:=Jx.mp nd;refine q σ G _ (k.mutM hj hv (.lst h rl) Qh hi hv2 (d':=.list (dss++[.list ds])) (fp':=ad::(fp++([bd]++[]))) (.lst Kd ((rl.upd nt na).append (.cons ((RepO.lst h2 rl2).upd nt (λm=>hne (Qw.mp m).symm)) .nil))) ?_ ?_) (.refl _)
  .rw[QS]
   refine Jx.mpr ⟨λm=>?_,Q1.mpr ⟨nf,Vf bd,λx hx y hy e=>?_⟩⟩
   .rcases QF.mp m with m|m
    .exact na m
    .exact hne (Qw.mp m).symm
   .rw[Qw.mp hy]at e
    subst e;exact hnb (Qm _ hx)
  .intro b mb
   rw[QS]at mb;rcases QM.mp mb with rfl|mb
   .exact .inl Qh
   .rcases QF.mp mb with mb|mb
    .exact .inl (Qm _ mb)
    .exact .inr (Qw.mp mb)
end
section
variable{K:Frag}{B G0 G H:Hp}{σ:St}{ρ:UA}
theorem RepOl.leaf_inv:∀{vs:List V}{ds:C7}{fp:Be},RepOl K G H .leaf vs ds fp->Reps K G vs ds/\fp=[]
 |_,_,_,.nil=>⟨.nil,rfl⟩
 |_,_,_,.cons (.leaf r) t=>by obtain⟨r2,e⟩:=RepOl.leaf_inv t;subst e;exact⟨.cons r r2,rfl⟩
noncomputable def WF(H:Hp):Bc->V->Option V
 |[],v=>O v
 |k::r,.ref a=>match H a with
  |some (.lst vs)=>(vs[k]?).bind (WF H r)
  |some (.tup vs)=>(vs[k]?).bind (WF H r)
  |_=>C4
 |_::_,_=>C4
theorem RepOl.at{p:Pat}:∀{vs:List V}{ds:C7}{fp:Be}{k:Nat}{d:D},RepOl K G H p vs ds fp->ds[k]?=O d->fp.Nodup->∃v f,vs[k]?=O v/\RepO K G H p v d f/\f.Nodup/\(∀b∈f,b∈fp) /\
  ∀a∈f,(∀ws,H a≠O (.tup ws))->∀o d' f',RepO K G (L2.upd H a o) p v d' f'->f'.Nodup->(∀b∈f',b∈f)->∃fp',RepOl K G (L2.upd H a o) p vs (ds.set k d') fp'/\fp'.Nodup/\∀b∈fp',b∈fp
 |_,_,_,_,_,.nil,e,_=>by cases e
 |_,_,_,0,_,.cons (f1:=f1) (f2:=f2) r t,e,n=>by
  cases e;obtain⟨n1,n2,nn⟩:=Q1.mp n;refine⟨_,f1,rfl,r,n1,λb m=>QI _ m,λa m nt o d' f' r' BW sub=>⟨f'++f2,.cons r' (t.upd nt (λm2=>nn a m a m2 C3)),Q1.mpr ⟨BW,n2,λx hx y hy=>nn x (sub x hx) y hy⟩,λb m=>?_⟩⟩;rcases QF.mp m with m|m
  .exact QI _ (sub b m)
  .exact Qr _ m
 |_,_,_,k+1,d,.cons (f1:=f1) (f2:=f2) r t,e,n=>by
  obtain⟨n1,n2,nn⟩:=Q1.mp n;obtain⟨v,f,h1,h2,h3,h4,h5⟩:=RepOl.at (k:=k) (d:=d) t (by simpa using e) n2;refine⟨v,f,by simpa using h1,h2,h3,λb m=>List.mem_append_right _ (h4 b m),λa m nt o d' f' r' BW sub=>?_⟩;obtain⟨fp',g1,g2,g3⟩:=h5 a m nt o d' f' r' BW sub;refine⟨f1++fp',.cons (r.upd nt (λm2=>nn a m2 a (h4 a m) C3)) g1,Q1.mpr ⟨n1,g2,λx hx y hy=>nn x hx y (g3 y hy)⟩,λb m=>?_⟩;rcases QF.mp m with m|m
  .exact QI _ m
  .exact Qr _ (g3 b m)
noncomputable def YR(K:Frag):Bc->V->Hp->VK->Prop
 |[],v,H,Q=>Q v H
 |k::r,v,H,Q=>rIx K v (.int k) H λu H'=>YR K r u H' Q
noncomputable def Y4(K:Frag)(i:Nat)(path:Bc):TE:=λσ H Q=>∃v,σ[i]?=O (O v)/\YR K path v H Q
theorem YR.of{Q:VK}:∀{path:Bc}{v u:V},WF H path v=O u->Q u H->YR K path v H Q
 |[],v,u,e,q=>by cases e;exact q
 |k::r,v,u,e,q=>by
  cases v with
  |ref a=>
   unfold WF at e;split at e
   .rename_i vs h
    cases z:vs[k]? with
    |none=>rw[z]at e;cases e
    |some w=>rw[z]at e;exact .inl ⟨a,vs,k,w,rfl,rfl,SqL.of h,Kv z,YR.of e q⟩
   .rename_i vs h
    cases z:vs[k]? with
    |none=>rw[z]at e;cases e
    |some w=>rw[z]at e;exact .inr (.inl ⟨a,vs,k,w,rfl,rfl,SqT.of h,Kv z,YR.of e q⟩)
   .cases e
  |_=>cases e
end
section
variable{X:Cx}{B G0:Hp}{KX:XW}{e o a b c:Ue}{pos:Pos}{es:Ba}
theorem Sq{i:Nat}(h:PE X e (U2 i)):PE X e (Y4 X.K i []):=h
noncomputable def Ve(f:M D):M D:=λρ=>match f (U4 ρ)with
 |.ok d _=>if flat d=C5 then .ok d ρ else .bad
 |.bad=>.bad
theorem Ec{f:M D}(h:∀B' G',PE X e (tD X.K B' G' f)):PE X e (tD X.K B G0 (Ve f)):=by
 have h':PE X e (λσ H Q=>∃B' G',tD X.K B' G' f σ H Q):=λpins s σ H Q I ⟨B',G',q⟩=>h B' G' pins s σ H Q I q;refine UR h' λσ H Q ⟨G,ρ,k,a⟩=>⟨H,H,H,U4 ρ,k.lent,?_⟩;unfold Ve at a
 cases z:f (U4 ρ)with
 |bad=>rw[z]at a;exact a.elim
 |ok d ρ'=>
  rw[z]at a;dsimp only at a⊢;split at a
  .rename_i hf
   exact λv G' H' k' s' r=>a v G H' (k.back k'.bh) (.refl _) (r.flat hf)
  .exact a.elim
end
noncomputable def isT:Option HO->Bool
 |some (.tup _)=>C5
 |some (.frz _ (.tup _))=>C5
 |_=>C6
theorem Lb{u:MO}:isT (O u.ho)=C6:=by cases u<;>rfl
noncomputable def Ki(fp:Be)(G H:Hp):Hp:=λb=>if b∈fp∨isT (H b)=C5 then H b else G b
section
variable{K:Frag}{B G0 G H:Hp}{fp:Be}
theorem SS(gh:Same G H):Same G (Ki fp G H):=λb o e=>by
 unfold Ki;split
 .exact gh b o e
 .exact e
theorem Gm(gh:Same G H):Same (Ki fp G H) H:=λb o e=>by
 unfold Ki at e;split at e
 .exact e
 .exact gh b o e
theorem Vq{b:Uc}(h:b∈fp∨isT (H b)=C5):Ki fp G H b=H b:=by unfold Ki;rw[Qq h]
theorem Pa{b:Uc}(h:b∉fp)(h2:isT (H b)=C6):Ki fp G H b=G b:=by
 unfold Ki;rw[QE];rintro(z|z)
 .exact h z
 .rw[h2]at z;cases z
theorem RepO.give3(gh:Same G H):Zm K G H (λ_ v d f=>(∀b∈f,b∈fp)->Rep K (Ki fp G H) v d) (λ_ v d f=>(∀b∈f,b∈fp)->Reps K (Ki fp G H) v d) (λ_ v d f=>(∀b∈f,b∈fp)->Reps K (Ki fp G H) v d):=
 RepO.ind3 (λr _=>r.mono (SS gh)) (λh r m=>.lst (SqL.of ((Vq (.inl (m _ Qh))).trans h)) (r λb z=>m b (Qm _ z))) (λh r m=>.tup (SqT.of ((Vq (.inr (by rw[h];rfl))).trans h)) (r m))
 (λ{a ks vs ds kvs} e hl h r m=>by
  have h':=(Vq (fp:=fp) (G:=G) (H:=H) (.inl (m _ Qh))).trans h;cases ks with
  |nil=>subst e;exact .dic h'
  |cons k ks=>exact .dct e (λz=>by cases z) hl h' (r.mono (SS gh)))
 (λ_=>.nil) (λh t m=>.cons (h λb z=>m b (QI _ z)) (t λb z=>m b (Qr _ z))) (λ_=>.nil) (λh t m=>.cons (h λb z=>m b (QI _ z)) (t λb z=>m b (Qr _ z)))
theorem RepO.give(gh:Same G H){p:Pat}{v:V}{d:D}{f:Be}(r:RepO K G H p v d f)(m:∀b∈f,b∈fp):Rep K (Ki fp G H) v d:=(RepO.give3 gh).1 r m
theorem Ext.pubT{G' H':Hp}(ex:Ext G H G' H')(fr:∀a∈fp,H a=C4):Ext G H (Ki fp G' H') H':=
 ⟨ex.h,ex.g.trans (SS ex.gh),Gm ex.gh,λa u e n=>by rw[Pa (λm=>by rw[fr a m]at e;cases e) (by rw[ex.h a _ e];exact Lb)];exact ex.np a u e n⟩
noncomputable def nl0:D->Bool
 |.tuple ds=>ds.all flat
 |d=>flat d
theorem Rep.nl{G' G2 H':Hp}{v:V}{d:D}(r:Rep K G' v d)(h:nl0 d=C5)(gh:Same G' H'):Rep K (Ki fp G2 H') v d:=by
 cases r with
 |tup hs rr=>
  refine .tup ?_ (rr.flat h);rcases hs with (hs|⟨o,hs⟩)|hs
  .have:=gh _ _ hs
   exact .inl (.inl ((Vq (.inr (by rw[this];rfl))).trans this))
  .have:=gh _ _ hs
   exact .inl (.inr ⟨o,(Vq (.inr (by rw[this];rfl))).trans this⟩)
  .exact .inr hs
 |non=>exact .non
 |bl b=>exact .bl b
 |int i=>exact .int i
 |str x=>exact .str x
 |lst _ _=>cases h
 |dic _=>cases h
 |exc _ _ _ _=>cases h
 |dct _ _ _ _ _=>cases h
 |dtt _ _ _ _=>cases h
theorem Reps.nl{G' G2 H':Hp}(gh:Same G' H'):∀{vs:List V}{ds:C7},Reps K G' vs ds->ds.all nl0=C5->Reps K (Ki fp G2 H') vs ds
 |_,_,.nil,_=>.nil
 |_,_,.cons r t,h=>by rw[J7,QQ]at h;exact .cons (r.nl h.1 gh) (Reps.nl gh t h.2)
end
noncomputable def Vd(f:M C7):M C7:=λρ=>match f (U4 ρ)with
 |.ok ds _=>if ds.all nl0=C5 then .ok ds ρ else .bad
 |.bad=>.bad
section
variable{X:Cx}{B G0:Hp}{KX:XW}{e o a b c:Ue}{pos:Pos}{es:Ba}{pt:Pat}
theorem Eb{f:M C7}(h:∀B' G',PE X e (tL X.K B' G' f)):PE X e (tL X.K B G0 (Vd f)):=by
 have h':PE X e (λσ H Q=>∃B' G',tL X.K B' G' f σ H Q):=λpins s σ H Q I ⟨B',G',q⟩=>h B' G' pins s σ H Q I q;refine UR h' λσ H Q ⟨G,ρ,k,a⟩=>⟨H,H,H,U4 ρ,k.lent,?_⟩;unfold Vd at a
 cases z:f (U4 ρ)with
 |bad=>rw[z]at a;exact a.elim
 |ok ds ρ'=>
  rw[z]at a;dsimp only at a⊢;by_cases hf:ds.all nl0=C5
  .rw[Qq hf]at a
   intro ad vs G' H' k' s' n;have ex:Ext G H G H':=⟨k'.bh,.refl _,k.gh.trans k'.bh,λ_ _ _ n=>n⟩;have ex2:Ext G H (Ki [] G H') H':=ex.pubT (λa m=>by cases m);refine a ad vs (Ki [] G H') H' (k.ext ex2) ex2.g ⟨k.bh.free n.b,?_,n.h,n.r.nl k'.gh hf,λj es q w=>?_,λj pt d v fp q s r=>k.freshD k'.bh n.b q s r⟩
   .rw[Pa (by simp) (by rw[n.h];rfl)]
    exact k.gh.free n.b
   .obtain⟨b,us,g1,g2,g3,g4,g5⟩:=k.own j es q
    rw[g1]at w;cases w;rw[n.b]at g4;cases g4
  .rw[QE hf]at a;exact a.elim
theorem DefT.def{P:Ub}{w:World}{K:Frag}{mg:Str->Bd}{base:Heap}{x:Str}{k n:Nat}{F:C7->Bb}(d:DefT P w K mg base x k n pt F):Def P w K mg base x k n F:=by obtain⟨f,fd,ps,h1,h2,h3,h4⟩:=d;refine⟨f,fd,ps,h1,h2,h3,h4.imp λvs H Q E ⟨G,ds,d,hl,sg,r,hF,q⟩=>⟨G,ds,d,hl,sg,r,hF,λv fp G' H' ex rr nd fr=>?_⟩⟩;exact q v (Ki fp G' H') H' (ex.pubT λa m=>(fr a m).1) (rr.give ex.gh λb m=>m)
end
theorem La{q p:Ub}{loose:List Str}{mean:ExcName->Bd}{mg mb:Str->Bd}{h:Heap}{ix:Bc}(P:Ub)(w:World)(base:Heap){ps:List Str}{k n:Nat}{pt:Pat}{F:C7->Bb}(T:PyProof.Rows.Top q loose mean mg mb h)(e:recsOf q=XT p ix)(i:Nat)(x:Str)(hi:ix.contains i=C5)(hn:Vg (U7 p i)=O x)
  (ok:∀{f:Uc}{fd:Ud},Fun (whole h) x x (U7 p i) f fd->FnOk P w (whole h) mg base CX0 k f fd ps (spT (whole h) n pt F))
  (hb:∀(kV doc pm:J9)(an:Bk)(cdv ct:J9)(us:C9),us.length=ps.length->bindArgs (PySem.W.fnOf x x (XH (U7 p i)) (ZY (U7 p i)) (Kw (U7 p i)) .none kV doc pm an cdv ct) ⟨us,[]⟩=pure (ps.zip us)):DefT P w (whole h) mg base x k n pt F:=by
 obtain⟨f,fd,m,FU⟩:=VY T e i x hi hn;exact⟨f,fd,ps,m,FU.kp,FU.binds hb,ok FU⟩
section
variable{ρ ρ1 ρ2 ρ':UA}{pt:Pat}
theorem So{i:Nat}{f:M D}{d:D}(h1:f ρ=.ok d ρ1)(h2:i<ρ1.length)(h3:ρ1.set i (O (.deep pt d))=ρ'):Xn i pt f ρ=.nx ρ':=by unfold Xn sB;rw[h1];dsimp only;rw[if_pos h2];subst h3;rfl
theorem Gk{j i:Nat}{dss ds:C7}(h1:ρ[j]?=O (O (.deep (.lst (.lst .leaf)) (.list dss))))(h2:ρ[i]?=O (O (.own ds)))(h3:dss.length<1000000)(h4:(ρ.set j (O (.deep (.lst (.lst .leaf)) (.list (dss++[.list ds]))))).set i C4=ρ'):WG j i ρ=.nx ρ':=by unfold WG;rw[h1,h2];dsimp only;rw[if_pos h3,h4]
theorem Ea{f:M D}{d:D}(h:f (U4 ρ)=.ok d ρ')(hf:flat d=C5):Ve f ρ=.ok d ρ:=by unfold Ve;rw[h];dsimp only;rw[if_pos hf]
theorem F9{f:M C7}{ds:C7}(h:f (U4 ρ)=.ok ds ρ')(hf:ds.all nl0=C5):Vd f ρ=.ok ds ρ:=by unfold Vd;rw[h];dsimp only;rw[if_pos hf]
theorem NF{N:List Str}{g:SM}{f:M D}{ds:C7}{P:D->Prop}(h0:K5 N ds=ρ)(h:Ho g ρ λo=>∃ρ1,o=.nx ρ1/\∃d ρ2,f ρ1=.ok d ρ2/\P d):∃d,W2 N g f ds=O d/\P d:=by subst h0;obtain⟨ρ1,e,d,ρ2,e2,p⟩:=h.out;refine⟨d,?_,p⟩;unfold W2;rw[e];dsimp only;rw[e2]
end
noncomputable def Zg(i:Nat):M C7:=λρ=>match ρ[i]? with
 |some (O (.own ds))=>.ok ds (ρ.set i C4)
 |_=>.bad
section
variable{X:Cx}{B G0:Hp}{e:Ue}
theorem Gj{i:Nat}(h:PE X e (U2 i)):PE X e (tL X.K B G0 (Zg i)):=UR h λσ H Q ⟨G,ρ,k,q⟩=>by
 cases ho:ρ[i]? with
 |none=>unfold Zg at q;rw[ho]at q;exact q.elim
 |some oo=>
 cases oo with
 |none=>unfold Zg at q;rw[ho]at q;exact q.elim
 |some sl=>
 cases sl with
 |pub d=>unfold Zg at q;rw[ho]at q;exact q.elim
 |deep p d=>unfold Zg at q;rw[ho]at q;exact q.elim
 |own ds=>
 unfold Zg at q;rw[ho]at q;dsimp only at q;obtain⟨ad,vs,h1,h2,h3,h4,h5⟩:=k.own i ds ho;obtain⟨ω,k1,k2⟩:=id k.dp;have hw:=k2 i ds ad ho h1
 have nz:∀{m:Nat}{s:Sl},(ρ.set i C4)[m]?=O (O s)->ρ[m]?=O (O s)/\i≠m:=λ{m s} q=>by
  by_cases z:i=m
  .subst z;have:=Kk q;cases this
  .rw[Qf z]at q;exact⟨q,z⟩
 refine⟨.ref ad,h1,q ad vs G H k.forget (.refl _) ⟨h2,h3,h4,h5,λj es e w=>?_,λj p d v fp e w r m=>?_⟩⟩
 .obtain⟨e,z⟩:=nz e
  exact z (k.sep i j ad ds es ho e h1 w)
 .obtain⟨e,z⟩:=nz e
  obtain⟨v',fp',s',r',n',w'⟩:=k1 j p d e;rw[w]at s';cases s';have u:=r'.uniq (.refl _) r;subst u;exact z (hw.symm.trans (w' ad m).2.2)
theorem M9{i:Nat}{ρ:UA}{ds:C7}(h:ρ[i]?=O (O (.own ds))):Zg i ρ=.ok ds (ρ.set i C4):=by unfold Zg;rw[h]
end
noncomputable def KZ(fp:Be)(H:Hp):Hp:=λb=>if b∈fp then C4 else H b
section
variable{K:Frag}{B G0 G H:Hp}{fp:Be}
theorem Gi{b:Uc}(h:b∈fp):KZ fp H b=C4:=by unfold KZ;rw[Qq h]
theorem Xz{b:Uc}(h:b∉fp):KZ fp H b=H b:=by unfold KZ;rw[QE h]
theorem RepO.cut3(hl:∀a∈fp,∃u:MO,H a=O u.ho):Zm K G H (λp v d f=>(∀a∈f,a∉fp)->RepO K G (KZ fp H) p v d f) (λp v d f=>(∀a∈f,a∉fp)->RepOl K G (KZ fp H) p v d f) (λp v d f=>(∀a∈f,a∉fp)->RepOs K G (KZ fp H) p v d f):=
 RepO.ind3 (λr _=>.leaf r) (λh r n=>.lst ((Xz (n _ Qh)).trans h) (r λb m=>n b (Qm _ m))) (λh r n=>.tup ((Xz (λm=>by obtain⟨u,e⟩:=hl _ m;rw[h]at e;cases u<;>cases e)).trans h) (r n)) (λe hl' h r n=>.dic e hl' ((Xz (n _ Qh)).trans h) r)
 (λ_=>.nil) (λh t n=>.cons (h λb m=>n b (QI _ m)) (t λb m=>n b (Qr _ m))) (λ_=>.nil) (λh t n=>.cons (h λb m=>n b (QI _ m)) (t λb m=>n b (Qr _ m)))
theorem RepO.cut(hl:∀a∈fp,∃u:MO,H a=O u.ho){p:Pat}{v:V}{d:D}{f:Be}(r:RepO K G H p v d f)(n:∀a∈f,a∉fp):RepO K G (KZ fp H) p v d f:=(RepO.cut3 hl).1 r n
end
section
variable{X:Cx}{B G0:Hp}{KX:XW}{e a b:Ue}{pos:Pos}{es:Ba}
theorem EOk.eaten{K:Frag}{G H G' H':Hp}{σ:St}{ρ:UA}{i1 i2:Nat}{ω:Uc->Nat}{fp:Be}(k:EOk K B G0 G H σ ρ)
  (ks:∀(i:Nat) p d,Zn ρ i=O (p,d)->∃v fp,σ[i]?=O (O v)/\RepO K G H p v d fp/\fp.Nodup/\∀a∈fp,B a=C4/\G a=C4/\ω a=i)
  (hl:∀a∈fp,∃u:MO,H a=O u.ho) (hf:∀a∈fp,B a=C4/\(ω a=i1∨ω a=i2)) (ex:Ext G (KZ fp H) G' H'):EOk K B G0 G' H' σ ((ρ.set i1 C4).set i2 C4):=by
 have nz:∀{m:Nat}{s:Sl},((ρ.set i1 C4).set i2 C4)[m]?=O (O s)->ρ[m]?=O (O s)/\i1≠m/\i2≠m:=λ{m s} q=>by
  by_cases y2:i2=m
  .subst y2;have:=Kk q;cases this
  .rw[Qf y2]at q
   by_cases y1:i1=m
   .subst y1;have:=Kk q;cases this
   .rw[Qf y1]at q;exact⟨q,y1,y2⟩
 have bo:∀{b:Uc}{u:HO},B b=O u->b∉fp:=λ{b u} e m=>by rw[(hf b m).1]at e;cases e
 refine⟨λb u e=>ex.h b u ((Xz (bo e)).trans (k.bh b u e)),ex.gh,k.g0.trans ex.g,λb u e n=>ex.np b u ((Xz (bo e)).trans (k.bh b _ e)) (k.np b u e n),by rw[QH,QH];exact k.len,
  λj d q=>let ⟨v,h1,h2⟩:=k.pub j d (nz q).1;⟨v,h1,h2.mono ex.g⟩,λj ds q=>?_,λj l c es fs q1 q2 s1 s2=>k.sep j l c es fs (nz q1).1 (nz q2).1 s1 s2,ω,λj p d q=>?_,λj ds ad q s=>?_⟩
 .obtain⟨q,y1,y2⟩:=nz q
  obtain⟨ad,vs,h1,h2,h3,h4,h5⟩:=k.own j ds q;obtain⟨v,f,hv,r,nd,w⟩:=ks j (.lst .leaf) (.list ds) (by unfold Zn;rw[q]);rw[h1]at hv;cases hv;have m:ad∈f:=by cases r with|lst h rl=>exact Qh
  have no:ad∉fp:=λz=>by
   rcases(hf ad z).2 with z|z
   .exact y1 (z.symm.trans (w ad m).2.2)
   .exact y2 (z.symm.trans (w ad m).2.2)
  have hc:KZ fp H ad=O (.lst vs):=(Xz no).trans h4;exact⟨ad,vs,h1,h2,ex.np ad (.l vs) hc h3,ex.h ad _ hc,h5.mono ex.g⟩
 .obtain⟨q,y1,y2⟩:=nz q
  obtain⟨v,f,hv,r,nd,w⟩:=ks j p d (by unfold Zn;rw[q])
  have no:∀b∈f,b∉fp:=λb m z=>by
   rcases(hf b z).2 with z|z
   .exact y1 (z.symm.trans (w b m).2.2)
   .exact y2 (z.symm.trans (w b m).2.2)
  refine⟨v,f,hv,(r.cut hl no).mono ex.g ex.h,nd,λb m=>?_⟩;obtain⟨vs,hb⟩:=r.isl b m;exact⟨(w b m).1,ex.np b vs ((Xz (no b m)).trans hb) (w b m).2.1,(w b m).2.2⟩
 .obtain⟨q,y1,y2⟩:=nz q
  obtain⟨v,f,hv,r,nd,w⟩:=ks j (.lst .leaf) (.list ds) (by unfold Zn;rw[q]);rw[s]at hv;cases hv;have m:ad∈f:=by cases r with|lst h rl=>exact Qh
  exact(w ad m).2.2
end
noncomputable def Z5(kvs:List (D×D))(k:Key)(d:D):List (D×D):=if kvs.any (λp=>decide (ZA p.1=O k))then kvs.map (λp=>if ZA p.1=O k then(p.1,d)else p)else kvs++[(kD k,d)]
noncomputable def VO(j:Nat)(g f:M D):SM:=sB f λd ρ1=>match ρ1[j]? with
 |some (O (.deep .dic _))=>sB g (λy ρ2=>match ZA y,ρ2[j]? with
  |some k,O (O (.deep .dic (.dict kvs)))=>if kvs.length<1000 then .nx (ρ2.set j (O (.deep .dic (.dict (Z5 kvs k d)))))else .bad
  |_,_=>.bad) ρ1
 |_=>.bad
section
variable{K:Frag}{G:Hp}
theorem R9{k:Key}:∀{ks:Bh}{vs:List V}{ds:C7},Reps K G vs ds->((ks.map kD).zip ds).any (λp=>decide (ZA p.1=O k))=(ks.zip vs).any λkv=>decide (kv.1=k)
 |[],_,_,_=>rfl
 |_::_,_,_,.nil=>rfl
 |k0::ks,_,_,.cons _ t=>by
  rw[QC,Q3,Q3,JW,JW,R9 t,Vr]
  congr 1
  by_cases e:k0=k
  .subst e;simp
  .simp[e]
theorem PV{k:Key}{w:V}{d:D}(r:Rep K G w d):∀{ks:Bh}{vs:List V}{ds:C7},Reps K G vs ds->∃vs' ds',(ks.zip vs).map (λkv=>if kv.1=k then(kv.1,w)else kv)=ks.zip vs'/\((ks.map kD).zip ds).map (λp=>if ZA p.1=O k then(p.1,d)else p)=(ks.map kD).zip ds'/\ds'.length=ds.length/\Reps K G vs' ds'
 |[],vs,ds,h=>⟨vs,ds,rfl,rfl,rfl,h⟩
 |_::_,_,_,.nil=>⟨[],[],rfl,rfl,rfl,.nil⟩
 |k0::ks,_,_,.cons (v:=v0) (d:=d0) h t=>by
  obtain⟨vs',ds',e1,e2,e3,e4⟩:=PV r (ks:=ks) t;by_cases e:k0=k
  .refine⟨w::vs',d::ds',?_,?_,by rw[Qz,e3,Qz],.cons r e4⟩
   .rw[Q3,QC,e1,Qq e,Q3]
   .rw[QC,Q3,QC,e2,Qq (by rw[Vr,e]),Q3]
  .refine⟨v0::vs',d0::ds',?_,?_,by rw[Qz,e3,Qz],.cons h e4⟩
   .rw[Q3,QC,e1,QE e,Q3]
   .rw[QC,Q3,QC,e2,QE (by rw[Vr];exact λz=>e (Qu z)),Q3]
theorem Reps.snoc{w:V}{d:D}(r:Rep K G w d):∀{vs:List V}{ds:C7},Reps K G vs ds->Reps K G (vs++[w]) (ds++[d])
 |_,_,.nil=>.cons r .nil
 |_,_,.cons h t=>.cons h (Reps.snoc r t)
theorem Gh{k:Key}{w:V}{d:D}(r:Rep K G w d){ks:Bh}{vs:List V}{ds:C7}(h:Reps K G vs ds)(hl:ks.length=ds.length):∃(ks':Bh)(vs':List V)(ds':C7),KI (ks.zip vs) k w=ks'.zip vs'/\Z5 ((ks.map kD).zip ds) k d=(ks'.map kD).zip ds'/\ks'.length=ds'.length/\Reps K G vs' ds':=by
 unfold KI Z5;rw[R9 h];have hv:=h.length;split
 .obtain⟨vs',ds',e1,e2,e3,e4⟩:=PV r (k:=k) (ks:=ks) h
  exact⟨ks,vs',ds',e1,e2,by rw[e3];exact hl,e4⟩
 .refine⟨ks++[k],vs++[w],ds++[d],?_,?_,by rw[Qk,Qk,hl];rfl,h.snoc r⟩
  .rw[List.zip_append (by lia)];rfl
  .rw[QK,List.zip_append (by rw[Qd];lia)];rfl
end
section
variable{X:Cx}{B G0:Hp}{KX:XW}{e o i:Ue}{pos p2:Pos}
theorem M8{j:Nat}{f g:M D}(hu:X.A.units+64<cLine)(he:PE X e (tD X.K B G0 f))(ho:PE X o (U2 j))(hi:PE X i (tD X.K B G0 g))(hs:swapsWith e (O (.Subscript o i p2)) pos.line X.env=pure C6:=by rfl) :
  PS X (.Assign [.Subscript o i p2] e pos) (tS X.K B G0 KX (VO j g f)):=
 Kf (Fc (by lia) ho hi he hs) λD σ H q=>tS.bnd (R:=Rep X.K) q λv H1 G1 ρ1 d k r a=>by
  split at a
  .rename_i d0 q0
   obtain⟨ω,ks1⟩:=k.slots;obtain⟨v0,fp0,hv0,r0,_,_⟩:=ks1 j .dic d0 (by unfold Zn;rw[q0]);refine⟨v0,hv0,G1,ρ1,k,?_⟩;unfold sB at a;cases z:g ρ1 with
   |bad=>rw[z]at a;exact a.elim
   |ok y ρ2=>
    rw[z]at a;dsimp only at a;intro kv G' H' k' s' r';split at a
    .rename_i ky kvs hk q2
     split at a
     .rename_i hlt
      obtain⟨ω2,ks2⟩:=k'.slots;obtain⟨v2,fp2,hv2,r2,nd2,w2⟩:=ks2 j .dic (.dict kvs) (by unfold Zn;rw[q2]);rw[hv0]at hv2;cases hv2;have ey:=PX hk;subst ey;have ekv:=r'.key_inv;subst ekv;cases r2 with
      |@dic ad ks vs ds _ e hl h rr=>
       obtain⟨ks',vs',ds',e1,e2,e3,e4⟩:=Gh (k:=ky) (r.mono s') rr hl;refine⟨ad,_,rfl,DPut.k h ?_,a σ G' _ (k'.mutD q2 hv0 (.dic e hl h rr) Qh (.dic (ks:=ks') (vs:=vs') (ds:=ds') (by rw[e];exact e2) e3 (by rw[Kd,e1]) e4) (Vf ad) λb m=>m) (s'.trans (.refl _))⟩;have:(ks.zip vs).length<=kvs.length:=by rw[e,List.length_zip,List.length_zip,Qd];have:=rr.length;lia
       exact JJ this (Qv hlt (by decide))
     .exact a.elim
    .exact a.elim
  .exact a.elim
theorem EOk.fillO{K:Frag}{B G0 G H:Hp}{σ:St}{ρ:UA}{p:Uc}{u:HO}(k:EOk K (upd B p (.dK [])) G0 G H σ ρ)(hb:B p=C4)(h0:G0 p=C4):EOk K B G0 G (upd H p u) σ ρ/\G p=C4/\H p=O (.dK [])/\(∀(j:Nat) es,ρ[j]?=O (O (.own es))->σ[j]?≠O (O (.ref p))) /\
  ∀(j:Nat) pt d v fp',ρ[j]?=O (O (.deep pt d))->σ[j]?=O (O v)->RepO K G (upd H p u) pt v d fp'->p∉fp':=by
 have hG:G p=C4:=k.np p (.k []) Kd h0;have hH:H p=O (.dK []):=k.bh p _ Kd;refine⟨⟨λb o q=>?_,λb o q=>?_,k.g0,λa w q n=>?_,k.len,k.pub,λi ds q=>?_,k.sep,k.dp.map (λ_ _ _ q=>⟨q,rfl⟩) (λ_ ds q=>⟨ds,q,rfl⟩) λi pt d v fp q s r w n=>?_⟩,hG,hH,λj es q s=>?_,λj pt d v fp' q s r=>?_⟩
 .have z:b≠p:=KO q hb
  rw[US z];exact k.bh b o (by rw[US z];exact q)
 .rw[US (KO q hG)];exact k.gh b o q
 .have z:a≠p:=KO q hb
  exact k.np a w (by rw[US z];exact q) n
 .obtain⟨a,vs,h1,h2,h3,h4,h5⟩:=k.own i ds q
  have z:a≠p:=λe=>by subst e;rw[Kd]at h2;cases h2
  exact⟨a,vs,h1,by rw[US z]at h2;exact h2,h3,by rw[US z];exact h4,h5⟩
 .have zz:∀b∈fp,b≠p:=λb m e=>by subst e;have:=(w b m).1;rw[Kd]at this;cases this
  refine⟨r.upd (λ_ e=>by rw[hH]at e;cases e) (λm=>zz p m C3),λb m=>?_⟩;obtain⟨w1,w2⟩:=w b m;rw[US (zz b m)]at w1;exact⟨w1,w2⟩
 .obtain⟨a,vs,h1,h2,h3,h4,h5⟩:=k.own j es q
  rw[h1]at s;cases s;rw[Kd]at h2;cases h2
 .obtain⟨ω,k1,_⟩:=k.dp
  obtain⟨v',fp,s',r',_,w⟩:=k1 j pt d q;rw[s]at s';cases s';have zz:p∉fp:=λm=>by have:=(w p m).1;rw[Kd]at this;cases this
  have e:=(r'.upd (o:=u) (λ_ e=>by rw[hH]at e;cases e) zz).uniq (.refl _) r;rw[←e];exact zz
theorem F8:PE X (.Dict [] [] pos) (tT X.K B G0 .dic (UE (.dict []))):=UR EX λσ H Q ⟨G,ρ,k,a⟩ p hp=>by
 obtain⟨f1,f2,f3,f4,f5⟩:=(k.under hp).fillO (u:=.dK []) (k.bh.free hp) (k.g0.free (k.gh.free hp));have e:upd (upd H p (.dK [])) p (.dK [])=upd H p (.dK []):=by funext b;unfold upd;split<;>rfl
 rw[e]at f1 f5;exact a (.ref p) [p] _ _ f1 (.refl _) ⟨.dic (ks:=[]) (vs:=[]) (ds:=[]) C3 C3 Kd .nil,Vf p,λb m=>by rw[Qw.mp m];exact⟨k.bh.free hp,f2⟩,λb m=>by rw[Qw.mp m];exact f4,λb m=>by rw[Qw.mp m];exact f5⟩
theorem M7{j:Nat}{g f:M D}{ρ ρ1 ρ2 ρ':UA}{d y e0:D}{k:Key}{kvs:List (D×D)}(h1:f ρ=.ok d ρ1)(q1:ρ1[j]?=O (O (.deep .dic e0)))(h2:g ρ1=.ok y ρ2)(hk:ZA y=O k)(q2:ρ2[j]?=O (O (.deep .dic (.dict kvs))))(hl:kvs.length<1000)
  (h3:ρ2.set j (O (.deep .dic (.dict (Z5 kvs k d))))=ρ'):VO j g f ρ=.nx ρ':=by
 unfold VO sB;rw[h1];dsimp only;rw[q1];dsimp only;rw[h2];dsimp only;rw[hk,q2];dsimp only;rw[Qq hl,h3]
end
end DL
namespace L2
open PySem PySem.Spec PyProof.Rows PySem.Calls PyProof.V
end L2
namespace DL
open PySem PySem.Spec L2
open PyProof.Rows hiding St
section
variable{X:Cx}
noncomputable def Wc:D->D->Bi
 |.list xs,.list ys=>if xs.length=ys.length then C4 else O C6
 |_,_=>C4
theorem NE(hu:X.A.units+64<cLine):OpB X (Ui .Eq) Wc:=by
 refine⟨λv u H Q=>∃l m xs ys,v=.ref l/\u=.ref m/\SqL X.K H l xs/\SqL X.K H m ys/\xs.length≠ys.length/\Q (.bl C6) H,?_,λv u G H x y d Q s rx ry e k=>?_⟩
 .intro pins s σ H x y v u Q I rx ry h
  obtain⟨l,m,xs,ys,rfl,rfl,h1,h2,hne,q⟩:=h;cases rx;cases ry;obtain⟨its,r,p,z⟩:=I.list h1;obtain⟨its2,r2,p2,z2⟩:=I.list h2;refine SeqAt.eq_list_lengthsAt p.isList p2.isList ?_ (by lia) ⟨.bl C6,H,I,rfl,q⟩;rw[QL,QL,←r.length,←r2.length];simpa using hne
 .unfold Wc at e
  split at e
  .split at e
   .cases e
   .rename_i hl
    cases e;obtain⟨l,vs,rfl,h1,r1⟩:=rx.lst_inv;obtain⟨m,ws,rfl,h2,r2⟩:=ry.lst_inv;exact⟨l,m,vs,ws,rfl,rfl,s.seq h1,s.seq h2,by rw[r1.length,r2.length];exact hl,k⟩
  .cases e
noncomputable def Wd(x y:D):Bi:=(Wc x y).orElse λ_=>oEq x y
theorem NC(hu:X.A.units+64<cLine):OpB X (Ui .Eq) Wd:=(NE hu).or (B_eq hu)
theorem Gg{xs:C7}:Wd (.list xs) (.list [])=O xs.isEmpty:=by
 cases xs with
 |nil=>kernel_rfl
 |cons x r=>rfl
end
noncomputable def tgN:Ue->List Str
 |.Name x _=>[x]
 |.Tuple [.Name x _] _ _=>[x]
 |.Tuple [.Name x _,.Name y _] _ _=>[x,y]
 |.Tuple [.Name x _,.Name y _,.Name z _] _ _=>[x,y,z]
 |.Tuple [.Name x _,.Name y _,.Name z _,.Name u _] _ _=>[x,y,z,u]
 |_=>[]
noncomputable def adN(vs:List Str):List Str->List Str
 |[]=>vs
 |x::r=>adN (if vs.elem x then vs else vs++[x]) r
noncomputable def Wf(vs:List Str):List Comprehension->List Str
 |[]=>vs
 |⟨tg,_,_,_⟩::r=>Wf (adN vs (tgN tg)) r
noncomputable def dotN(x:Str):Str:=("." : Str)++x
noncomputable def blN(N:List Str)(gs:List Comprehension):List Str:=N.map (λx=>if(Wf [] gs).elem x then dotN x else x)++Wf [] gs
noncomputable def glN(sc:Scope):List Str:=sc.names.filterMap λy=>match y.2 with | .globalImplicit=>O y.1|_=>C4
abbrev NmF(s:Stmt)(N:List Str):Prop:=FnNm (Kw s) N (glN (Kw s))
theorem mq{α:Type}{l:List α}{x:α}(n:Nat)(h:l[n]?=O x):x∈l:=Qt h
section
variable{sc:Scope}{N gl:List Str}{x:Str}
theorem gA(H:FnNm sc N gl)(h:gl.elem x=C5):sc.names.lookup x=O .globalImplicit:=H.gl x (by simpa using h)
end
section
variable{X:Cx}{B G0:Hp}{KX:XW}{e e1 e2 o a b c i:Ue}{gl:List Str}{pos p2:Pos}{x:Str}{j:Nat}
theorem NB(H:FnNm X.env.scope X.N gl)(hi:X.N[j]?=O x:=by rfl)(hf:X.fn x=C5∨X.env.scope.names.lookup x=O .local:=by first|exact .inl rfl|exact .inr rfl|assumption):PG X (.Name x pos) (tG X.K B G0 (gN j)):=Pn (WP H.nd hi (lq H j hi) hf)
theorem M6{N':List Str}{scope:Scope}{cl:List (Str×Uc)}{C:Uc}{s₀:Ua}{H₀:Hp}{ex:Be}(hN:N'.Nodup:=by decide +kernel)(hi:N'[j]?=O x:=by rfl)(hl:locK (scope.names.lookup x)=C5:=by rfl):PG (X.blk N' scope cl C s₀ H₀ ex) (.Name x pos) (tG X.K B G0 (gN j)):=Pn (WP hN hi (Pm hl).1 (Pm hl).2)
theorem aSet{f:M D}(H:FnNm X.env.scope X.N gl)(he:PE X e (tD X.K B G0 f))(hi:X.N[j]?=O x:=by rfl)(hs:swapsWith e (O (.Name x p2)) pos.line X.env=pure C6:=by rfl)
  (hf:X.fn x=C5∨X.env.scope.names.lookup x=O .local:=by first|exact .inl rfl|exact .inr rfl|assumption):PS X (.Assign [.Name x p2] e pos) (tS X.K B G0 KX (UY j f)):=MP H.nd hi (lq H j hi) he hs hf
theorem Rx{f:M C7}(H:FnNm X.env.scope X.N gl)(he:PE X e (tL X.K B G0 f))(hi:X.N[j]?=O x:=by rfl)(hs:swapsWith e (O (.Name x p2)) pos.line X.env=pure C6:=by rfl)
  (hf:X.fn x=C5∨X.env.scope.names.lookup x=O .local:=by first|exact .inl rfl|exact .inr rfl|assumption):PS X (.Assign [.Name x p2] e pos) (tS X.K B G0 KX (Km j f)):=HQ H.nd hi (lq H j hi) he hs hf
theorem NA{f:M D}{pt:Pat}(H:FnNm X.env.scope X.N gl)(he:PE X e (tT X.K B G0 pt f))(hi:X.N[j]?=O x:=by rfl)(hs:swapsWith e (O (.Name x p2)) pos.line X.env=pure C6:=by rfl)
  (hf:X.fn x=C5∨X.env.scope.names.lookup x=O .local:=by first|exact .inl rfl|exact .inr rfl|assumption):PS X (.Assign [.Name x p2] e pos) (tS X.K B G0 KX (Xn j pt f)):=Gq H.nd hi (lq H j hi) he hs hf
theorem Nz{l:Bool}{tg elt iter:Ue}{ifs:Ba}{gs:List Comprehension}{scope:Scope}{f:M C7}{s:D->UA->Bg}{t:M Bool}{rd:RdB}{F:M C7}{k:Nat}{SC:Scope}{N1:List Str}(H:FnNm SC N1 gl)(le:∀ρ es ρ',F ρ=.ok es ρ'->dCG l f k s t rd ρ=.ok es ρ')(hc:X.calm=C5)
  (hi:PI X tg iter (iD X.K B G0 f)) (Bm:Zz X (blN N1 (⟨tg,iter,ifs,0⟩::gs)) scope (.ListComp elt (⟨tg,iter,ifs,0⟩::gs) scope pos) tg ifs s t rd) (hb:XV Va SC scope N1 (blN N1 (⟨tg,iter,ifs,0⟩::gs)) k=C5) (h1:X.env.scope=SC:=by rfl) (h2:X.N=N1:=by rfl) (hs:∀x,Uy iter X.env x=pure x:=by intro _;rfl) :
  PE X (.ListComp elt (⟨tg,iter,ifs,0⟩::gs) scope pos) (tL X.K B G0 F):=N7 _ _ _ k le hc hi Bm h1 h2 hb hs
theorem Ny{l:Bool}{y:Str}{py spos:Pos}{tg elt iter:Ue}{ifs:Ba}{gs:List Comprehension}{scope:Scope}{f:M C7}{s:D->UA->Bg}{t:M Bool}{rd:RdB}{F:M C7}{k:Nat}{SC:Scope}{N1:List Str}(H:FnNm SC N1 gl)(le:∀ρ es ρ',F ρ=.ok es ρ'->dCG l f k s t rd ρ=.ok es ρ')(hc:X.calm=C5)
  (hi:PI X tg iter (iD X.K B G0 f)) (Bm:Zz X (blN N1 (⟨tg,iter,ifs,0⟩::gs)) scope (.ListComp elt (⟨tg,iter,ifs,0⟩::gs) scope pos) tg ifs s t rd) (hb:XV Va SC scope N1 (blN N1 (⟨tg,iter,ifs,0⟩::gs)) k=C5) (hj:N1[j]?=O y:=by rfl) (hy:SC.names.lookup y=O .local:=by rfl) (h1:X.env.scope=SC:=by rfl) (h2:X.N=N1:=by rfl) (hs:∀x,Uy iter X.env x=pure x:=by intro _;rfl)
  (hsw:swapsWith (.ListComp elt (⟨tg,iter,ifs,0⟩::gs) scope pos) (O (.Name y py)) spos.line X.env=pure C5:=by rfl) :
  PS X (.Assign [.Name y py] (.ListComp elt (⟨tg,iter,ifs,0⟩::gs) scope pos) spos) (tS X.K B G0 KX (Km j F)):=sD_1 _ _ _ k le (h2 ▸ H.nd) (h2 ▸ hj) (h1 ▸ hy) hc hi Bm h1 h2 hb hs hsw
end
end DL
namespace DL
open PySem PySem.Spec L2
open PyProof.Rows hiding St
open Builtin Builtin.Str
end DL
namespace DL
open PySem PySem.Spec L2
open PyProof.Rows hiding St
end DL
namespace DL
open PySem PySem.Spec L2
open PyProof.Rows hiding St
open PySem.SeqRoads2 PySem.SeqAt
end DL
namespace DL
open PySem PySem.Spec L2
open PyProof.Rows hiding St
end DL
namespace L2
open PySem PySem.Spec PyProof.Rows
end L2
namespace DL
open PySem PySem.Spec L2
open PyProof.Rows hiding St
section
variable{K:Frag}{B G0 G H:Hp}{σ:St}{ρ:UA}{KX:XW}
theorem EOk.hideAt{i:Nat}{x:Option V}(k:EOk K B G0 G H σ ρ):EOk K B G0 G H (σ.set i x) (ρ.set i C4) where
 bh:=k.bh
 gh:=k.gh
 g0:=k.g0
 np:=k.np
 len:=by rw[QH,QH];exact k.len
 pub:=λj d' q=>by
  by_cases z:i=j
  .subst z
   have:=Kk q;cases this
  .rw[Qf z]at q⊢
   exact k.pub j d' q
 own:=λj ds q=>by
  by_cases z:i=j
  .subst z
   have:=Kk q;cases this
  .rw[Qf z]at q⊢
   exact k.own j ds q
 sep:=λj l c es fs q1 q2 s1 s2=>by
  have z1:i≠j:=λz=>by subst z;have:=Kk q1;cases this
  have z2:i≠l:=λz=>by subst z;have:=Kk q2;cases this
  rw[Qf z1]at q1 s1;rw[Qf z2]at q2 s2;exact k.sep j l c es fs q1 q2 s1 s2
 dp:=k.dp.setOther (λs e=>by cases e)
end
end DL
namespace DL
open PySem PySem.Spec L2
open PyProof.Rows hiding St
open PySem.SeqRoads2 PySem.SeqAt
end DL
namespace DL
open PySem PySem.Spec L2
open PyProof.Rows hiding St
noncomputable def VwO(p d:Uc):HO:=.ext λh=>h.IsValuesView p d
section
variable{X:Cx}{B G0:Hp}{e o:Ue}{pos apos cpos p2:Pos}
theorem EF:MtR X "dict.values" (λx xs H Q=>∃a kvs,x=.ref a/\xs=[]/\Rd H a (.dK kvs)/\∀p,H p=C4->Q (.ref p) (upd H p (VwO p a))):=by intro pins s σ H x xs v us Q I rx rs h;obtain⟨a,kvs,rfl,rfl,e,q⟩:=h;obtain rfl:v=Value.ref a:=rx;cases rs;obtain⟨z,hd,vs,rel,dd⟩:=VS I.hok e;refine call_meetsIn PySem.F.slot_dict_values dd.typeIs PySem.F.entry_dict_values (PySem.F.args_dict_values_1 _) (meets_dict_values (ZD X.prog X.w) a hd) ⟨⟨_,dd⟩,?_⟩;exact⟨.ref _,_,I.laid (λb o e=>Ql _ e) (Qo _) (show Ku X.prog X.w _ _ _ (VwO _ a)from⟨⟨_,QB _ C3,rfl,rfl⟩,⟨_,QB _ C3⟩,λh1 h2 ⟨o,g1,g2⟩ k=>⟨o,k o g1,g2⟩⟩),rfl,q _ (I.hok.fresh (Qo _))⟩
theorem R8{κ:Type}:∀{kvs:List (κ×V)}{vs:List (κ×J9)},KV kvs vs->Vals (kvs.map (·.2)) (vs.map (·.2))
 |[],[],_=>.nil
 |_::_,_::_,.cons h t=>.cons h.2 (R8 t)
theorem CP(hc:X.calm=C5):ZC X (.type "list") (λxs H Q=>∃r a kvs,xs=[.ref r]/\H r=O (VwO r a)/\Rd H a (.dK kvs)/\∀p,H p=C4->Q (.ref p) (upd H p (.lst (kvs.map (·.2))))):=by
 intro pins s σ H xs us Q I rx h;obtain⟨r,a,kvs,rfl,hr,e,q⟩:=h;obtain⟨u,rfl,ru⟩:=rx.one;cases ru;obtain⟨hw,_,_⟩:=I.hok r _ hr;obtain⟨z,hd,vs,rel,dd⟩:=VS I.hok e;obtain⟨o,es,ep,g1,g2⟩:=dd;refine PySem.W.kdl_call (PySem.W.kdl_values (kvs:=vs) (knd:=ZD X.prog X.w) (d:=a) (r:=r) (ep:=ep)) (I.ok.hd hc) ⟨hw,o,es,g1,g2⟩ (by rw[←rel.length];exact z) λh' tk acc' c' hk hS hI=>?_
 refine⟨.ref _,_,I.laid hk (Qo _) (show Ku X.prog X.w _ _ _ (.lst (kvs.map (·.2)))from ?_),rfl,q _ (I.hok.fresh (Qo _))⟩;refine⟨by rw[List.length_map];exact z,acc'.toList,c',?_,by simpa using hS⟩
 have e2:acc'.toList=vs.map (·.2):=by
  have hl:acc'.toList.length=vs.length:=by simpa using hI.1
  refine List.ext_getElem (by rw[hl,Qd]) λi h1 h2=>?_
  obtain⟨k,hk⟩:=hI.2 i acc'.toList[i] (by rw[←Array.getElem?_toList];exact Qb h1);rw[List.getElem_map];obtain⟨_,hk⟩:=Qg.mp hk;rw[hk]
 rw[e2];exact R8 rel
noncomputable def TW:D->Bool
 |.int _=>C5
 |.str _=>C5
 |_=>C6
noncomputable def YQ:D->Option C7
 |.dict kvs=>if(kvs.all λkv=>TW kv.1)=C5 then O (kvs.map (·.2))else C4
 |_=>C4
theorem Sn{α β:Type}:∀{as:List α}{bs:List β},as.length=bs.length->(as.zip bs).map (·.2)=bs
 |[],[],_=>rfl
 |_::as,_::bs,h=>congrArg _ (Sn (by simpa using h))
theorem EE{K:Frag}{G:Hp}{v:V}{d:D}{ds:C7}(r:Rep K G v d)(h:YQ d=O ds):∃a ks vs,v=.ref a/\G a=O (.dK ks)/\ks.map (·.2)=vs/\Reps K G vs ds:=by
 unfold YQ at h;split at h
 .split at h
  .rename_i hk
   cases h;cases r with
   |dic h=>exact⟨_,[],[],rfl,h,rfl,.nil⟩
   |exc _ _ _ _=>cases hk
   |@dct a ks vs ds kvs e hne hl h r=>subst e;refine⟨a,ks.zip vs,vs,rfl,h,Sn (by rw[hl,r.length]),?_⟩;rw[Sn (by rw[Qd,hl])];exact r
   |@dtt a o ks vs ds kvs e hl h r=>subst e;cases hk
  .cases h
 .cases h
theorem Cg{f:M D}{p4:Pos}(hc:X.calm=C5)(hg:Gl X "list")(hm:X.mg "list" = C4)(ho:PE X o (tD X.K B G0 f))(hbase:attributeBase o "values" X.env (eval o X.env)=eval o X.env:=by rfl)(hline:(apos.endLine==cpos.line)=C5:=by rfl)
  (BE:Uh [.Call (.Attribute o "values" apos) [] [] cpos] X.env=(C6,eval (.Call (.Attribute o "values" apos) [] [] cpos) X.env)::Uh [] X.env:=by rfl) :
  PE X (.Call (.Name "list" p4) [.Call (.Attribute o "values" apos) [] [] cpos] [] pos) (tL X.K B G0 (UM f λd=>UN (YQ d))):=
 UR (TB (CP hc) hg hm Ri (ZZ (HB F.plainAttrs_dict F.slot_dict_values F.type_dict_values EF ho hbase hline) Z1 BE) (by decide) (by decide) BE C3) λσ H Q ⟨G,ρ,k,q⟩=>by
  refine⟨G,ρ,k,?_⟩;unfold UM at q;cases z:f ρ with
  |bad=>rw[z]at q;exact q.elim
  |ok d ρ1=>
  rw[z]at q;dsimp only[UN]at q;intro v G' H' k' s' r;cases z2:YQ d with
  |none=>rw[z2]at q;exact q.elim
  |some ds=>
  rw[z2]at q;obtain⟨a,ks,vs,rfl,hG,hv,rs⟩:=EE r z2;have hH:=k'.gh _ _ hG;refine⟨.inr (.inr (.inl ⟨rfl,.inl ⟨_,hH⟩⟩)),a,ks,rfl,rfl,.inl hH,λp hp=>⟨p,a,ks,rfl,Kd,.inl (by rw[US (KO hH hp)];exact hH),λp' BJ=>?_⟩⟩;have k2:=k'.ext (Ext.hid (o:=VwO p a) k'.gh hp);rw[hv];exact q p' _ G' _ (k2.ext (Ext.hid k2.gh BJ)) s' (NewL.of k2 BJ rs)
theorem ED{f:M D}{ρ ρ1:UA}{d:D}{ds:C7}(h1:f ρ=.ok d ρ1)(h2:YQ d=O ds):(UM f λd=>UN (YQ d)) ρ=.ok ds ρ1:=Kb h1 (KR h2)
end
section
variable{X:Cx}{B G0:Hp}{KX:XW}{e e':Ue}{es es':Ba}{st st':Stmt}{sts BU:List Stmt}{pos p2:Pos}{x:Str}{j:Nat}{gl:List Str}
theorem F7{g h:SM}(q:st::sts=BU)(h1:PS X st (tS X.K B G0 KX g))(h2:PSs X sts (tS X.K B G0 KX h)):PSs X BU (tS X.K B G0 KX (UD g h)):=q ▸ Po h1 h2
theorem LC{f:M C7}(q:Stmt.Assign [.Name x p2] e pos=st')(H:FnNm X.env.scope X.N gl)(he:PE X e (tL X.K B G0 f))(hi:X.N[j]?=O x:=by rfl)(hs:swapsWith e (O (.Name x p2)) pos.line X.env=pure C6:=by rfl)
  (hf:X.fn x=C5∨X.env.scope.names.lookup x=O .local:=by first|exact .inl rfl|exact .inr rfl|assumption):PS X st' (tS X.K B G0 KX (Km j f)):=q ▸ Rx H he hi hs hf
theorem F6{f:M C7}(q:Expr.List es pos=e')(h:PA X es (tDs X.K B G0 f)):PE X e' (tL X.K B G0 (UM f λxs=>if xs.length<=1000000 then UE xs else λ_=>.bad)):=q ▸ SB h
theorem EC{f:M D}{g:M C7}(q:e::es=es')(ha:PE X e (tD X.K B G0 f))(hr:PA X es (tDs X.K B G0 g))(hs:Uh (e::es) X.env=(C6,eval e X.env)::Uh es X.env:=by rfl):PA X es' (tDs X.K B G0 (UG f g)):=q ▸ Oa ha hr hs
end
section
variable{X:Cx}{B G0:Hp}{e o:Ue}{es:Ba}{pos apos cpos p2:Pos}
theorem LB(hu:X.A.units+1<cLine):MtR X "dict.get" (λx xs H Q=>∃a kvs k,x=.ref a/\xs=[kV k]/\Rd H a (.dK kvs)/\Q ((KH kvs k).getD .non) H):=by intro pins s σ H x xs v us Q I rx rs h;obtain⟨a,kvs,k,rfl,rfl,e,q⟩:=h;obtain rfl:v=Value.ref a:=rx;obtain⟨u,rfl,ru⟩:=rs.one;obtain⟨z,hd,vs,rel,dd⟩:=VS I.hok e;refine call_meetsIn PySem.F.slot_dict_get dd.typeIs PySem.F.entry_dict_get (PySem.F.args_dict_get_2 _ _) (meets_dict_get (ZD X.prog X.w) a (TX ru) hd) ⟨_,dd.mapOf,?_⟩;exact⟨(KH kvs k).getD .non,H,I.tok _,(rel.val k).getD (d:=.non) C3,q⟩
noncomputable def VN:D->Bool
 |.dict kvs=>kvs.all λkv=>TW kv.1
 |_=>C6
noncomputable def Y8(x y:D):Bb:=match x,ZA y with
 |.dict kvs,O k=>O (((kvs.find? λp=>decide (ZA p.1=O k)).map (·.2)).getD .none)
 |_,_=>C4
noncomputable def Yz(f:M D)(g:M C7):M D:=UM f λd=>if VN d=C5 then(UM g λks=>UN (match ks with | [k]=>Y8 d k|_=>C4))else λ_=>.bad
theorem R7{K:Frag}{G:Hp}{k:Key}:∀{ks:Bh}{vs:List V}{ds:C7},ks.length=ds.length->Reps K G vs ds->Rep K G ((KH (ks.zip vs) k).getD .non) (((((ks.map kD).zip ds).find? λp=>decide (ZA p.1=O k)).map (·.2)).getD .none)
 |[],_,_,_,_=>.non
 |_::_,[],[],hl,.nil=>by cases hl
 |q::ks,v::vs,d::ds,hl,.cons r t=>by
  by_cases z:q=k
  .subst z
   show Rep K G ((KH ((q,v)::ks.zip vs) q).getD .non) ((((((kD q,d)::(ks.map kD).zip ds)).find? λp=>decide (ZA p.1=O q)).map (·.2)).getD .none);rw[To C3,List.find?_cons_of_pos (by rw[Vr];exact QU C3)];exact r
  .show Rep K G ((KH ((q,v)::ks.zip vs) k).getD .non) ((((((kD q,d)::(ks.map kD).zip ds)).find? λp=>decide (ZA p.1=O k)).map (·.2)).getD .none)
   rw[Tn z,List.find?_cons_of_neg (by rw[Vr];simpa using z)];exact R7 (by simpa using hl) t
theorem GQ{f:M D}{g:M C7}(hu:X.A.units+64<cLine)(ho:PE X o (tD X.K B G0 f))(ha:PA X (e::es) (tDs X.K B G0 g))
  (hbase:attributeBase o "get" X.env (eval o X.env)=eval o X.env:=by rfl)
  (hfew:((backTo cpos (Uh (e::es) X.env)).all (λx=>!x.1)&&(backToKw cpos (keywordEach [] X.env)).all (λx=>x.1.isSome)
   && decide ((e::es).length+([]:List Keyword).length+(if([]:List Keyword).isEmpty then 0 else 1)<30))=C5:=by rfl)
  (hline:(apos.endLine==cpos.line)=C5:=by rfl) (hs:Uh (e::es) X.env=(C6,eval e X.env)::Uh es X.env:=by rfl) (hplain:(backTo cpos (Uh es X.env)).any (·.1)=C6:=by rfl) :
  PE X (.Call (.Attribute o "get" apos) (e::es) [] cpos) (tD X.K B G0 (Yz f g)):=
 UR (Xu F.plainAttrs_dict F.slot_dict_get F.type_dict_get (LB (by lia)) ho ha hbase hfew hline hs hplain) λσ H Q q=>by
  refine tM.one (R:=Rep X.K) q λv H2 G ρ y k r a=>?_
  by_cases hd:VN y=C5
  .rw[Qq hd]at a
   obtain⟨ad,ks,vs,ds,rfl,hG,hl,rs,rfl⟩:∃(ad:Uc)(ks:Bh)(vs:List V)(ds:C7),v=.ref ad/\G ad=O (.dK (ks.zip vs))/\ks.length=ds.length/\Reps X.K G vs ds/\y=.dict ((ks.map kD).zip ds):=by
    cases r with
    |dic h=>exact⟨_,[],[],[],rfl,h,rfl,.nil,rfl⟩
    |@dct a' ks vs ds kvs e hne hl h r=>exact⟨a',ks,vs,ds,rfl,h,hl,r,by rw[e]⟩
    |exc _ _ _ _=>cases hd
    |@dtt a o ks vs ds kvs e hl h r=>rw[e]at hd;cases hd
    |_=>cases hd
   refine⟨.inr (.inr (.inl ⟨rfl,.inl ⟨_,k.gh _ _ hG⟩⟩)),?_⟩;refine tM.nx (R:=Reps X.K) k a λxs H3 G3 ρ3 es k3 s3 r3 a3=>?_
   obtain⟨d,e,a4⟩:=a3.opt;split at e
   .rename_i ky
    obtain⟨u,rfl,ru⟩:=r3.one_inv;unfold Y8 at e;split at e
    .rename_i kvs kk e1 e2
     cases e1;cases e;have hy:=PX e2;subst hy;have hu:=ru.key_inv;subst hu;have:=R7 (k:=kk) hl (rs.mono s3);exact⟨ad,_,kk,rfl,rfl,.inl (k3.gh _ _ (s3 _ _ hG)),aft.now a4 k3 this⟩
    .cases e
   .cases e
  .rw[QE hd]at a
   exact a.elim
theorem RH{f:M D}{g:M C7}{ρ ρ1 ρ2:UA}{d k r:D}(h1:f ρ=.ok d ρ1)(hd:VN d=C5)(h2:g ρ1=.ok [k] ρ2)(h3:Y8 d k=O r):Yz f g ρ=.ok r ρ2:=by unfold Yz;refine Kb h1 ?_;rw[Qq hd];exact Kb h2 (KR h3)
end
theorem EOk.publishD{K:Frag}{B G0 G H:Hp}{σ:St}{ρ:UA}{i:Nat}{d:D}(k:EOk K B G0 G H σ ρ)(h:ρ[i]?=O (O (.deep .dic d))) :
  ∃a G',σ[i]?=O (O (.ref a))/\Same G G'/\Rep K G' (.ref a) d/\EOk K B G0 G' H σ (ρ.set i (O (.pub d))):=by
 obtain⟨ω,k1,k2⟩:=k.dp;obtain⟨v,fp,h1,r,nd,w⟩:=k1 i _ _ h;have hl:i<ρ.length:=(Qg.mp h).1;cases r with
 |@dic a ks vs ds kvs e hl' hH hr=>
 obtain⟨h2,h3,hω⟩:=w a Qh;have sg:Same G (upd G a (.dK (ks.zip vs))):=KB h3
 have rr:Rep K (upd G a (.dK (ks.zip vs))) (.ref a) (.dict kvs):=by
  cases ks with
  |nil=>
   have e:kvs=[]:=by rw[e];rfl
   subst e;exact .dic Kd
  |cons q ks=>exact .dct e (by simp) hl' Kd (hr.mono sg)
 have nz:∀{m:Nat}{s:Sl},(ρ.set i (O (Sl.pub (.dict kvs))))[m]?=O (O s)->(i=m/\s=.pub (.dict kvs))∨(i≠m/\ρ[m]?=O (O s)):=λ{m s} q=>by
  by_cases z:i=m
  .subst z
   rw[QD hl]at q;cases q;exact .inl ⟨rfl,rfl⟩
  .rw[Qf z]at q;exact .inr ⟨z,q⟩
 refine⟨a,upd G a (.dK (ks.zip vs)),h1,sg,rr,⟨k.bh,λb u q=>?_,k.g0.trans sg,λb o q n=>?_,by rw[QH];exact k.len,λj d q=>?_,λj es q=>?_,λj l c es fs q1 q2 s1 s2=>?_,?_⟩⟩
 .by_cases z:b=a
  .subst z;rw[Kd]at q;cases q;exact hH
  .rw[US z]at q;exact k.gh b u q
 .have z:b≠a:=λz=>by subst z;rw[h2]at q;cases q
  rw[US z];exact k.np b o q n
 .rcases nz q with ⟨rfl,e⟩|⟨_,q⟩
  .cases e
   exact⟨.ref a,h1,rr⟩
  .obtain⟨v,g1,g2⟩:=k.pub j d q
   exact⟨v,g1,g2.mono sg⟩
 .rcases nz q with ⟨_,e⟩|⟨zi,q⟩
  .cases e
  .obtain⟨b,ws,g1,g2,g3,g4,g5⟩:=k.own j es q
   have zb:b≠a:=λe=>zi (by rw[←hω,←e];exact k2 j es b q g1)
   exact⟨b,ws,g1,g2,by rw[US zb];exact g3,g4,g5.mono sg⟩
 .rcases nz q1 with ⟨_,e⟩|⟨_,q1⟩
  .cases e
  .rcases nz q2 with ⟨_,e⟩|⟨_,q2⟩
   .cases e
   .exact k.sep j l c es fs q1 q2 s1 s2
 .refine⟨ω,λm p d q=>?_,λm es b q s=>?_⟩
  .rcases nz q with ⟨_,e⟩|⟨zi,q⟩
   .cases e
   .obtain⟨v,fp,s,r,n,w2⟩:=k1 m p d q
    exact⟨v,fp,s,r.mono sg (.refl _),n,λb mb=>⟨(w2 b mb).1,by rw[US (λz=>zi (by rw[←hω,←z];exact(w2 b mb).2.2))];exact(w2 b mb).2.1,(w2 b mb).2.2⟩⟩
  .rcases nz q with ⟨_,e⟩|⟨_,q⟩
   .cases e
   .exact k2 m es b q s
noncomputable def W1(i:Nat):M D:=λρ=>match ρ[i]? with
 |some (O (.deep .dic d))=>.ok d (ρ.set i (O (.pub d)))
 |_=>.bad
section
variable{X:Cx}{B G0:Hp}{e:Ue}
theorem GP{i:Nat}(h:PE X e (U2 i)):PE X e (tD X.K B G0 (W1 i)):=UR h λσ H Q ⟨G,ρ,k,a⟩=>by
 unfold W1 at a;split at a
 .rename_i d q
  obtain⟨ad,G',h1,h2,h3,h4⟩:=k.publishD q;exact⟨.ref ad,h1,a (.ref ad) G' H h4 h2 h3⟩
 .exact a.elim
theorem GO{i:Nat}{ρ ρ':UA}{d:D}(h:ρ[i]?=O (O (.deep .dic d)))(h2:ρ.set i (O (.pub d))=ρ'):W1 i ρ=.ok d ρ':=by unfold W1;rw[h];subst h2;rfl
end
section
variable{X:Cx}{B G0:Hp}{KX:XW}{a b e e':Ue}{es es':Ba}{st st':Stmt}{sts BU:List Stmt}{pos p2:Pos}{x:Str}{j:Nat}{gl:List Str}
theorem Nx{f:M D}(q:Stmt.Assign [.Name x p2] e pos=st')(H:FnNm X.env.scope X.N gl)(he:PE X e (tD X.K B G0 f))(hi:X.N[j]?=O x:=by rfl)(hs:swapsWith e (O (.Name x p2)) pos.line X.env=pure C6:=by rfl)
  (hf:X.fn x=C5∨X.env.scope.names.lookup x=O .local:=by first|exact .inl rfl|exact .inr rfl|assumption):PS X st' (tS X.K B G0 KX (UY j f)):=q ▸ aSet H he hi hs hf
theorem F5{f:M C7}(q:Expr.List es pos=e')(h:PA X es (tDs X.K B G0 f)):PE X e' (tD X.K B G0 (Kg f)):=q ▸ Pp h
theorem F4{x1}{f:M C7}(q:Expr.Tuple es x1 pos=e')(h:PA X es (tDs X.K B G0 f)):PE X e' (tD X.K B G0 (ZM f)):=q ▸ Pq h
theorem RG{op:Operator}{p:D->D->Bb}{f g:M D}(o:OpD X (binaryOp op) p)(q:Expr.BinOp a op b pos=e')(ha:PE X a (tD X.K B G0 f))(hb:PE X b (tD X.K B G0 g)):PE X e' (tD X.K B G0 (UF p f g)):=q ▸ XQ o ha hb
end
section
variable{K:Frag}{B G0 G H:Hp}{σ:St}{ρ:UA}
theorem Ts{i:Nat}{p:Pat}{d:D}(h:ρ[i]?=O (O (.deep p d))):Zn ρ i=O (p,d):=by unfold Zn;rw[h]
theorem OK{i:Nat}{ds:C7}(h:ρ[i]?=O (O (.own ds))):Zn ρ i=O (.lst .leaf,.list ds):=by unfold Zn;rw[h]
end
abbrev TyM:=Uc->Bj
def SpI(H:Hp)(T:TyM)(c:Nat):Prop:=∀a n,T a=O n->∃vs,H a=O (.lst vs)/\vs.length<=c/\∀m,n=m+1->∀v∈vs,∃b,v=.ref b/\T b=O m
noncomputable def YH(H:Hp):Bc->V->Option V
 |[],v=>O v
 |k::r,.ref a=>match H a with
  |some (.tup vs)=>(vs[k]?).bind (YH H r)
  |_=>C4
 |_,_=>C4
theorem Tf{H:Hp}:∀{π:Bc}{v u:V},YH H π v=O u->WF H π v=O u
 |[],v,u,e=>by cases e;rfl
 |k::r,.ref a,u,e=>by
  unfold YH at e;unfold WF;split at e
  .rename_i vs h
   rw[h];dsimp only;cases z:vs[k]? with
   |none=>rw[z]at e;cases e
   |some w=>rw[z]at e;exact Tf e
  .cases e
 |k::r,.int _,u,e=>nomatch e
 |k::r,.non,u,e=>nomatch e
 |k::r,.bl _,u,e=>nomatch e
 |k::r,.str _,u,e=>nomatch e
abbrev Gam:=List (Nat×Bc×Nat)
def GOk(H:Hp)(T:TyM)(σ:St)(Γ:Gam):Prop:=∀x∈Γ,∃v a,σ[x.1]?=O (O v)/\YH H x.2.1 v=O (.ref a)/\T a=O x.2.2
structure SpR(H:Hp)(T:TyM)(σ:St)(ns:Bc)(top:Nat)(H':Hp)(T':TyM)(σ':St):Prop where
 oth:∀a u,T a=C4->H a=O u->H' a=O u
 ext:∀a n,T a=O n->T' a=O n
 new:∀a n,T' a=O n->T a=O n∨H a=C4
 low:∀a n,T a=O n->top<n->H' a=H a
 len:σ'.length=σ.length
 st:∀i,i∉ns->σ'[i]?=σ[i]?
section
variable{H H' H'':Hp}{T T' T'':TyM}{σ σ' σ'':St}{ns ms:Bc}{top top' c c':Nat}{Γ:Gam}
theorem SpR.refl:SpR H T σ ns top H T σ:=⟨λ_ _ _ q=>q,λ_ _ q=>q,λ_ _ q=>.inl q,λ_ _ _ _=>rfl,rfl,λ_ _=>rfl⟩
theorem SpR.trans(a:SpR H T σ ns top H' T' σ')(b:SpR H' T' σ' ms top H'' T'' σ''):SpR H T σ (ns++ms) top H'' T'' σ'' where
 oth:=λx u t h=>b.oth x u (by
  cases z:T' x with
  |none=>rfl
  |some n=>
   rcases a.new x n z with q|q
   .rw[t]at q;cases q
   .rw[h]at q;cases q) (a.oth x u t h)
 ext:=λx n q=>b.ext x n (a.ext x n q)
 new:=λx n q0=>by
  rcases b.new x n q0 with q|q
  .exact a.new x n q
  .cases z:T x with
   |some m=>have h1:=b.ext x m (a.ext x m z);rw[q0]at h1;cases h1;exact .inl C3
   |none=>
    cases y:H x with
    |none=>exact .inr C3
    |some u=>rw[a.oth x u z y]at q;cases q
 low:=λx n q l=>(b.low x n (a.ext x n q) l).trans (a.low x n q l)
 len:=b.len.trans a.len
 st:=λi h=>(b.st i λm=>h (Qr _ m)).trans (a.st i λm=>h (QI _ m))
theorem SpR.up(a:SpR H T σ ns top H' T' σ')(h:top<=top'):SpR H T σ ns top' H' T' σ':=⟨a.oth,a.ext,a.new,λx n q l=>a.low x n q (JJ h l),a.len,a.st⟩
theorem Nc(I:SpI H T c)(a:SpR H T σ ns top H' T' σ'):∀{π:Bc}{v u:V},YH H π v=O u->YH H' π v=O u
 |[],v,u,e=>e
 |k::r,.ref x,u,e=>by
  unfold YH at e⊢;split at e
  .rename_i vs h
   have:T x=C4:=by
    cases z:T x with
    |none=>rfl
    |some n=>obtain⟨ws,hw,_⟩:=I x n z;rw[h]at hw;cases hw
   rw[a.oth x _ this h];dsimp only;cases z:vs[k]? with
   |none=>rw[z]at e;cases e
   |some w=>rw[z]at e;exact Nc I a e
  .cases e
 |k::r,.int _,u,e=>nomatch e
 |k::r,.non,u,e=>nomatch e
 |k::r,.bl _,u,e=>nomatch e
 |k::r,.str _,u,e=>nomatch e
theorem GOk.keep(I:SpI H T c)(g:GOk H T σ Γ)(a:SpR H T σ ns top H' T' σ')(h:∀x∈Γ,x.1∉ns):GOk H' T' σ' Γ:=λx m=>by obtain⟨v,b,h1,h2,h3⟩:=g x m;exact⟨v,b,by rw[a.st x.1 (h x m)];exact h1,Nc I a h2,a.ext b _ h3⟩
theorem SpI.le(I:SpI H T c)(h:c<=c'):SpI H T c':=λa n q=>let ⟨vs,h1,h2,h3⟩:=I a n q;⟨vs,h1,Qy h2 h,h3⟩
theorem SpI.put{a:Uc}{n:Nat}{us:List V}(I:SpI H T c)(h:c<=c')(ha:T a=O n)(hl:us.length<=c')(ty:∀m,n=m+1->∀v∈us,∃b,v=.ref b/\T b=O m):SpI (upd H a (.lst us)) T c':=λb k q=>by
 by_cases z:b=a
 .subst z
  rw[ha]at q;cases q;exact⟨us,Kd,hl,ty⟩
 .obtain⟨vs,h1,h2,h3⟩:=I b k q
  exact⟨vs,by rw[US z];exact h1,Qy h2 h,h3⟩
theorem SpR.put{a:Uc}{n:Nat}{o:HO}(ha:T a=O n)(h:n<=top):SpR H T σ ns top (upd H a o) T σ:=
 ⟨λb u q e=>by rw[US (λz=>by subst z;rw[ha]at q;cases q)];exact e,λ_ _ q=>q,λ_ _ q=>.inl q,λb m q l=>by rw[US (λz=>by subst z;rw[ha]at q;cases q;exact absurd l (Nat.not_lt.mpr h))],rfl,λ_ _=>rfl⟩
noncomputable def KE(T:TyM)(a:Uc)(m:Nat):TyM:=λb=>if b=a then O m else T b
theorem SpI.new{a:Uc}{m:Nat}{us:List V}(I:SpI H T c)(ha:H a=C4)(hl:us.length<=c)(ty:∀k,m=k+1->us=[]):SpI (upd H a (.lst us)) (KE T a m) c/\SpR H T σ ns top (upd H a (.lst us)) (KE T a m) σ:=by
 have tn:T a=C4:=by
  cases z:T a with
  |none=>rfl
  |some n=>obtain⟨ws,hw,_⟩:=I a n z;rw[ha]at hw;cases hw
 have ne:∀{b n},T b=O n->b≠a:=λ{b n} q z=>by subst z;rw[tn]at q;cases q
 refine⟨λb k q=>?_,λb u q e=>?_,λb n q=>?_,λb n q=>?_,λb n q l=>?_,rfl,λ_ _=>rfl⟩
 .unfold KE at q
  by_cases z:b=a
  .subst z
   rw[Qq C3]at q;cases q;exact⟨us,Kd,hl,λk e v mv=>by rw[ty k e]at mv;cases mv⟩
  .rw[QE z]at q
   obtain⟨vs,h1,h2,h3⟩:=I b k q;refine⟨vs,by rw[US z];exact h1,h2,λk' e v mv=>?_⟩;obtain⟨b',e1,e2⟩:=h3 k' e v mv;exact⟨b',e1,by unfold KE;rw[QE (ne e2)];exact e2⟩
 .rw[US (λz=>by subst z;rw[ha]at e;cases e)];exact e
 .unfold KE;rw[QE (ne q)];exact q
 .unfold KE at q
  by_cases z:b=a
  .subst z;exact .inr ha
  .rw[QE z]at q;exact .inl q
 .exact US (ne q)
end
noncomputable def Ke(Γ:Gam)(ns:Bc)(top:Nat)(κ:Nat->Nat):TS:=λDn σ H=>∃T c,SpI H T c/\GOk H T σ Γ/\κ c<=1000000/\(∀i∈ns,i<σ.length)/\∀σ' H' T',SpR H T σ ns top H' T' σ'->SpI H' T' (κ c)->Dn.nx σ' H'
noncomputable def VM(Γ:Gam)(j:Nat)(π:Bc):Bj:=Γ.findSome? λx=>if x.1=j/\x.2.1=π then O x.2.2 else C4
theorem SR{Γ:Gam}{j:Nat}{π:Bc}{n:Nat}(h:VM Γ j π=O n):(j,π,n)∈Γ:=by
 obtain⟨⟨a,b,c⟩,m,e⟩:=List.exists_of_findSome?_eq_some h;split at e
 .rename_i hh
  obtain⟨h1,h2⟩:=hh;cases e;cases h1;cases h2;exact m
 .cases e
noncomputable def itK(κ:Nat->Nat):Nat->Nat->Nat
 |0,c=>c
 |n+1,c=>κ (itK κ n c)
noncomputable def kA(c:Nat):Nat:=c+1
noncomputable def kC(κ1 κ2:Nat->Nat)(c:Nat):Nat:=κ2 (κ1 c)
noncomputable def kF(κ:Nat->Nat)(c:Nat):Nat:=itK κ c c
def Inf(κ:Nat->Nat):Prop:=∀c,c<=κ c
theorem infA:Inf kA:=λc=>Jy c
theorem T5{κ:Nat->Nat}(h:∀c,c<=κ c)(c:Nat):∀{m n:Nat},m<=n->itK κ m c<=itK κ n c
 |m,0,e=>by rw[Nat.le_zero.mp e];exact Qo _
 |m,n+1,e=>by
  by_cases z:m=n+1
  .rw[z];exact Qo _
  .exact Qy (T5 h c (m:=m) (n:=n) (by omega)) (h _)
section
variable{X:Cx}{B G0:Hp}{KX:XW}{e o iter:Ue}{pos:Pos}{st:Stmt}{sts body:List Stmt}{Γ:Gam}{ns ms:Bc}{top top':Nat}{κ κ1 κ2:Nat->Nat}{j n:Nat}{π:Bc}
theorem LA{U:TS}(hn:∀x∈Γ,x.1∉ns)(h1:Inf κ2){Dn:Ends}{σ:St}{H:Hp}(h:Ke Γ (ns++ms) top (kC κ1 κ2) {Dn with nx:=U Dn} σ H):Ke Γ ns top κ1 {Dn with nx:=Ke Γ ms top κ2 {Dn with nx:=U Dn}} σ H:=by obtain⟨T,c,I,g,hk,hl,q⟩:=h;refine⟨T,c,I,g,Qy (h1 _) hk,λi m=>hl i (QI _ m),λσ' H' T' r I'=>⟨T',κ1 c,I',g.keep I r hn,hk,λi m=>by rw[r.len];exact hl i (Qr _ m),λσ2 H2 T2 r2 I2=>q σ2 H2 T2 (r.trans r2) I2⟩⟩
theorem GN(h1:PS X st (Ke Γ ns top κ)):PSs X [st] (Ke Γ ns top κ):=XI h1
theorem GM{U:TS}(h1:PS X st (Ke Γ ns top κ1))(h2:PSs X sts (Z4 (Ke Γ ms top κ2) U))(hn:∀x∈Γ,x.1∉ns:=by decide +kernel)(hi:Inf κ2:=by repeat' first|exact infI|exact infA|refine infF ?_|refine infC ?_ ?_):PSs X (st::sts) (Z4 (Ke Γ (ns++ms) top (kC κ1 κ2)) U):=
 Xs (X9 h1 h2) λDn σ H h=>LA (U:=U) hn hi h
theorem Lz{U:TS}(h1:PS X st (Ke Γ ns top κ))(h2:PSs X sts U):PSs X (st::sts) (Z4 (Ke Γ ns top κ) U):=X9 h1 h2
theorem Ly{u:V}{apos cpos:Pos}(ho:PE X o (Y4 X.K j π))(he:PE X e (tC u))(B5:VM Γ j π=O 0:=by rfl)
  (hbase:attributeBase o "append" X.env (eval o X.env)=eval o X.env:=by rfl)
  (hfew:((backTo cpos (Uh [e] X.env)).all (λx=>!x.1)&&(backToKw cpos (keywordEach [] X.env)).all (λx=>x.1.isSome)
   && decide ([e].length+([]:List Keyword).length+(if([]:List Keyword).isEmpty then 0 else 1)<30))=C5:=by rfl)
  (hline:(apos.endLine==cpos.line)=C5:=by rfl) (hs:Uh [e] X.env=[(C6,eval e X.env)]:=by rfl)
  (hsw:swapsWith (.Call (.Attribute o "append" apos) [e] [] cpos) C4 pos.line X.env=pure C6:=by rfl) :
  PS X (.Expr (.Call (.Attribute o "append" apos) [e] [] cpos) pos) (Ke Γ [] top kA):=
 Kf (X1 (Xu Jn Jv Jw WZ ho (ZZ he Z1 (by rw[hs];rfl)) hbase hfew hline (by rw[hs];rfl) C3) hsw) λD σ H ⟨T,c,I,g,hk,hl,q⟩=>by obtain⟨v,ad,h1,h2,h3⟩:=g _ (SR B5);obtain⟨vs,h4,h5,h6⟩:=I ad 0 h3;exact⟨v,h1,YR.of (Tf h2) ⟨.inl ⟨rfl,_,SqL.of h4⟩,ad,vs,u,rfl,rfl,h4,Qv (JJ h5 hk) lim,q σ _ T (SpR.put h3 (JN _)) (I.put (Jy _) h3 (by rw[Qk];exact Nat.succ_le_succ h5) λm e=>(nomatch e))⟩⟩
noncomputable def Rw(us:List V):TE:=λ_ H Q=>∀p,H p=C4->Q (.ref p) (upd H p (.lst us))
theorem GL:PE X (.List [] pos) (Rw []):=UR (Sd (Z1 (X:=X))) λσ H Q h=>⟨by decide,h⟩
theorem GK{us:List V}{m:Nat}{apos cpos:Pos}(ho:PE X o (Y4 X.K j π))(he:PE X e (Rw us))(hu:us.length<=1/\(us=[]∨m=0):=by exact⟨by decide,by first|exact .inl rfl|exact .inr C3⟩)(B5:VM Γ j π=O (m+1):=by rfl)(ht:m+1<=top:=by decide)
  (hbase:attributeBase o "append" X.env (eval o X.env)=eval o X.env:=by rfl)
  (hfew:((backTo cpos (Uh [e] X.env)).all (λx=>!x.1)&&(backToKw cpos (keywordEach [] X.env)).all (λx=>x.1.isSome)
   && decide ([e].length+([]:List Keyword).length+(if([]:List Keyword).isEmpty then 0 else 1)<30))=C5:=by rfl)
  (hline:(apos.endLine==cpos.line)=C5:=by rfl) (hs:Uh [e] X.env=[(C6,eval e X.env)]:=by rfl)
  (hsw:swapsWith (.Call (.Attribute o "append" apos) [e] [] cpos) C4 pos.line X.env=pure C6:=by rfl) :
  PS X (.Expr (.Call (.Attribute o "append" apos) [e] [] cpos) pos) (Ke Γ [] top kA):=
 Kf (X1 (Xu Jn Jv Jw WZ ho (ZZ he Z1 (by rw[hs];rfl)) hbase hfew hline (by rw[hs];rfl) C3) hsw) λD σ H ⟨T,c,I,g,hk,hl,q⟩=>by
  obtain⟨v,ad,h1,h2,h3⟩:=g _ (SR B5);obtain⟨vs,h4,h5,h6⟩:=I ad (m+1) h3;refine⟨v,h1,YR.of (Tf h2) ⟨.inl ⟨rfl,_,SqL.of h4⟩,λp hp=>?_⟩⟩;have ne:ad≠p:=λz=>by subst z;rw[h4]at hp;cases hp
  obtain⟨I1,R1⟩:=SpI.new (σ:=σ) (ns:=[]) (top:=top) (m:=m) (us:=us) (I.le (Jy c)) hp (Qy hu.1 (Nat.le_add_left 1 c)) λk e=>hu.2.elim id λz=>by rw[z]at e;cases e
  have t1:=R1.ext ad _ h3;refine⟨ad,vs,.ref p,rfl,rfl,by rw[US ne];exact h4,Qv (JJ h5 hk) lim,?_⟩;refine q σ _ _ (R1.trans (SpR.put t1 ht)) (I1.put (Qo _) t1 (by rw[Qk];exact Nat.succ_le_succ h5) λk e v' mv=>?_);cases e;rcases QF.mp mv with mv|mv
  .obtain⟨b,e1,e2⟩:=h6 m C3 v' mv
   exact⟨b,e1,R1.ext b _ e2⟩
  .exact⟨p,Qw.mp mv,by unfold KE;rw[Qq C3]⟩
theorem Lx{y:Str}{iy:Nat}{p1 p4:Pos}(hp:PassesOwn (model X.prog X.w) X.A X.env X.xe)(hc:X.calm=C5)(hN:X.N.Nodup)(hy:X.N[iy]?=O y)(ly:Loc X.env.scope y)(ho:PE X iter (Y4 X.K j π))
  (hb:PSs X body (Ke ((iy,[],n)::Γ) ns n κ)) (B5:VM Γ j π=O (n+1):=by rfl) (htt:n<=top:=by decide) (hi:Inf κ:=by repeat' first|exact infI|exact infA|refine infF ?_|refine infC ?_ ?_) (hn:∀x∈Γ,x.1∉iy::ns:=by decide +kernel) (hyn:iy∉ns:=by decide)
  (hfy:X.fn y=C5∨X.env.scope.names.lookup y=O .local:=by first|exact .inl rfl|exact .inr rfl|assumption) (hs:∀x,Uy iter X.env x=pure x:=by intro _;rfl) :
  PS X (.For (.Name y p1) iter body [] p4) (Ke Γ (iy::ns) top (kF κ)):=by
 refine Kf (VW (pos:=p4) hp hc (Sx ho) (WP (pos:=p1) hN hy ly hfy) hb hs) λDn σ H ⟨T,c,I,g,hk,hl,q⟩=>?_
 obtain⟨v,ad,h1,h2,h3⟩:=g _ (SR B5);obtain⟨vs,h4,h5,h6⟩:=I ad (n+1) h3;refine⟨v,h1,YR.of (Tf h2) ⟨ad,rfl,⟨vs,SqL.of h4⟩,λi m σ' H'=>m=vs.length-i/\i<=vs.length/\∃T',SpR H T σ (iy::ns) n H' T' σ'/\SpI H' T' (itK κ i c),⟨vs.length,rfl,JN _,T,.refl,I⟩,?_⟩⟩;rintro i m σ' H' ⟨rfl,hle,T',R,I'⟩;have Bt:H' ad=O (.lst vs):=(R.low ad _ h3 (Nat.lt_succ_self n)).trans h4;have hiy:iy<σ.length:=hl iy Qh;by_cases hlt:i<vs.length
 .right
  refine⟨⟨vs,vs[i],SqL.of Bt,Qb hlt⟩,λσ2 H2=>∃T2,SpR H T σ (iy::ns) n H2 T2 σ2/\SpI H2 T2 (itK κ (i+1) c),λσ2 H2 ⟨T2,r2,i2⟩=>⟨vs.length-(i+1),by omega,rfl,hlt,T2,r2,i2⟩,λx H2 yl=>?_⟩;obtain⟨rfl,yl⟩:=yl;have hx:=yl vs (SqL.of Bt);rw[Qb hlt]at hx;cases hx;obtain⟨ws,w1,w2,w3⟩:=I' ad (n+1) (R.ext ad _ h3);rw[Bt]at w1;cases w1;obtain⟨b,e1,e2⟩:=w3 n C3 vs[i] (Jc hlt);show Ke _ _ _ _ _ (σ'.set iy (O vs[i])) _;rw[e1];have gk:=g.keep I R hn;refine⟨T',itK κ i c,I',λx m=>?_,Qy (T5 hi c (m:=i+1) (n:=c) (Qy hlt h5)) hk,λz m=>by rw[QH,R.len];exact hl z (Qm _ m),λσ2 H2 T2 r2 i2=>⟨T2,?_,i2⟩⟩
  .rcases QM.mp m with rfl|m
   .exact⟨.ref b,b,QD (by rw[R.len];exact hiy),rfl,e2⟩
   .obtain⟨v',b',g1,g2,g3⟩:=gk x m
    exact⟨v',b',by rw[Qf (λz=>hn x m (by rw[z];exact Qh))];exact g1,g2,g3⟩
  .have r3:=R.trans (ms:=iy::ns) (σ'':=σ2) (H'':=H2) (T'':=T2) ⟨r2.oth,r2.ext,r2.new,r2.low,by rw[r2.len,QH],λk Av=>by
    rw[r2.st k (λz=>Av (Qm _ z)),Qf (λz=>Av (by rw[z];exact Qh))]⟩
   exact⟨r3.oth,r3.ext,r3.new,r3.low,r3.len,λk Av=>r3.st k λz=>(QF.mp z).elim Av Av⟩
 .left
  have e:i=vs.length:=by omega
  exact⟨⟨vs,SqL.of Bt,Q0 hlt⟩,q σ' H' T' (R.up htt) (I'.le (T5 hi c (by rw[e];exact h5)))⟩
end
noncomputable def dep:Pat->Bj
 |.lst p=>O ((dep p).elim 0 (· + 1))
 |_=>C4
noncomputable def Z9:Nat->Pat->List (Bc×Nat)
 |_,.lst p=>[([],(dep p).elim 0 (· + 1))]
 |n+1,.tup ps=>ps.zipIdx.flatMap λx=>(Z9 n x.1).map λy=>(x.2::y.1,y.2)
 |_,_=>[]
noncomputable def gamO(i n:Nat)(p:Pat):Gam:=(Z9 n p).map λx=>(i,x)
noncomputable def eqF:Nat->Pat->Pat->Bool
 |_,.leaf,.leaf=>C5
 |n+1,.lst p,.lst q=>eqF n p q
 |n+1,.tup ps,.tup qs=>ps.length==qs.length&&(ps.zip qs).all λx=>eqF n x.1 x.2
 |_,_,_=>C6
theorem R6{f:Pat->Pat->Bool}(h:∀p q,f p q=C5->p=q):∀{ps qs:List Pat},ps.length=qs.length->(ps.zip qs).all (λx=>f x.1 x.2)=C5->ps=qs
 |[],[],_,_=>rfl
 |[],_::_,e,_=>nomatch e
 |_::_,[],e,_=>nomatch e
 |p::ps,q::qs,e,a=>by rw[Q3,J7,QQ]at a;rw[h p q a.1,R6 h (Nat.succ.inj e) a.2]
theorem VX:∀(n:Nat)(p q:Pat),eqF n p q=C5->p=q
 |0,.leaf,.leaf,_=>rfl
 |0,.lst _,_,h=>by simp[eqF]at h
 |0,.tup _,_,h=>by simp[eqF]at h
 |0,.dic,_,h=>by simp[eqF]at h
 |0,.leaf,.lst _,h=>by simp[eqF]at h
 |0,.leaf,.tup _,h=>by simp[eqF]at h
 |0,.leaf,.dic,h=>by simp[eqF]at h
 |n+1,.leaf,.leaf,_=>rfl
 |n+1,.lst p,.lst q,h=>by rw[VX n p q h]
 |n+1,.tup ps,.tup qs,h=>by simp only[eqF,QQ,beq_iff_eq]at h;rw[R6 (VX n) h.1 h.2]
 |n+1,.leaf,.lst _,h=>by simp[eqF]at h
 |n+1,.leaf,.tup _,h=>by simp[eqF]at h
 |n+1,.leaf,.dic,h=>by simp[eqF]at h
 |n+1,.lst _,.leaf,h=>by simp[eqF]at h
 |n+1,.lst _,.tup _,h=>by simp[eqF]at h
 |n+1,.lst _,.dic,h=>by simp[eqF]at h
 |n+1,.tup _,.leaf,h=>by simp[eqF]at h
 |n+1,.tup _,.lst _,h=>by simp[eqF]at h
 |n+1,.tup _,.dic,h=>by simp[eqF]at h
 |n+1,.dic,_,h=>by simp[eqF]at h
noncomputable def Kr:Nat->Nat->Pat->D->Bool
 |n+1,c,.lst p,.list ds=>decide (ds.length<=c)&&ds.all (Kr n c p)
 |n+1,c,.tup ps,.tuple ds=>(ps.zip ds).all λx=>Kr n c x.1 x.2
 |_,_,.leaf,_=>C5
 |_,_,_,_=>C6
section
variable{K:Frag}{G H:Hp}
def TyAt(H:Hp)(T:TyM)(fp:Be)(c:Nat):Prop:=(∀a k,T a=O k->a∈fp)/\SpI H T c
theorem TyAt.join{T1 T2:TyM}{f1 f2:Be}{c:Nat}(h1:TyAt H T1 f1 c)(h2:TyAt H T2 f2 c)(nd:(f1++f2).Nodup):∃T,TyAt H T (f1++f2) c/\(∀a k,T1 a=O k->T a=O k)/\∀a k,T2 a=O k->T a=O k:=by
 have dj:∀{a k},T2 a=O k->T1 a=C4:=λ{a k} q=>by
  cases z:T1 a with
  |none=>rfl
  |some n=>exact((Q1.mp nd).2.2 a (h1.1 a n z) a (h2.1 a k q) C3).elim
 have e1:∀a k,T1 a=O k->(T1 a).or (T2 a)=O k:=λa k q=>by rw[q];rfl
 have e2:∀a k,T2 a=O k->(T1 a).or (T2 a)=O k:=λa k q=>by rw[dj q];exact q
 refine⟨λa=>(T1 a).or (T2 a),⟨λa k q=>?_,λa k q=>?_⟩,e1,e2⟩<;>dsimp only at q⊢
 .cases z:T1 a with
  |some n=>exact QI _ (h1.1 a n z)
  |none=>rw[z]at q;exact Qr _ (h2.1 a k q)
 .cases z:T1 a with
  |some n=>rw[z]at q;cases q;obtain⟨vs,a1,a2,a3⟩:=h1.2 a k z;exact⟨vs,a1,a2,λm e v mv=>let ⟨b,b1,b2⟩:=a3 m e v mv;⟨b,b1,e1 b m b2⟩⟩
  |none=>rw[z]at q;obtain⟨vs,a1,a2,a3⟩:=h2.2 a k q;exact⟨vs,a1,a2,λm e v mv=>let ⟨b,b1,b2⟩:=a3 m e v mv;⟨b,b1,e2 b m b2⟩⟩
theorem RepO.ty3(c:Nat):Zm K G H
  (λp v d fp=>∀n,Kr n c p d=C5->fp.Nodup->∃T,TyAt H T fp c/\(∀k,dep p=O k->∃b,v=.ref b/\T b=O k)/\∀x∈Z9 n p,∃a,YH H x.1 v=O (.ref a)/\T a=O x.2)
  (λp vs ds fp=>vs.length=ds.length/\∀n,ds.all (Kr n c p)=C5->fp.Nodup->∃T,TyAt H T fp c/\∀k,dep p=O k->∀v∈vs,∃b,v=.ref b/\T b=O k)
  (λps vs ds fp=>∀n,(ps.zip ds).all (λx=>Kr n c x.1 x.2)=C5->fp.Nodup->∃T,TyAt H T fp c/\∀(k i:Nat) p,ps[k]?=O p->∀x∈Z9 n p,∃v a,vs[k]?=O v/\YH H x.1 v=O (.ref a)/\T a=O x.2):=
 RepO.ind3
 (λr n _ _=>⟨λ_=>C4,⟨λ_ _ q=>(nomatch q),λ_ _ q=>(nomatch q)⟩,λk e=>(nomatch e),λx m=>by cases n<;>cases m⟩)
 (λ{p a vs ds fp} h r n hl nd=>by
  cases n with
  |zero=>simp[Kr]at hl
  |succ n=>
  simp only[Kr,QQ,Jh]at hl;obtain⟨na,nf⟩:=Jx.mp nd;obtain⟨T,t1,t2⟩:=r.2 n hl.2 nf;have hv:vs.length<=c:=by rw[r.1];exact hl.1
  have ne:∀{b k},T b=O k->b≠a:=λ{b k} q z=>by subst z;exact na (t1.1 _ _ q)
  have up:∀b k,T b=O k->KE T a ((dep p).elim 0 (· + 1)) b=O k:=λb k q=>by unfold KE;rw[QE (ne q)];exact q
  have me:KE T a ((dep p).elim 0 (· + 1)) a=O ((dep p).elim 0 (· + 1)):=by unfold KE;rw[Qq C3]
  refine⟨KE T a ((dep p).elim 0 (· + 1)),⟨λb k q=>?_,λb k q=>?_⟩,λk e=>⟨a,rfl,by rw[me];exact e⟩,λx m=>?_⟩
  .unfold KE at q
   by_cases z:b=a
   .subst z;exact Qh
   .rw[QE z]at q;exact Qm _ (t1.1 b k q)
  .by_cases z:b=a
   .subst z
    rw[me]at q;cases q;refine⟨vs,h,hv,λm e v mv=>?_⟩
    have zd:dep p=O m:=by
     cases zd:dep p with
     |none=>rw[zd]at e;cases e
     |some k0=>rw[zd]at e;rw[Nat.succ.inj e]
    obtain⟨b',b1,b2⟩:=t2 m zd v mv;exact⟨b',b1,up b' m b2⟩
   .unfold KE at q
    rw[QE z]at q;obtain⟨ws,a1,a2,a3⟩:=t1.2 b k q;exact⟨ws,a1,a2,λm e v mv=>let ⟨b',b1,b2⟩:=a3 m e v mv;⟨b',b1,up b' m b2⟩⟩
  .simp only[Z9,Qw]at m
   subst m;exact⟨a,rfl,me⟩)
 (λ{ps a vs ds fp} h r n hl nd=>by
  cases n with
  |zero=>simp[Kr]at hl
  |succ n=>
  simp only[Kr]at hl;obtain⟨T,t1,t2⟩:=r n hl nd;refine⟨T,t1,λk e=>(nomatch e),λx m=>?_⟩;simp only[Z9,List.mem_flatMap,List.mem_map]at m;obtain⟨⟨q,k⟩,mk,y,my,rfl⟩:=m;have hk:=List.mem_zipIdx_iff_getElem?.mp mk;obtain⟨v,b,e1,e2,e3⟩:=t2 k 0 q hk y my;exact⟨b,by unfold YH;rw[h];dsimp only;rw[e1];exact e2,e3⟩)
 (λe hl h r n hh _=>by cases n<;>simp[Kr]at hh)
 ⟨rfl,λn _ _=>⟨λ_=>C4,⟨λ_ _ q=>(nomatch q),λ_ _ q=>(nomatch q)⟩,λk e v m=>(nomatch m)⟩⟩
 (λh t=>⟨JM Nat.succ t.1,λn hl nd=>by
  rw[J7,QQ]at hl;obtain⟨n1,n2,_⟩:=Q1.mp nd;obtain⟨T1,a1,a2,a3⟩:=h n hl.1 n1;obtain⟨T2,b1,b2⟩:=t.2 n hl.2 n2;obtain⟨T,c1,c2,c3⟩:=a1.join b1 nd;refine⟨T,c1,λk e v m=>?_⟩;rcases QM.mp m with rfl|m
  .obtain⟨b,e1,e2⟩:=a2 k e
   exact⟨b,e1,c2 b k e2⟩
  .obtain⟨b,e1,e2⟩:=b2 k e v m
   exact⟨b,e1,c3 b k e2⟩⟩)
 (λn _ _=>⟨λ_=>C4,⟨λ_ _ q=>(nomatch q),λ_ _ q=>(nomatch q)⟩,λk i p e=>(by cases e)⟩)
 (λh t n hl nd=>by
  rw[Q3,J7,QQ]at hl;obtain⟨n1,n2,_⟩:=Q1.mp nd;obtain⟨T1,a1,a2,a3⟩:=h n hl.1 n1;obtain⟨T2,b1,b2⟩:=t n hl.2 n2;obtain⟨T,c1,c2,c3⟩:=a1.join b1 nd;refine⟨T,c1,λk i p e x m=>?_⟩;cases k with
  |zero=>cases e;obtain⟨b,e1,e2⟩:=a3 x m;exact⟨_,b,rfl,e1,c2 b _ e2⟩
  |succ k=>obtain⟨v,b,e0,e1,e2⟩:=b2 k i p (by simpa using e) x m;exact⟨v,b,by simpa using e0,e1,c3 b _ e2⟩)
end
noncomputable def Xy(ns:Bc)(ρ:UA):UA:=ns.foldl (λr j=>r.set j C4) ρ
theorem Nb:∀(ns:Bc)(ρ:UA),(Xy ns ρ).length=ρ.length
 |[],ρ=>rfl
 |j::ns,ρ=>by unfold Xy;rw[List.foldl_cons];exact(Nb ns (ρ.set j C4)).trans (by rw[QH])
theorem Wb:∀{ns:Bc}{ρ:UA}{m:Nat}{s:Sl},(Xy ns ρ)[m]?=O (O s)->ρ[m]?=O (O s)/\m∉ns
 |[],ρ,m,s,e=>⟨e,λz=>(by cases z)⟩
 |j::ns,ρ,m,s,e=>by
  have e':(Xy ns (ρ.set j C4))[m]?=O (O s):=e;obtain⟨h1,h2⟩:=Wb e';by_cases z:j=m
  .subst z;have:=Kk h1;cases this
  .rw[Qf z]at h1
   exact⟨h1,λq=>(QM.mp q).elim (λy=>z y.symm) h2⟩
noncomputable def WJ(i:Nat)(p:Pat)(ns:Bc)(κ:Nat->Nat)(c:Nat):SM:=λρ=>match Zn ρ i with
 |some (q,d)=>if eqF 9 q p=C5/\Kr 9 c q d=C5/\κ c<=1000000/\(∀j∈ns,j<ρ.length)then .nx (Xy (i::i::ns) ρ)else .bad
 |none=>.bad
section
variable{X:Cx}{B G0:Hp}{KX:XW}{sts:List Stmt}
theorem EOk.lose{K:Frag}{G H:Hp}{σ σ':St}{ρ:UA}{ns:Bc}(k:EOk K B G0 G H σ ρ)(hl:σ'.length=σ.length)(h:∀i,i∉ns->σ'[i]?=σ[i]?):EOk K B G0 G H σ' (Xy ns ρ):=
 ⟨k.bh,k.gh,k.g0,k.np,by rw[Nb,hl];exact k.len,λi d q=>let ⟨q1,q2⟩:=Wb q;by rw[h i q2];exact k.pub i d q1,λi d q=>let ⟨q1,q2⟩:=Wb q;by rw[h i q2];exact k.own i d q1,
  λi j a ds es q1 q2 s1 s2=>by obtain⟨q1,z1⟩:=Wb q1;obtain⟨q2,z2⟩:=Wb q2;rw[h i z1]at s1;rw[h j z2]at s2;exact k.sep i j a ds es q1 q2 s1 s2,
  k.dp.map (λm p d q=>let ⟨q1,q2⟩:=Wb q;⟨q1,h m q2⟩) (λm es q=>let ⟨q1,q2⟩:=Wb q;⟨es,q1,h m q2⟩) λm p d v fp q s r w n=>⟨r,w⟩⟩
theorem F3{i:Nat}{p:Pat}{ns:Bc}{top:Nat}{κ:Nat->Nat}{c:Nat}{h:SM}(hs:PSs X sts (Z4 (Ke (gamO i 9 p) ns top κ) (tS X.K B G0 KX h))):PSs X sts (tS X.K B G0 KX (UD (WJ i p ns κ c) h)):=Xs hs λDn σ H ⟨G,ρ,k,q⟩=>by
 unfold UD WJ at q;cases z:Zn ρ i with
 |none=>rw[z]at q;exact q.elim
 |some pd=>
 obtain⟨pp,d⟩:=pd;rw[z]at q;dsimp only at q;by_cases hc:eqF 9 pp p=C5/\Kr 9 c pp d=C5/\κ c<=1000000/\(∀j∈ns,j<ρ.length)
 case neg=>rw[QE hc]at q;exact q.elim
 rw[Qq hc]at q;obtain⟨c1,c2,c3,c4⟩:=hc;cases VX 9 _ _ c1;obtain⟨ω,ks⟩:=k.slots;obtain⟨v,fp,hv,r,nd,w⟩:=ks i p d z;obtain⟨T,t1,_,t3⟩:=(RepO.ty3 c).1 r 9 c2 nd;refine⟨T,c,t1.2,λx m=>?_,c3,λj m=>by rw[←k.len];exact c4 j m,λσ' H' T' R I'=>?_⟩
 .unfold gamO at m
  obtain⟨y,my,rfl⟩:=Qx.mp m;obtain⟨a,e1,e2⟩:=t3 y my;exact⟨v,a,hv,e1,e2⟩
 .have ex:Ext G (KZ fp H) G H':=⟨λb u e=>by
    have hb:b∉fp:=λm=>by rw[Gi m]at e;cases e
    rw[Xz hb]at e;refine R.oth b u ?_ e;cases zt:T b with
    |none=>rfl
    |some n=>exact(hb (t1.1 b n zt)).elim,.refl _,λb u e=>by
    have hb:b∉fp:=λm=>by rw[(w b m).2.1]at e;cases e
    refine R.oth b u ?_ (k.gh b u e);cases zt:T b with
    |none=>rfl
    |some n=>exact(hb (t1.1 b n zt)).elim,λ_ _ _ n=>n⟩
  have k2:=(k.eaten (i1:=i) (i2:=i) ks (λb m=>r.isl b m) (λb m=>⟨(w b m).1,.inl (w b m).2.2⟩) ex).lose (ns:=ns) R.len R.st;exact⟨G,_,k2,by first|exact q|(show aftS X.K B G0 KX (h (Xy ns ((ρ.set i C4).set i C4))) G Dn;exact q)⟩
end
theorem Ex{ρ ρ':UA}{i:Nat}{p q:Pat}{ns:Bc}{κ:Nat->Nat}{c:Nat}{d:D}(h1:Zn ρ i=O (q,d))(h2:eqF 9 q p=C5)(h3:Kr 9 c q d=C5)(h4:κ c<=1000000)(h5:∀j∈ns,j<ρ.length)(h6:Xy (i::i::ns) ρ=ρ'):WJ i p ns κ c ρ=.nx ρ':=by unfold WJ;rw[h1];dsimp only;rw[if_pos ⟨h2,h3,h4,h5⟩,h6]
noncomputable def W0(i:Nat)(p:Pat):M D:=λρ=>match ρ[i]? with
 |some (O (.deep q d))=>if eqF 9 q p=C5 then .ok d (ρ.set i C4)else .bad
 |_=>.bad
section
variable{X:Cx}{B G0:Hp}{e:Ue}{p:Pat}
theorem GJ{i:Nat}(h:PE X e (U2 i)):PE X e (tT X.K B G0 p (W0 i p)):=UR h λσ H Q ⟨G,ρ,k,q⟩=>by
 unfold W0 at q;cases ho:ρ[i]? with
 |none=>rw[ho]at q;exact q.elim
 |some oo=>
 cases oo with
 |none=>rw[ho]at q;exact q.elim
 |some sl=>
 cases sl with
 |pub d=>rw[ho]at q;exact q.elim
 |own ds=>rw[ho]at q;exact q.elim
 |deep pp d=>
 rw[ho]at q;dsimp only at q;by_cases hc:eqF 9 pp p=C5
 case neg=>rw[QE hc]at q;exact q.elim
 rw[Qq hc]at q;cases VX 9 _ _ hc;obtain⟨ω,ks⟩:=k.slots;obtain⟨v,fp,hv,r,nd,w⟩:=ks i p d (Ts ho)
 have nz:∀{m:Nat}{s:Sl},(ρ.set i C4)[m]?=O (O s)->ρ[m]?=O (O s)/\i≠m:=λ{m s} q=>by
  by_cases z:i=m
  .subst z;have:=Kk q;cases this
  .rw[Qf z]at q;exact⟨q,z⟩
 have off:∀(j:Nat) p' d' v' fp',Zn ρ j=O (p',d')->i≠j->σ[j]?=O (O v')->∀b∈fp,RepO X.K G H p' v' d' fp'->b∉fp':=λj p' d' v' fp' z y hs b m rr mm=>by obtain⟨v5,f5,hv5,r5,n5,w5⟩:=ks j _ _ z;rw[hs]at hv5;cases hv5;have eu:=r5.uniq (.refl _) rr;subst eu;exact y ((w b m).2.2.symm.trans (w5 b mm).2.2)
 refine⟨v,hv,q v fp G H k.forget (.refl _) ⟨r,nd,λb m=>⟨(w b m).1,(w b m).2.1⟩,λb m j es ho' hs=>?_,λb m j p' d' v' fp' ho' hs rr mm=>?_⟩⟩
 .obtain⟨ho',y⟩:=nz ho'
  obtain⟨a5,us,i1',i2',i3',i4',i5'⟩:=k.own j es ho';rw[hs]at i1';cases i1';exact off j _ _ _ [b] (OK ho') y hs b m (.lst i4' (.leaf i5')) (List.mem_singleton.mpr C3)
 .obtain⟨ho',y⟩:=nz ho'
  exact off j _ _ _ fp' (Ts ho') y hs b m rr mm
theorem GI{i:Nat}{ρ:UA}{q:Pat}{d:D}(h:ρ[i]?=O (O (.deep q d)))(h2:eqF 9 q p=C5):W0 i p ρ=.ok d (ρ.set i C4):=by unfold W0;rw[h];dsimp only;rw[if_pos h2]
end
noncomputable def KJ(iu iz im:Nat)(t:M Bool)(c:D):C7->UA->Out
 |[],ρ=>.nx ρ
 |.tuple [x,z]::es,ρ=>(match t (U4 ((ρ.set iu (O (.pub x))).set iz (O (.pub z))))with
  |.ok C5 _=>.rt c
  |.ok C6 _=>(match ρ[im]? with
   |some (O (.own ds))=>if flat x=C5/\ds.length<1000000 then KJ iu iz im t c es (((ρ.set iu (O (.pub x))).set iz (O (.pub z))).set im (O (.own (ds++[x]))))else .bad
   |_=>.bad)
  |.bad=>.bad)
 |_::_,_=>.bad
theorem EB{iu iz im:Nat}{t:M Bool}{c e:D}{es:C7}{ρ:UA}:(∃x z,e=.tuple [x,z])∨KJ iu iz im t c (e::es) ρ=.bad:=by
 unfold KJ;split
 .rename_i h;cases h
 .rename_i x z es' h
  exact .inl ⟨x,z,(List.cons.inj h).1⟩
 .exact .inr C3
noncomputable def KM(iy iu iz im:Nat)(t1 t2:M Bool)(c:D):C7->UA->Out
 |[],ρ=>.nx ρ
 |.list es::r,ρ=>(match t1 ((U4 ρ).set iy (O (.pub (.list es))))with
  |.ok C5 _=>.rt c
  |.ok C6 _=>(match KJ iu iz im t2 c es (ρ.set iy C4)with
   |.nx ρ'=>KM iy iu iz im t1 t2 c r ρ'
   |.rt d=>.rt d
   |_=>.bad)
  |.bad=>.bad)
 |_::_,_=>.bad
noncomputable def WQ(ix iy iu iz im:Nat)(t1 t2:M Bool)(c:D):SM:=λρ=>match ρ[ix]? with
 |some (O (.deep (.lst (.lst .leaf)) (.list ws)))=>if [ix,iy,iu,iz,im].Nodup/\iy<ρ.length/\iu<ρ.length/\iz<ρ.length/\flat c=C5 then KM iy iu iz im t1 t2 c ws ρ else .bad
 |_=>.bad
section
variable{K:Frag}{B G0 G H:Hp}{σ:St}{ρ:UA}
theorem EOk.part{ix:Nat}{ws:C7}{a:Uc}(k:EOk K B G0 G H σ ρ)(hx:ρ[ix]?=O (O (.deep (.lst (.lst .leaf)) (.list ws))))(hs:σ[ix]?=O (O (.ref a))) :
  ∃vs,H a=O (.lst vs)/\vs.length=ws.length/\(∀(im:Nat) ds am,im≠ix->ρ[im]?=O (O (.own ds))->σ[im]?=O (O (.ref am))->am≠a) /\
   ∀(i:Nat) w,ws[i]?=O w->∃b us es,w=.list es/\vs[i]?=O (.ref b)/\H b=O (.lst us)/\Reps K G us es/\(∀(im:Nat) ds am,im≠ix->ρ[im]?=O (O (.own ds))->σ[im]?=O (O (.ref am))->am≠b):=by
 obtain⟨ω,ks⟩:=k.slots;obtain⟨v,fp,hv,r,nd,w⟩:=ks ix _ _ (Ts hx);rw[hs]at hv;cases hv
 have far:∀b∈fp,∀(im:Nat) ds am,im≠ix->ρ[im]?=O (O (.own ds))->σ[im]?=O (O (.ref am))->am≠b:=λb hb im ds am hne ho hs' e=>by
  subst e;obtain⟨v2,f2,hv2,r2,n2,w2⟩:=ks im _ _ (OK ho);rw[hs']at hv2;cases hv2;cases r2 with
  |lst h2 rl2=>exact hne ((w2 am Qh).2.2.symm.trans (w am hb).2.2)
 cases r with
 |lst h rl=>
 rename_i vs fp;obtain⟨na,nf⟩:=Jx.mp nd;refine⟨vs,h,rl.length,far a Qh,λi w' e=>?_⟩;obtain⟨v0,f,h1,h2,h3,h4,_⟩:=rl.at e nf;cases h2 with
 |lst hb rb=>exact⟨_,_,_,rfl,h1,hb,(rb.leaf_inv).1,far _ (Qm _ (h4 _ Qh))⟩
theorem EA(ρ:UA):(U4 ρ).length=ρ.length:=by unfold U4;rw[Qd]
end
section
variable{X:Cx}{B G0:Hp}{KX:XW}{iter a a2 c c2:Ue}
theorem Ez{ix iy iu iz im:Nat}{y u z:Str}{t1 t2:M Bool}{d:D}{o e:Ue}{p1 p2 p3 p4 p5 p6 p7 p8 p9 p10 pu pz apos cpos:Pos}{kt}(hp:PassesOwn (model X.prog X.w) X.A X.env X.xe)(hc:X.calm=C5){gl:List Str}(nm:FnNm X.env.scope X.N gl)(vx:PE X iter (U2 ix))(vy:PE X (.Name y p5) (U2 iy))(vm:PE X o (U2 im))(vu:PE X e (U2 iu))
  (ht:∀B' G',PT X a (tBo X.K B' G' t1)) (hr:∀B' G',PE X c (tD X.K B' G' (UE d))) (ht2:∀B' G',PT X a2 (tBo X.K B' G' t2)) (hr2:∀B' G',PE X c2 (tD X.K B' G' (UE d))) (hy:X.N[iy]?=O y:=by rfl) (hu:X.N[iu]?=O u:=by rfl) (hz:X.N[iz]?=O z:=by rfl)
  (hbase:attributeBase o "append" X.env (eval o X.env)=eval o X.env:=by rfl)
  (hfew:((backTo cpos (Uh [e] X.env)).all (λx=>!x.1)&&(backToKw cpos (keywordEach [] X.env)).all (λx=>x.1.isSome)
   && decide ([e].length+([]:List Keyword).length+(if([]:List Keyword).isEmpty then 0 else 1)<30))=C5:=by rfl)
  (hline:(apos.endLine==cpos.line)=C5:=by rfl) (hst:Uh [e] X.env=[(C6,eval e X.env)]:=by rfl)
  (hsw:swapsWith (.Call (.Attribute o "append" apos) [e] [] cpos) C4 p10.line X.env=pure C6:=by rfl)
  (hfy:X.fn y=C5∨X.env.scope.names.lookup y=O .local:=by first|exact .inl rfl|exact .inr rfl|assumption) (hfu:X.fn u=C5∨X.env.scope.names.lookup u=O .local:=by first|exact .inl rfl|exact .inr rfl|assumption) (hfz:X.fn z=C5∨X.env.scope.names.lookup z=O .local:=by first|exact .inl rfl|exact .inr rfl|assumption)
  (hs:∀x,Uy iter X.env x=pure x:=by intro _;rfl) (hs2:∀x,Uy (.Name y p5) X.env x=pure x:=by intro _;rfl) :
  PS X (.For (.Name y p1) iter [.If a [.Return (O c) p2] [] p3,.For (.Tuple [.Name u pu,.Name z pz] kt p4) (.Name y p5) [.If a2 [.Return (O c2) p6] [] p7,.Expr (.Call (.Attribute o "append" apos) [e] [] cpos) p10] [] p8] [] p9) (tS X.K B G0 KX (WQ ix iy iu iz im t1 t2 d)):=by
 have ht':PT X a (λσ H Q=>∃B' G',tBo X.K B' G' t1 σ H Q):=λpins s σ H Q I ⟨B',G',q⟩=>ht B' G' pins s σ H Q I q;have hr':PE X c (λσ H Q=>∃B' G',tD X.K B' G' (UE d) σ H Q):=λpins s σ H Q I ⟨B',G',q⟩=>hr B' G' pins s σ H Q I q;have ht2':PT X a2 (λσ H Q=>∃B' G',tBo X.K B' G' t2 σ H Q):=λpins s σ H Q I ⟨B',G',q⟩=>ht2 B' G' pins s σ H Q I q;have hr2':PE X c2 (λσ H Q=>∃B' G',tD X.K B' G' (UE d) σ H Q):=λpins s σ H Q I ⟨B',G',q⟩=>hr2 B' G' pins s σ H Q I q;have hN:=nm.nd;have ly:=lq nm iy hy;have lu:=lq nm iu hu;have lz:=lq nm iz hz;have app:=X1 (pos:=p10) (Xu Jn Jv Jw WZ vm (ZZ vu Z1 (by rw[hst];rfl)) hbase hfew hline (by rw[hst];rfl) C3) hsw
 have F2:=VW (pos:=p8) hp hc (Sx vy) (RS (pos:=p4) (k:=kt) hc (SG (WP (pos:=pu) hN hu lu hfu) (SG (WP (pos:=pz) hN hz lz hfz) PF))) (X9 (T4 (pos:=p7) ht2' (XI (Vo (pos:=p6) hr2')) Sy) (XI app)) hs2;have F:=VW (pos:=p9) hp hc (Sx vx) (WP (pos:=p1) hN hy ly hfy) (X9 (T4 (pos:=p3) ht' (XI (Vo (pos:=p2) hr')) Sy) (XI F2)) hs;refine Kf F λDn σ H ⟨G,ρ,k,q⟩=>?_;unfold WQ at q
 split at q
 case h_2=>exact q.elim
 case h_1 ws ho=>
 split at q
 case isFalse=>exact q.elim
 case isTrue AA=>
 obtain⟨nd5,hyl,BX,hzl,hfl⟩:=AA;simp only[List.nodup_cons,QM,List.not_mem_nil,not_or,or_false]at nd5;obtain⟨⟨xy,xu,xz,xm⟩,⟨yu,yz,ym⟩,⟨uz,um⟩,zm,_⟩:=nd5;obtain⟨ω,ks⟩:=k.slots;obtain⟨v,fp,hv,r0,_,_⟩:=ks ix _ _ (Ts ho)
 obtain⟨ad,vs,h4,hva⟩:∃ad vs,H ad=O (.lst vs)/\v=.ref ad:=by
  cases r0 with
  |lst h rl=>exact⟨_,_,h,rfl⟩
 subst hva
 refine⟨.ref ad,hv,ad,rfl,⟨vs,SqL.of h4⟩,λi m σ' H'=>m=ws.length-i/\∃G' ρ',EOk X.K B G0 G' H' σ' ρ'/\ρ'[ix]?=O (O (.deep (.lst (.lst .leaf)) (.list ws)))/\σ'[ix]?=O (O (.ref ad))/\H' ad=O (.lst vs)/\ρ'.length=ρ.length/\aftS X.K B G0 KX (KM iy iu iz im t1 t2 d (ws.drop i) ρ') G' Dn,
  ⟨ws.length,by lia,G,ρ,k,ho,hv,h4,rfl,by rw[List.drop_zero];exact q⟩,?_⟩
 rintro i m σ' H' ⟨rfl,G',ρ',k',ho',ha',Bt,Bq,q'⟩;obtain⟨vs',hv',hvl,far,it⟩:=k'.part ho' ha';rw[Bt]at hv';cases hv';by_cases hi:i<ws.length
 .right
  obtain⟨b,us,es,ew,hb1,AB,hb3,farb⟩:=it i ws[i] (Qb hi);refine⟨⟨vs,.ref b,SqL.of Bt,hb1⟩,λσ2 H2=>∃G2 ρ2,EOk X.K B G0 G2 H2 σ2 ρ2/\ρ2[ix]?=O (O (.deep (.lst (.lst .leaf)) (.list ws)))/\σ2[ix]?=O (O (.ref ad))/\H2 ad=O (.lst vs)/\ρ2.length=ρ.length/\aftS X.K B G0 KX (KM iy iu iz im t1 t2 d (ws.drop (i+1)) ρ2) G2 Dn,λσ2 H2 h2=>⟨ws.length-(i+1),by lia,rfl,h2⟩,λxv H2 yl=>?_⟩;obtain⟨rfl,yl⟩:=yl;have hx:=yl vs (SqL.of Bt);rw[hb1]at hx;cases hx;rw[Jq hi,ew]at q';have rb:Rep X.K H2 (.ref b) (.list es):=.lst (SqL.of AB) (hb3.mono k'.gh);have kl:=k'.lent.setPub (i:=iy) rb (by rw[EA,Bq];exact hyl);have kA:=k'.hideAt (i:=iy) (x:=O (.ref b));have hyl2:iy<σ'.length:=by rw[←k'.len,Bq];exact hyl
  show ∃B' G',tBo X.K B' G' t1 (σ'.set iy (O (.ref b))) _ _;refine⟨_,_,_,_,kl,?_⟩;unfold KM at q';cases zt:t1 ((U4 ρ').set iy (O (.pub (.list es))))with
  |bad=>rw[zt]at q';exact q'.elim
  |ok bb ρ4=>
  rw[zt]at q';intro v G4 H4 k4 s4 rv;have rv:v=bb:=rv;subst rv;have k5:=kA.back k4.bh;cases v with
  |true=>rw[Qq C3];dsimp only at q';refine⟨_,_,_,_,k5,?_⟩;exact λw G6 H6 k6 s6 BI=>q' w G6 H6 k6.exit BI
  |false=>
   rw[QE (by decide)];dsimp only at q'
   refine⟨.ref b,QD hyl2,b,rfl,⟨us,SqL.of (k4.bh _ _ AB)⟩,λj m σ3 H3=>m=es.length-j/\∃G3 ρ3,EOk X.K B G0 G3 H3 σ3 ρ3/\ρ3[ix]?=O (O (.deep (.lst (.lst .leaf)) (.list ws)))/\σ3[ix]?=O (O (.ref ad))/\H3 ad=O (.lst vs)/\H3 b=O (.lst us)/\Reps X.K G3 us es/\ρ3.length=ρ.length /\
    aftS X.K B G0 KX (match KJ iu iz im t2 d (es.drop j) ρ3 with | .nx ρ'=>KM iy iu iz im t1 t2 d (ws.drop (i+1)) ρ' | .rt d=>.rt d|_=>.bad) G3 Dn,
    ⟨es.length,by lia,G',ρ'.set iy C4,k5,by rw[Qf (Ne.symm xy)];exact ho',by rw[Qf (Ne.symm xy)];exact ha',k4.bh _ _ Bt,k4.bh _ _ AB,hb3,by rw[QH];exact Bq,by rw[List.drop_zero];exact q'⟩,?_⟩
   rintro j m σ3 H3 ⟨rfl,G3,ρ3,k3,ho3,ha3,h43,BK,rr3,Br,q3⟩;by_cases hj:j<es.length
   .right
    obtain⟨uv,huv,ruv⟩:=rr3.get (Qb hj)
    refine⟨⟨us,uv,SqL.of BK,huv⟩,λσ2 H2=>∃G2 ρ2,EOk X.K B G0 G2 H2 σ2 ρ2/\ρ2[ix]?=O (O (.deep (.lst (.lst .leaf)) (.list ws)))/\σ2[ix]?=O (O (.ref ad))/\H2 ad=O (.lst vs)/\H2 b=O (.lst us)/\Reps X.K G2 us es/\ρ2.length=ρ.length /\
     aftS X.K B G0 KX (match KJ iu iz im t2 d (es.drop (j+1)) ρ2 with | .nx ρ'=>KM iy iu iz im t1 t2 d (ws.drop (i+1)) ρ' | .rt d=>.rt d|_=>.bad) G2 Dn,λσ2 H2 h2=>⟨es.length-(j+1),by lia,rfl,h2⟩,λxv H5 yl=>?_⟩
    obtain⟨rfl,yl⟩:=yl;have hx:=yl us (SqL.of BK);rw[huv]at hx;cases hx;rw[Jq hj]at q3;generalize es[j]=ej at q3 ruv;rcases EB (iu:=iu) (iz:=iz) (im:=im) (t:=t2) (c:=d) (e:=ej) (es:=es.drop (j+1)) (ρ:=ρ3)with ⟨x,z',hh⟩|hh
    case inr=>rw[hh]at q3;exact q3.elim
    subst hh;rw[KJ]at q3;obtain⟨tt,ts,rfl,st,rts⟩:=ruv.tup_inv
    obtain⟨v1,v2,rfl,r1,r2⟩:∃v1 v2,ts=[v1,v2]/\Rep X.K G3 v1 x/\Rep X.K G3 v2 z':=by
     cases rts with
     |cons h1 t1=>cases t1 with
      |cons h2 t2=>cases t2;exact⟨_,_,rfl,h1,h2⟩
    have Ak:iu<ρ3.length:=by rw[Br];exact BX
    have hzl3:iz<ρ3.length:=by rw[Br];exact hzl
    have kB:=(k3.setPub (i:=iu) r1 Ak).setPub (i:=iz) r2 (by rw[QH];exact hzl3);refine⟨tt,[v1,v2],rfl,ZB k3.gh st,rfl,v1,[v2],rfl,v2,[],rfl,rfl,?_⟩;show ∃B' G',tBo X.K B' G' t2 ((σ3.set iu (O v1)).set iz (O v2)) _ _;refine⟨_,_,_,_,kB.lent,?_⟩;cases Rl:t2 (U4 ((ρ3.set iu (O (.pub x))).set iz (O (.pub z'))))with
    |bad=>rw[Rl]at q3;exact q3.elim
    |ok bb ρ6=>
    rw[Rl]at q3;intro v G6 H6 k6 s6 rv;have rv:v=bb:=rv;subst rv;have k7:=kB.back k6.bh;cases v with
    |true=>rw[Qq C3];dsimp only at q3;refine⟨_,_,_,_,k7,?_⟩;exact λw G8 H8 k8 s8 BI=>q3 w G8 H8 k8.exit BI
    |false=>
     rw[QE (by decide)];dsimp only at q3
     obtain⟨ds,hm⟩:∃ds,ρ3[im]?=O (O (.own ds)):=by
      cases hm:ρ3[im]? with
      |none=>rw[hm]at q3;exact q3.elim
      |some o1=>cases o1 with
       |none=>rw[hm]at q3;exact q3.elim
       |some s1=>cases s1 with
        |pub d=>rw[hm]at q3;exact q3.elim
        |deep p d=>rw[hm]at q3;exact q3.elim
        |own ds=>exact⟨ds,rfl⟩
     rw[hm]at q3;dsimp only at q3;by_cases hcl:flat x=C5/\ds.length<1000000
     case neg=>rw[QE hcl]at q3;exact q3.elim
     rw[Qq hcl]at q3;have Aq:((ρ3.set iu (O (Sl.pub x))).set iz (O (Sl.pub z')))[im]?=O (O (.own ds)):=by rw[Qf zm,Qf um];exact hm
     have hx7:((ρ3.set iu (O (Sl.pub x))).set iz (O (Sl.pub z')))[ix]?=O (O (.deep (.lst (.lst .leaf)) (.list ws))):=by rw[Qf (Ne.symm xz),Qf (Ne.symm xu)];exact ho3
     have hxs:((σ3.set iu (O v1)).set iz (O v2))[ix]?=O (O (.ref ad)):=by rw[Qf (Ne.symm xz),Qf (Ne.symm xu)];exact ha3
     obtain⟨am,ms,g1,g2,g3,g4,g5⟩:=k7.own im ds Aq;have hus:((σ3.set iu (O v1)).set iz (O v2))[iu]?=O (O v1):=by rw[Qf (Ne.symm uz)];exact QD (by rw[←k3.len];exact Ak)
     refine⟨.ref am,g1,.inl ⟨rfl,_,SqL.of g4⟩,v1,hus,am,ms,v1,rfl,rfl,g4,by rw[g5.length];exact Qv hcl.2 lim,?_⟩;obtain⟨vs7,e1,e2,e3,e4⟩:=k7.part hx7 hxs;have h47:H6 ad=O (.lst vs):=k6.bh _ _ h43;rw[h47]at e1;cases e1;obtain⟨b',us',es7,w1,w2,w3,w4,w5⟩:=e4 i ws[i] (Qb hi);rw[hb1]at w2;cases w2;have na:=e3 im ds am (Ne.symm xm) Aq g1;have nb:=w5 im ds am (Ne.symm xm) Aq g1;have g5':Reps X.K G3 (ms++[v1]) (ds++[x]):=g5.append (.cons r1 .nil);refine⟨G3,_,k7.change Aq g1 g5',?_,hxs,by rw[US (Ne.symm na)];exact h47,by rw[US (Ne.symm nb)];exact k6.bh _ _ BK,rr3,by simp only[QH];exact Br,q3⟩;rw[Qf (Ne.symm xm)];exact hx7
   .left
    rw[JI (by lia)]at q3;unfold KJ at q3;have hl:=rr3.length;exact⟨⟨us,SqL.of BK,by lia⟩,G3,ρ3,k3,ho3,ha3,h43,Br,q3⟩
 .left
  rw[JI (by lia)]at q';unfold KM at q';exact⟨⟨vs,SqL.of Bt,by lia⟩,q' _ _ _ k' (.refl _)⟩
end
end DL
namespace W
open PySem PySem.Spec L2 DL
open PyProof.Rows hiding St
noncomputable def top(i:Nat):Stmt:=PySem.Challenge.pw_wishdeal_k29_partings.main.body.getD i (.Pass ⟨0,0,0,0⟩)
abbrev GG(s:Stmt)(x:Str):Prop:=(Kw s).names.lookup x=O NameKind.globalImplicit
abbrev VV(s:Stmt)(x:Str):Prop:=L2.Vis (Kw s) x
abbrev LL(s:Stmt)(x:Str):Prop:=L2.Loc (Kw s) x
theorem vk{s:Stmt}{x:Str}(h:(Kw s).names.lookup x=O .local∨(Kw s).names.lookup x=O .cell∨(Kw s).names.lookup x=O .free):VV s x:=h
theorem lk{s:Stmt}{x:Str}(h:(Kw s).names.lookup x=O .local∨(Kw s).names.lookup x=O .cell):LL s x:=h
structure Txt(K:Frag)(mg:Str->Bd):Prop where
 b_all:mg "all" = C4
 b_bool:mg "bool" = C4
 b_enumerate:mg "enumerate" = C4
 b_int:mg "int" = C4
 b_isinstance:mg "isinstance" = C4
 b_len:mg "len" = C4
 b_list:mg "list" = C4
 b_max:mg "max" = C4
 b_range:mg "range" = C4
 b_repr:mg "repr" = C4
 b_set:mg "set" = C4
 b_sorted:mg "sorted" = C4
 b_sum:mg "sum" = C4
 b_tuple:mg "tuple" = C4
 b_zip:mg "zip" = C4
 c_MOST_ASKERS:∃t,mg "MOST_ASKERS" = O (Value.int 7 t)
 c_MOST_COPIES:∃t,mg "MOST_COPIES" = O (Value.int 7 t)
 c_MOST_RANKS:∃t,mg "MOST_RANKS" = O (Value.int 5 t)
 c_MOST_THINGS:∃t,mg "MOST_THINGS" = O (Value.int 6 t)
noncomputable abbrev Sal:Stmt:=top 22
noncomputable abbrev N_al:List Str:=["_law_script", "_law_k"]
theorem Hal:NmF Sal N_al:=Za (by decide +kernel)
noncomputable def Y9:SM:=
 UD (sIf (Kh (oIB λi j=>decide (i<j)) 1 (K0 0))
 (UW (UJ 0 (Uz 1)))
 (sNx))
 (UW (UE (.int 0)))
noncomputable def Zl:C7->Bb:=U5 N_al Y9
noncomputable abbrev Sah:Stmt:=top 17
noncomputable abbrev N_ah:List Str:=["one", "other"]
theorem Hah:NmF Sah N_ah:=Za (by decide +kernel)
noncomputable def Wo:SM:=
 UW (UL Ul (ZV (XM (UG (Uz 0) (UB))) 2 (gT 2 (gNC (gN 2) (gNC (gN 3) (gN0)))) (Kh oNe 3 (UJ 1 (Uz 2))) (Uz 2)))
noncomputable def Yg:C7->Bb:=U5 N_ah Wo
noncomputable abbrev Sai:Stmt:=top 18
noncomputable abbrev N_ai:List Str:=["things", "one", "other", "moved", "told", "thing", "takers", "givers", "taker", "giver"]
theorem Hai:NmF Sai N_ai:=Za (by decide +kernel)
noncomputable def R5:SM:=
 VO 4 (Uz 8) (Uz 9)
noncomputable def R4:SM:=
 UD (Km 6 (ZV (K2 (Uz 3)) 1 (gN 10) (UF oEq (UJ 2 (Uz 10)) (Uz 5)) (Uz 10)))
 (UD (Km 7 (ZV (K2 (Uz 3)) 1 (gN 10) (UF oEq (UJ 1 (Uz 10)) (Uz 5)) (Uz 10)))
 (Kq (Xd (UG (Uz 6) (UG (Uz 7) (UB)))) (gT 2 (gNC (gN 8) (gNC (gN 9) (gN0)))) R5))
noncomputable def Wn:SM:=
 UD (UY 3 (UQ 2 Yg (UG (Uz 1) (UG (Uz 2) (UB)))))
 (UD (Xn 4 .dic (UE (.dict [])))
 (UD (Kq (YN (UG (Uz 0) (UB))) (gN 5) R4)
 (UW (W1 4))))
noncomputable def Xh:C7->Bb:=U5 N_ai Wn
noncomputable abbrev Saa:Stmt:=top 4
noncomputable abbrev N_aa:List Str:=["thing"]
theorem Haa:NmF Saa N_aa:=Za (by decide +kernel)
noncomputable def Wv:SM:=
 UW (YO (UL (λd=>.bool (U3 d "int")) (Uz 0)) (W9 (UL (λd=>.bool (U3 d "bool")) (Uz 0))))
noncomputable def Xm:C7->Bb:=U5 N_aa Wv
noncomputable abbrev Sab:Stmt:=top 5
noncomputable abbrev N_ab:List Str:=["thing", "many"]
theorem Hab:NmF Sab N_ab:=Za (by decide +kernel)
noncomputable def Wu:SM:=
 UW (YO (UQ 1 Xm (UG (Uz 0) (UB))) (UL Um (XY (oIB λi j=>decide (i<=j)) (oIB λi j=>decide (i<j)) (UE (.int 0)) (Uz 0) (Uz 1))))
noncomputable def ZR:C7->Bb:=U5 N_ab Wu
noncomputable abbrev Sad:Stmt:=top 12
noncomputable abbrev N_ad:List Str:=["thing", "things"]
theorem Had:NmF Sad N_ad:=Za (by decide +kernel)
noncomputable def Ws:SM:=
 UD (sIf (mOr (U9 (KU (UL (λd=>.bool (U3 d "list")) (Uz 0)))) (UF oEq (K0 0) (UE (.int 0))))
 (UW (UE (.bool C6)))
 (sNx))
 (UW (Zp ZL (UG (UL Ul (ZV (K2 (Uz 0)) 1 (gN 2) (UE C5) (UQ 2 ZR (UG (Uz 2) (UG (Uz 1) (UB)))))) (UB))))
noncomputable def YE:C7->Bb:=U5 N_ad Ws
noncomputable abbrev Sae:Stmt:=top 13
noncomputable abbrev N_ae:List Str:=["thing", "things", "wished"]
theorem Hae:NmF Sae N_ae:=Za (by decide +kernel)
noncomputable def Wr:SM:=
 UD (sIf (mOr (U9 (KU (UL (λd=>.bool (U3 d "list")) (Uz 0)))) (UF (oIB λi j=>decide (j<i)) (K0 0) (UE (.int 5))))
 (UW (UE (.bool C6)))
 (sNx))
 (UD (sIf (U9 (KU (Zp ZL (UG (UL Ul (ZV (K2 (Uz 0)) 1 (gN 3) (UE C5) (UQ 2 YE (UG (Uz 3) (UG (Uz 1) (UB)))))) (UB)))))
 (UW (UE (.bool C6)))
 (sNx))
 (UD (Km 2 (Vl (K2 (Uz 0)) 2 (gN 3) (UE C5) (K2 (Uz 3)) (gN 4) (UE C5) (Uz 4)))
 (UW (UL Um (UF oEq (Zp WT (UG (Uz 2) (UB))) (K0 2))))))
noncomputable def Xk:C7->Bb:=U5 N_ae Wr
noncomputable abbrev Saf:Stmt:=top 14
noncomputable abbrev N_af:List Str:=["lists", "things", "asker", "ranks"]
theorem Haf:NmF Saf N_af:=Za (by decide +kernel)
noncomputable def R3:SM:=
 sIf (U9 (KU (UQ 2 Xk (UG (Uz 3) (UG (Uz 1) (UB))))))
 (WL)
 (sNx)
noncomputable def Wq:SM:=
 UD (sIf (mOr (U9 (KU (UL (λd=>.bool (U3 d "list")) (Uz 0)))) (U9 (XY (oIB λi j=>decide (i<=j)) (oIB λi j=>decide (i<=j)) (UE (.int 1)) (K0 0) (UE (.int 7)))))
 (WL)
 (sNx))
 (Kq (XM (UG (Uz 0) (UB))) (gT 2 (gNC (gN 2) (gNC (gN 3) (gN0)))) R3)
noncomputable def Xj:C7->Bb:=U5 N_af Wq
noncomputable abbrev Sac:Stmt:=top 11
noncomputable abbrev N_ac:List Str:=["copies", "number", "many"]
theorem Hac:NmF Sac N_ac:=Za (by decide +kernel)
noncomputable def RZ:SM:=
 sIf (U9 (KU (UQ 2 ZR (UG (Uz 2) (UG (UF UX (UE (.int 7)) (UE (.int 1))) (UB))))))
 (WL)
 (sNx)
noncomputable def Wt:SM:=
 UD (sIf (mOr (U9 (KU (UL (λd=>.bool (U3 d "list")) (Uz 0)))) (U9 (XY (oIB λi j=>decide (i<=j)) (oIB λi j=>decide (i<=j)) (UE (.int 1)) (K0 0) (UE (.int 6)))))
 (WL)
 (sNx))
 (Kq (XM (UG (Uz 0) (UB))) (gT 2 (gNC (gN 1) (gNC (gN 2) (gN0)))) RZ)
noncomputable def Xl:C7->Bb:=U5 N_ac Wt
noncomputable abbrev Sag:Stmt:=top 15
noncomputable abbrev N_ag:List Str:=["thing", "copies", "lists"]
theorem Hag:NmF Sag N_ag:=Za (by decide +kernel)
noncomputable def Wp:SM:=
 UD (sIf (mOr (U9 (KU (UL (λd=>.bool (U3 d "tuple")) (Uz 0)))) (UF oNe (K0 0) (UE (.int 2))))
 (WL)
 (sNx))
 (UD (ZK (Uz 0) (gT 2 (gNC (gN 1) (gNC (gN 2) (gN0)))))
 (UD (WD (UQ 1 Xl (UG (Uz 1) (UB))))
 (WD (UQ 2 Xj (UG (Uz 2) (UG (K0 1) (UB)))))))
noncomputable def Xi:C7->Bb:=U5 N_ag Wp
noncomputable abbrev Na:Stmt:=top 19
noncomputable abbrev O9:List Str:=["first", "behind", "other", "told", "asker"]
theorem O6:NmF Na O9:=Za (by decide +kernel)
noncomputable def VF:SM:=
 UD (KW 3 (ZM (UG (Uz 4) (UG (UJ 2 (Uz 4)) (UB)))))
 (UY 4 (Yz (Uz 1) (UG (Uz 4) (UB))))
noncomputable def TJ:SM:=
 UD (Km 3 (UM (UG (ZM (UG (Uz 0) (UG (UJ 2 (Uz 0)) (UB)))) (UB)) λxs=>if xs.length<=1000000 then UE xs else λ_=>.bad))
 (UD (UY 4 (Yz (Uz 1) (UG (Uz 0) (UB))))
 (UD (YI (KY (UL (λd=>!isNon d) (Uz 4)) (Kh oNe 4 (Uz 0))) VF 1000)
 (sNx)))
noncomputable def Cu:M C7:=
 Zg 3
noncomputable def TH:C7->Option C7:=Yt O9 TJ Cu
noncomputable abbrev Nm:Stmt:=top 20
noncomputable abbrev Nl:List Str:=["wishes", "one", "other", "behind", "led_to", "moved", "firsts", "told", "met", "first", "way"]
theorem Nu:NmF Nm Nl:=Za (by decide +kernel)
noncomputable def Nt:SM:=
 sIf (Zs Zf (Uz 9) 8)
 (UD (Km 10 (W3 3 TH (UG (Uz 9) (UG (Uz 3) (UG (Uz 2) (UB))))))
 (UD (Ys 8 (Vd (ZV (K2 (Uz 10)) 2 (gT 2 (gNC (gN 11) (gNC (gN 12) (gN0)))) (UE C5) (Uz 11))))
 (WG 7 10)))
 (sNx)
noncomputable def Rj:SM:=
 UD (WD (UQ 1 Xi (UG (Uz 0) (UB))))
 (UD (UY 3 (UQ 3 Xh (UG (Zp Ka (UG (UJ 0 (UE (.int 0))) (UB))) (UG (Uz 1) (UG (Uz 2) (UB))))))
 (UD (Km 4 (UM (Uz 3) λd=>UN (YQ d)))
 (UD (UY 5 (UQ 2 Yg (UG (Uz 1) (UG (Uz 2) (UB)))))
 (UD (UY 6 (UF UX (UL Ul (XX (K2 (Uz 5)) 1 (gN 11) (Kh Zf 11 (Uz 4)) (Uz 11))) (UL Ul (XX (K2 (Uz 5)) 1 (gN 11) (Kh oIn 11 (Uz 4)) (Uz 11)))))
 (UD (Xn 7 (.lst (.lst .leaf)) (UE (.list [])))
 (UD (Km 8 (UM (UB) λxs=>if xs.length<=1000000 then UE xs else λ_=>.bad))
 (UD (Kq (K2 (Uz 6)) (gN 9) Nt)
 (sNx))))))))
noncomputable def Nk:M D:=
 W0 7 (.lst (.lst .leaf))
noncomputable def TC:C7->Bb:=W2 Nl Rj Nk
noncomputable abbrev Wx:C7->Bb:=TC
noncomputable abbrev Sao:Stmt:=top 25
noncomputable abbrev N_ao:List Str:=["_law_wishes_here", "_law_asker"]
theorem Hao:NmF Sao N_ao:=Za (by decide +kernel)
noncomputable def Wk:SM:=
 UW (Zp Wz (UG (Zp WA (UG (UF oIx (UJ 0 (UE (.int 1))) (Uz 1)) (UG (Kg (UB)) (UB)))) (UB)))
noncomputable def Ye:C7->Bb:=U5 N_ao Wk
noncomputable abbrev Saq:Stmt:=top 27
noncomputable abbrev N_aq:List Str:=["_law_thing"]
theorem Haq:NmF Saq N_aq:=Za (by decide +kernel)
noncomputable def g_aq:SM:=
 UW (YO (UL (λd=>.bool (U3 d "int")) (Uz 0)) (W9 (UL (λd=>.bool (U3 d "bool")) (Uz 0))))
noncomputable def YC:C7->Bb:=U5 N_aq g_aq
noncomputable abbrev Sar:Stmt:=top 28
noncomputable abbrev N_ar:List Str:=["_law_wishes_here", "_law_dealing", "_law_thing", "_law_askers", "_law_step", "_law_asker", "_law_what", "_law_k", "_law_last"]
theorem Har:NmF Sar N_ar:=Za (by decide +kernel)
noncomputable def RY:SM:=
 sIf (mOr (UL isNon (UF oIx (UJ 2 (UF Z7 (Uz 7) (UE (.int 1)))) (UE (.int 1)))) (UF oNe (UJ 1 (UF oIx (UJ 2 (Uz 7)) (UE (.int 0)))) (UF oIx (UJ 2 (UF Z7 (Uz 7) (UE (.int 1)))) (UE (.int 1)))))
 (UW (UE (.bool C6)))
 (sNx)
noncomputable def RX:SM:=
 UD (sIf (mOr (U9 (KU (UL (λd=>.bool (U3 d "tuple")) (Uz 4)))) (mOr (UF oNe (K0 4) (UE (.int 2))) (U9 (KU (UQ 1 YC (UG (UJ 4 (UE (.int 0))) (UB)))))))
 (UW (UE (.bool C6)))
 (sNx))
 (UD (ZK (Uz 4) (gT 2 (gNC (gN 5) (gNC (gN 6) (gN0)))))
 (UD (sIf (mOr (Kh (oIB λi j=>decide (i<j)) 5 (UE (.int 0))) (mOr (Kh (oIB λi j=>decide (j<=i)) 5 (K0 1)) (mOr (Zs oIn (Uz 5) 3) (Kh oEq 6 (UJ 1 (Uz 5))))))
 (UW (UE (.bool C6)))
 (sNx))
 (UD (sIf (KY (UL (λd=>!isNon d) (Uz 6)) (U9 (KU (UQ 1 YC (UG (Uz 6) (UB))))))
 (UW (UE (.bool C6)))
 (sNx))
 (UD (sIf (KY (UL (λd=>!isNon d) (Uz 6)) (Kh Zf 6 (UQ 2 Ye (UG (Uz 0) (UG (Uz 5) (UB))))))
 (UW (UE (.bool C6)))
 (sNx))
 (KW 3 (Uz 5))))))
noncomputable def Wi:SM:=
 UD (sIf (mOr (U9 (KU (UL (λd=>.bool (U3 d "list")) (Uz 2)))) (Kh Wd 2 (Kg (UB))))
 (UW (UE (.bool C6)))
 (sNx))
 (UD (Km 3 (UM (UB) λxs=>if xs.length<=1000000 then UE xs else λ_=>.bad))
 (UD (Kq (K2 (Uz 2)) (gN 4) RX)
 (UD (Kq (W7 (UG (UE (.int 1)) (UG (K0 2) (UB)))) (gN 7) RY)
 (UD (UY 8 (UF oIx (UJ 2 (ZO (UE (.int 1)))) (UE (.int 1))))
 (UD (sIf (mOr (UL isNon (Uz 8)) (Kh oEq 8 (UJ 1 (UF oIx (UJ 2 (UE (.int 0))) (UE (.int 0))))))
 (UW (UE (.bool C5)))
 (sNx))
 (UW (UL Um (UF (oIB λi j=>decide (i<j)) (V3 (Uz 1) (UG (Uz 8) (UB))) (UF oIx (UJ 0 (UE (.int 0))) (Uz 8))))))))))
noncomputable def Zj:C7->Bb:=U5 N_ar Wi
noncomputable abbrev Sas:Stmt:=top 29
noncomputable abbrev N_as:List Str:=["_law_wishes_here", "_law_one", "_law_other", "_law_handed", "_law_kept", "_law_found", "_law_movers", "_law_way", "_law_asker", "_law_what", "_law_due", "_law_shown"]
theorem Has:NmF Sas N_as:=Za (by decide +kernel)
noncomputable def Wh:SM:=
 UD (Km 3 (UM (UG (UL Ul (Xx 1)) (UG (UL Ul (Xx 2)) (UB))) λxs=>if xs.length<=1000000 then UE xs else λ_=>.bad))
 (UD (UY 4 (Zp YS (UG (Uz 0) (UB))))
 (UD (Xn 5 (.lst (.lst .leaf)) (UQ 3 TC (UG (Uz 0) (UG (UJ 3 (UE (.int 0))) (UG (UJ 3 (UE (.int 1))) (UB))))))
 (UD (sIf (WH (mOr (U9 (KU (UL (λd=>.bool (U3 d "list")) (Uz 5)))) (mOr (Kh oNe 3 (Kg (UG (Uz 1) (UG (Uz 2) (UB))))) (UF oNe (Zp YS (UG (Uz 0) (UB))) (Uz 4)))))
 (UW (UE (.bool C6)))
 (sNx))
 (UD (Km 6 (UM (UB) λxs=>if xs.length<=1000000 then UE xs else λ_=>.bad))
 (UD (WQ 5 7 8 9 6 (U9 (KU (UQ 3 Zj (UG (Uz 0) (UG (Uz 1) (UG (Uz 7) (UB))))))) (mOr (Zs oIn (Uz 8) 6) (Kh oNe 9 (UJ 2 (Uz 8)))) (.bool C6))
 (UD (Km 10 (ZV (YN (UG (K0 1) (UB))) 1 (gN 12) (UF oNe (UJ 1 (Uz 12)) (UJ 2 (Uz 12))) (Uz 12)))
 (UD (UY 11 (Ve (Zp YS (UG (Uz 5) (UB)))))
 (UD (WJ 5 (.lst (.lst .leaf)) ((7::[])++[]) (kC (kF kA) kA) 8)
 (UW (YO (UL Um (Zs oEq (Zp Wz (UG (Uz 6) (UB))) 10)) (UL Um (UF oEq (Zp YS (UG (UQ 3 Wx (UG (Uz 0) (UG (Uz 1) (UG (Uz 2) (UB))))) (UB))) (Uz 11)))))))))))))
noncomputable def YB:C7->Bb:=U5 N_as Wh
noncomputable abbrev Sam:Stmt:=top 23
noncomputable abbrev N_am:List Str:=["_law_cell", "_law_salt", "_law_sizes", "_law_number", "_law_left", "_law_found", "_law_k", "_law_one"]
theorem Ham:NmF Sam N_am:=Za (by decide +kernel)
noncomputable def Sm:SM:=
 sIf (KY (Kh (oIB λi j=>decide (j<=i)) 3 (UF Yv (UE (.int 10)) (UE (.int 18)))) (Kh (oIB λi j=>decide (j<i)) 4 (UE (.int 0))))
 (UD (KW 5 (UF K6 (Uz 4) (UJ 2 (Uz 6))))
 (UY 4 (UF Yw (Uz 4) (UJ 2 (Uz 6)))))
 (UD (UY 7 (UF K6 (UF UX (UF UX (UF UX (Uz 3) (UF U8 (UE (.int 7919)) (Uz 1))) (UF U8 (UF U8 (UE (.int 101)) (Uz 6)) (Uz 6))) (Uz 6)) (UE (.int 2147483647))))
 (UD (UY 7 (UF K6 (UF U8 (Uz 7) (UE (.int 48271))) (UE (.int 2147483647))))
 (UD (UY 7 (UF K6 (UF U8 (UF K6 (UF U8 (Uz 7) (Uz 7)) (UE (.int 2147483629))) (UE (.int 48271))) (UE (.int 2147483647))))
 (KW 5 (UF K6 (UF Yw (Uz 7) (UE (.int 16))) (UJ 2 (Uz 6)))))))
noncomputable def Wm:SM:=
 UD (UY 3 (Zp VH (UG (Uz 0) (UG (UF Z7 (ZO (UE (.int 1))) (Uz 0)) (UB)))))
 (UD (UY 4 (Uz 3))
 (UD (Km 5 (UM (UB) λxs=>if xs.length<=1000000 then UE xs else λ_=>.bad))
 (UD (Kq (YN (UG (K0 2) (UB))) (gN 6) Sm)
 (UW (Uz 5)))))
noncomputable def Zk:C7->Bb:=U5 N_am Wm
noncomputable abbrev Sap:Stmt:=top 26
noncomputable abbrev N_ap:List Str:=["_law_wishes_here", "_law_cell", "_law_salt", "_law_left", "_law_digits", "_law_found", "_law_asker", "_law_some", "_law_thing"]
theorem Hap:NmF Sap N_ap:=Za (by decide +kernel)
noncomputable def Sk:SM:=
 UD (UY 7 (UF UX (UL Ul (XX (K2 (UQ 2 Ye (UG (Uz 0) (UG (Uz 6) (UB))))) 1 (gN 9) (UF (oIB λi j=>decide (j<i)) (UJ 3 (Uz 9)) (UE (.int 0))) (Uz 9))) (Kg (UG (UE .none) (UB)))))
 (UD (UY 8 (UJ 7 (UF K6 (UJ 4 (Uz 6)) (K0 7))))
 (UD (sIf (UL (λd=>!isNon d) (Uz 8))
 (VG 3 (Uz 8) (UF Z7 (UJ 3 (Uz 8)) (UE (.int 1))))
 (sNx))
 (KW 5 (Uz 8))))
noncomputable def Wj:SM:=
 UD (Km 3 (UM (UG (UJ 0 (UE (.int 0))) (UB)) λxs=>UN (Yh xs)))
 (UD (UY 4 (UQ 3 Zk (UG (Uz 1) (UG (Uz 2) (UG (UF U8 (Kg (UG (UE (.int 61)) (UB))) (Zp Ka (UG (UJ 0 (UE (.int 1))) (UB)))) (UB))))))
 (UD (Km 5 (UM (UB) λxs=>if xs.length<=1000000 then UE xs else λ_=>.bad))
 (UD (Kq (YN (UG (Zp Ka (UG (UJ 0 (UE (.int 1))) (UB))) (UB))) (gN 6) Sk)
 (UW (Uz 5)))))
noncomputable def YD:C7->Bb:=U5 N_ap Wj
noncomputable abbrev San:Stmt:=top 24
noncomputable abbrev N_an:List Str:=["_law_script", "_law_at", "_law_most_things", "_law_most_askers", "_law_most_ranks", "_law_digits", "_law_copies", "_law_lists", "_law_asker", "_law_cell", "_law_places", "_law_ranks", "_law_rank", "_law_row"]
theorem Han:NmF San N_an:=Za (by decide +kernel)
noncomputable def Sj:SM:=
 UD (Km 13 (ZV (YN (UG (K0 6) (UB))) 1 (gN 14) (UF oEq (UJ 10 (Uz 14)) (Uz 12)) (Uz 14)))
 (sIf (Kh oNe 13 (Kg (UB)))
 (KW 11 (UF oIx (Kg (UG (Uz 13) (UG (Xe (Uz 13) (UE C4) (UE C4) (UM (ZO (UE (.int 1))) λx=>UN (XN x))) (UB)))) (UJ 10 (ZO (UE (.int 1))))))
 (sNx))
noncomputable def Si:SM:=
 UD (UY 9 (UQ 2 Zl (UG (Uz 0) (UG (UF UX (UF UX (Uz 1) (UE (.int 1))) (Uz 8)) (UB)))))
 (UD (UY 10 (UQ 3 Zk (UG (Uz 9) (UG (UF UX (UF UX (UF U8 (UE (.int 11)) (Uz 1)) (UF U8 (UE (.int 3)) (Uz 8))) (UE (.int 1))) (UG (UF UX (UF U8 (Kg (UG (UF UX (Uz 4) (UE (.int 1))) (UB))) (Uz 2)) (Kg (UG (UE (.int 2)) (UB)))) (UB))))))
 (UD (Km 11 (UM (UB) λxs=>if xs.length<=1000000 then UE xs else λ_=>.bad))
 (UD (Kq (W7 (UG (UE (.int 1)) (UG (UF UX (Uz 4) (UE (.int 1))) (UB)))) (gN 12) Sj)
 (KW 7 (Uz 11)))))
noncomputable def Wl:SM:=
 UD (UY 5 (UQ 3 Zk (UG (UQ 2 Zl (UG (Uz 0) (UG (Uz 1) (UB)))) (UG (Uz 1) (UG (UF UX (Kg (UG (Uz 2) (UG (Uz 3) (UB)))) (UF U8 (Kg (UG (UE (.int 11)) (UB))) (Uz 2))) (UB))))))
 (UD (Km 6 (ZV (K2 (Yy (Uz 5) (UM (UE (.int 2)) λx=>UN (XN x)) (UM (UF UX (UE (.int 3)) (UJ 5 (UE (.int 0)))) λx=>UN (XN x)))) 1 (gN 14) (UE C5) (UF oIx (Kg (UG (UE (.int 1)) (UG (UE (.int 1)) (UG (UE (.int 2)) (UG (UE (.int 0)) (UG (UE (.int 3)) (UG (UE (.int 7)) (UG (UE (.int 1)) (UG (UE (.int 4)) (UG (UE (.int 5)) (UG (UE (.int 6)) (UG (UE (.int 1)) (UB))))))))))))) (Uz 14))))
 (UD (Km 7 (UM (UB) λxs=>if xs.length<=1000000 then UE xs else λ_=>.bad))
 (UD (Kq (YN (UG (UF UX (UE (.int 1)) (UJ 5 (UE (.int 1)))) (UB))) (gN 8) Si)
 (UW (ZM (UG (Uz 6) (UG (Uz 7) (UB))))))))
noncomputable def Xg:C7->Bb:=U5 N_an Wl
noncomputable abbrev Sat:Stmt:=top 30
noncomputable abbrev N_at:List Str:=["_law_script", "_law_wishes_here", "_law_k", "_law_cell", "_law_one", "_law_other"]
theorem Hat:NmF Sat N_at:=Za (by decide +kernel)
noncomputable def RW:SM:=
 UD (UY 4 (UQ 3 YD (UG (Uz 1) (UG (Uz 3) (UG (UF UX (UE (.int 30)) (Uz 2)) (UB))))))
 (UD (UY 5 (UQ 3 YD (UG (Uz 1) (UG (UQ 2 Zl (UG (Uz 0) (UG (UF UX (UE (.int 31)) (Uz 2)) (UB)))) (UG (UF UX (UE (.int 70)) (Uz 2)) (UB))))))
 (UD (sIf (UF oEq (UF oIx (UQ 3 Zk (UG (Uz 3) (UG (UE (.int 50)) (UG (Kg (UG (UE (.int 5)) (UB))) (UB))))) (UE (.int 0))) (UE (.int 4)))
 (Km 5 (Xx 4))
 (sNx))
 (sIf (mOr (U9 (KU (UQ 3 YB (UG (Uz 1) (UG (Uz 4) (UG (Uz 5) (UB))))))) (U9 (KU (UQ 3 YB (UG (Uz 1) (UG (Uz 5) (UG (Uz 4) (UB))))))))
 (UW (UE (.bool C6)))
 (sNx))))
noncomputable def Wg:SM:=
 UD (UY 1 (UQ 5 Xg (UG (Uz 0) (UG (UE (.int 0)) (UG (UE (.int 6)) (UG (UE (.int 7)) (UG (UE (.int 5)) (UB))))))))
 (UD (Kq (XM (UG (UF UX (Kg (UG (UQ 2 Zl (UG (Uz 0) (UG (UE (.int 8)) (UB)))) (UB))) (Yy (Uz 0) (UM (UE (.int 9)) λx=>UN (XN x)) (UM (UE (.int 30)) λx=>UN (XN x)))) (UB))) (gT 2 (gNC (gN 2) (gNC (gN 3) (gN0)))) RW)
 (UW (UE (.bool C5))))
noncomputable def Xf:C7->Bb:=U5 N_at Wg
set_option hygiene false in
local macro_rules | `(tactic| walk_at "g")=>`(tactic| first | exact gA nm rfl | exact MJ rfl)
set_option hygiene false in
local macro_rules | `(tactic| walk_at "v")=>`(tactic| first | exact pq nm _ | exact pvb _)
set_option hygiene false in
local macro_rules | `(tactic| walk_at "b")=>`(tactic| first | ((with_reducible show OpB _ (compareOp CmpOp.Eq) _);first | exact B_eq hu | exact NC hu) | ((with_reducible show OpB _ (compareOp CmpOp.NotEq) _);first | exact B_ne hu) | ((with_reducible show OpB _ (compareOp CmpOp.Lt) _);first | exact B_lt) | ((with_reducible show OpB _ (compareOp CmpOp.LtE) _);first | exact B_le) | ((with_reducible show OpB _ (compareOp CmpOp.Gt) _);first | exact B_gt) | ((with_reducible show OpB _ (compareOp CmpOp.GtE) _);first | exact B_ge) | ((with_reducible show OpB _ (compareOp CmpOp.In) _);first | exact B_in hu) | ((with_reducible show OpB _ (compareOp CmpOp.NotIn) _);first | exact MB hu))
set_option hygiene false in
local macro_rules | `(tactic| walk_at "m")=>`(tactic| first | exact L9 _ | exact rfl)
set_option hygiene false in
local macro_rules | `(tactic| walk_at "k")=>`(tactic| first | exact FQ | exact Du | exact Dt)
set_option hygiene false in
local macro_rules | `(tactic| walk_at "w")=>`(tactic| first | exact PassesOwn.never)
set_option hygiene false in
local macro_rules | `(tactic| walk_at "x")=>`(tactic| first | assumption | exact wants_cx)
set_option hygiene false in
local macro_rules | `(tactic| walk_at "c")=>`(tactic| first | exact T.c_MOST_ASKERS | exact T.c_MOST_COPIES | exact T.c_MOST_RANKS | exact T.c_MOST_THINGS)
set_option hygiene false in
local macro_rules | `(tactic| walk_at "ck")=>`(tactic| fail)
set_option hygiene false in
local macro_rules | `(tactic| walk_at "e")=>`(tactic| first | ((with_reducible show PE _ (Expr.Name _ _) _);first | exact GP (pq nm _) | exact RM (pq nm _) | exact RM (pvb _) | exact ME (by walk_at "g") (by walk_at "c")) | ((with_reducible show PE _ (Expr.Constant _ _ _) _);first | exact Hx | exact GZ | exact Fa) | ((with_reducible show PE _ (Expr.Subscript _ _ _) _);first | refine HX (by walk_at "v") ?_ (fun _ _=>rfl) | refine DQ ?_ ?_ ?_ | refine HF ?_ ?_ ?_ ?_ | refine MX ?_ ?_ (fun _ _=>rfl)) | ((with_reducible show PE _ (Expr.BinOp _ Operator.Add _ _) _);first | refine XQ Rs ?_ ?_) | ((with_reducible show PE _ (Expr.BinOp _ Operator.Sub _ _) _);first | refine XQ Mf ?_ ?_) | ((with_reducible show PE _ (Expr.BinOp _ Operator.Mult _ _) _);first | refine XQ Rr ?_ ?_) | ((with_reducible show PE _ (Expr.BinOp _ Operator.Mod _ _) _);first | refine XQ Me ?_ ?_) | ((with_reducible show PE _ (Expr.BinOp _ Operator.FloorDiv _ _) _);first | refine XQ Md ?_ ?_) | ((with_reducible show PE _ (Expr.BinOp _ Operator.Pow _ _) _);first | refine XQ Mc ?_ ?_) | ((with_reducible show PE _ (Expr.Call (Expr.Name "len" _) _ _ _) _);first | refine FV (by walk_at "g") T.b_len (by walk_at "v") | refine WX Rq (by walk_at "g") T.b_len boot_len ?_ | refine DP rfl (by walk_at "g") T.b_len (by walk_at "g") T.b_set ?_) | ((with_reducible show PE _ (Expr.Call (Expr.Name "max" _) _ _ _) _);first | refine WX (MW rfl) (by walk_at "g") T.b_max boot_max ?_) | ((with_reducible show PE _ (Expr.Call (Expr.Name "sorted" _) _ _ _) _);first | refine WX Lh (by walk_at "g") T.b_sorted PyProof.Rows.boot_sorted ?_) | ((with_reducible show PE _ (Expr.Call (Expr.Name "sum" _) _ _ _) _);first | refine WX (Lm rfl) (by walk_at "g") T.b_sum PyProof.Rows.boot_sum ?_) | ((with_reducible show PE _ (Expr.Call (Expr.Name "all" _) _ _ _) _);first | refine WX (N6 rfl) (by walk_at "g") T.b_all PyProof.Rows.boot_all ?_) | ((with_reducible show PE _ (Expr.Call (Expr.Name "repr" _) _ _ _) _);first | refine WX (Lg hu hgd) (by walk_at "g") T.b_repr Ch ?_) | ((with_reducible show PE _ (Expr.Call (Expr.Name "isinstance" _) [_,Expr.Name "int" _] _ _) _);first | refine Tt (c := "int") (by decide) (by walk_at "g") T.b_isinstance (by walk_at "g") T.b_int (by decide +kernel) ?_ (by decide) (by decide)) | ((with_reducible show PE _ (Expr.Call (Expr.Name "isinstance" _) [_,Expr.Name "list" _] _ _) _);first | refine Tt (c := "list") (by decide) (by walk_at "g") T.b_isinstance (by walk_at "g") T.b_list (by decide +kernel) ?_ (by decide) (by decide)) | ((with_reducible show PE _ (Expr.Call (Expr.Name "isinstance" _) [_,Expr.Name "tuple" _] _ _) _);first | refine Tt (c := "tuple") (by decide) (by walk_at "g") T.b_isinstance (by walk_at "g") T.b_tuple (by decide +kernel) ?_ (by decide) (by decide)) | ((with_reducible show PE _ (Expr.Call (Expr.Name "isinstance" _) [_,Expr.Name "bool" _] _ _) _);first | refine Tt (c := "bool") (by decide) (by walk_at "g") T.b_isinstance (by walk_at "g") T.b_bool (by decide +kernel) ?_ (by decide) (by decide)) | ((with_reducible show PE _ (Expr.Call (Expr.Name _ _) _ _ _) _);first | refine pdf (by assumption) hr (by walk_at "g") ?_) | ((with_reducible show PE _ (Expr.Call _ _ _ _) _);first | refine Dk hu ?_ ?_ | refine GQ hu ?_ ?_) | refine Pp ?_ | refine Pq ?_ | ((with_reducible show PE _ (Expr.Compare _ _ _ _) _);first | refine Gw (by walk_at "b") ?_ (by walk_at "v") (by walk_at "m") | refine Fx (by walk_at "b") ?_ ?_ (by walk_at "m") | refine De (by walk_at "b") (by walk_at "b") ?_ ?_ ?_) | refine HI ?_ | refine HN ?_ | refine HZ ?_ | refine Gc ?_ ?_ | refine Ga ?_ | refine Ec fun B' G'=>?_)
set_option hygiene false in
local macro_rules | `(tactic| walk_at "t")=>`(tactic| first | ((with_reducible show PT _ _ (tBo _ _ _ (WH _)));refine Ee fun B' G'=>?_) | ((with_reducible show PT _ (Expr.Compare _ _ _ _) _);first | refine HY ?_ | refine FY ?_ | refine HG (by walk_at "b") (by walk_at "v") ?_ (by walk_at "m") | refine Gx (by walk_at "b") ?_ (by walk_at "v") (by walk_at "m") | refine Fy (by walk_at "b") ?_ ?_ (by walk_at "m") | refine Df (by walk_at "b") (by walk_at "b") ?_ ?_ ?_) | ((with_reducible show PT _ (Expr.BoolOp _ _ _) _);refine PW.pt ?_) | refine Ge ?_ | refine Gd ?_)
set_option hygiene false in
local macro_rules | `(tactic| walk_at "l")=>`(tactic| first | refine Cg rfl (by walk_at "g") T.b_list ?_ | refine Nz nm (by walk_at "k") rfl ?_ ?_ (by decide +kernel) | refine Dp (by walk_at "g") T.b_list (by walk_at "v") | refine FJ (by walk_at "g") T.b_list ?_ | refine SB ?_ | refine EG (by assumption) hr (by walk_at "g") ?_ | refine Eb fun B' G'=>?_ | refine Gj (by walk_at "v"))
set_option hygiene false in
local macro_rules | `(tactic| walk_at "i")=>`(tactic| first | refine Dd (by walk_at "g") T.b_range ?_ | refine Dc (by walk_at "g") T.b_range ?_ | refine HP (by walk_at "g") T.b_enumerate ?_ | refine Lo (by walk_at "g") T.b_zip ?_ | refine MG ?_)
set_option hygiene false in
local macro_rules | `(tactic| walk_at "s")=>`(tactic| first | ((with_reducible show PS _ _ (tS _ _ _ _ (WQ _ _ _ _ _ _ _ _)));refine Ez PassesOwn.never rfl nm (pq nm _) (pq nm _) (pq nm _) (pq nm _) (fun B' G'=>?_) (fun B' G'=>?_) (fun B' G'=>?_) (fun B' G'=>?_)) | ((with_reducible show PS _ _ (tS _ _ _ _ (WG _ _)));refine Gn (pq nm _) (pq nm _)) | ((with_reducible show PS _ (Stmt.Assign [Expr.Name _ _] _ _) _);first | refine aSet nm ?_ | refine Ny nm (by walk_at "k") rfl ?_ ?_ (by decide +kernel) | refine Rx nm ?_ | refine NA nm ?_) | ((with_reducible show PS _ (Stmt.Assign _ _ _) _);first | refine MQ ?_ ?_ | refine HH ?_ (by walk_at "v") ?_ | refine M8 hu ?_ (by walk_at "v") ?_) | refine Mb ?_ ?_ ?_ | refine MT ?_ | refine MM (by walk_at "w") rfl ?_ ?_ ?_ | ((with_reducible show PS _ (Stmt.Expr _ _) _);first | refine MN (by walk_at "v") ?_ | refine Li (by walk_at "v") ?_ | refine HS ?_) | exact FS | refine Em _ (by walk_at "w") ?_ ?_)
set_option hygiene false in
local macro_rules | `(tactic| walk_at "d")=>`(tactic| (have hu:=hr.units;have hgd:=hr.gd;repeat' (first | ((with_reducible show PSs _ (ZY _) _);show PSs _ (_ :: _) _) | ((with_reducible show PSs _ (Stmt.Assign _ _ _ :: _ :: _) _);generalize hS:(_ :: _:List Stmt)=sts;refine F7 hS ?_ ?_) | ((with_reducible show PS _ (Stmt.Assign [Expr.Name _ _] (Expr.List _ _) _) (tS _ _ _ _ (Km _ _)));generalize hS:Stmt.Assign _ _ _=st;refine LC hS nm ?_) | ((with_reducible show PS _ (Stmt.Assign [Expr.Name _ _] (Expr.BinOp _ _ _ _) _) (tS _ _ _ _ (UY _ _)));generalize hS:Stmt.Assign _ _ _=st;refine Nx hS nm ?_) | ((with_reducible show PE _ (Expr.List _ _) _);generalize hS:Expr.List _ _=e;first | refine F6 hS ?_ | refine F5 hS ?_) | ((with_reducible show PE _ (Expr.Tuple _ _ _) _);generalize hS:Expr.Tuple _ _ _=e;refine F4 hS ?_) | ((with_reducible show PE _ (Expr.BinOp _ Operator.Add _ _) (tD _ _ _ _));generalize hS:Expr.BinOp _ _ _ _=e;refine RG Rs hS ?_ ?_) | ((with_reducible show PE _ (Expr.BinOp _ Operator.Mult _ _) (tD _ _ _ _));generalize hS:Expr.BinOp _ _ _ _=e;refine RG Rr hS ?_ ?_) | ((with_reducible show PA _ (_ :: _) (tDs _ _ _ _));generalize hS:(_ :: _:List Expr)=es;refine EC hS ?_ ?_) | ((with_reducible show PSs _ _ (tS _ _ _ _ (UD (WJ _ _ _ _ _) _)));refine F3 (top:=4) ?_) | ((with_reducible show PE _ _ (tD _ _ _ _));first | walk_at "e") | ((with_reducible show PA _ _ (tDs _ _ _ _));first | refine Oa ?_ ?_ | exact Pr) | ((with_reducible show PSs _ _ (tS _ _ _ _ _));first | refine Po ?_ ?_ | refine MU ?_ | exact MV | exact sD_nevers) | ((with_reducible show PS _ _ _);walk_at "s") | ((with_reducible show PT _ _ _);walk_at "t") | ((with_reducible show PW _ _ _);first | refine Fu ?_ ?_ | refine MY ?_ ?_ | refine FZ ?_ | refine Fv ?_) | ((with_reducible show PE _ _ (tL _ _ _ _));walk_at "l") | ((with_reducible show PI _ _ _ _);walk_at "i") | ((with_reducible show PG _ _ _);first | exact NB nm | exact M6 | refine MR rfl ?_) | ((with_reducible show PGs _ _ _);first | exact MS | refine HR ?_ ?_) | ((with_reducible show PO _ _ _);first | exact FX | refine FW ?_) | ((with_reducible show Zz _ _ _ _ _ _ _ _ _);refine fun cl C s0 H0 ex=>⟨fun B' G'=>?_,fun B' G'=>?_,?_⟩) | ((with_reducible show ZQ _ _ _);first | exact HK | refine HJ ?_) | ((with_reducible show W4 _ _ _ _ _ _);first | refine E6 rfl rfl rfl fun B' G'=>?_ | refine Dv rfl rfl rfl rfl (fun _=>rfl) (fun B' G'=>?_) (fun B' G'=>?_) (fun B' G'=>?_) ?_) | ((with_reducible show PSs _ _ (Z4 (Ke _ _ _ _) _));first | (with_reducible refine GM ?_ ?_) | refine Lz ?_ ?_) | ((with_reducible show PSs _ _ (Ke _ _ _ _));first | refine GN ?_ | refine spb_cons ?_ ?_) | ((with_reducible show PS _ _ (Ke _ _ _ _));first | refine Lx (j:=5) (π:=[]) (n:=0) (iy:=7) PassesOwn.never rfl nm.nd rfl (lq nm 7 rfl) (Sq (pq nm 5)) ?_ | exact Ly (j:=7) (π:=[]) (Sq (pq nm 7)) RU | exact GK (j:=5) (π:=[]) (m:=0) (Sq (pq nm 5)) GL) | ((with_reducible show PE _ _ (tT _ _ _ _ _));first | refine Ed (by assumption) hr (by walk_at "g") ?_ | exact Gp | exact F8 | refine peT_disp ?_) | ((with_reducible show PSs _ _ (tSO _ _ _ _ _));first | refine Le ?_ | refine Gu ?_ ?_) | ((with_reducible show PSs _ _ (tST _ _ _ _ _ _));first | refine Lc (GJ (by walk_at "v")) | refine Go ?_ ?_))))
section
variable{P:Ub}{w:World}{K:Frag}{mg:Str->Bd}{base:Heap}{f:Uc}{fd:Ud}(T:Txt K mg)
include T
theorem Kal(F:Fun K "_law_cell_at" "_law_cell_at" Sal f fd):FnOk P w K mg base CX0 1 f fd ["_law_script", "_law_k"] (spD K 2 Zl):=
 okD (k:=0) (g:=Y9) F (fq Hal 2) C3 λcdv A outer s H E B G0 hr=>
 have nm:=Hal
 by walk_at "d"
theorem Kah(F:Fun K "moved_askers" "moved_askers" Sah f fd):FnOk P w K mg base CX0 1 f fd ["one", "other"] (spD K 2 Yg):=
 okD (k:=0) (g:=Wo) F (fq Hah 2) C3 λcdv A outer s H E B G0 hr=>
 have nm:=Hah
 by walk_at "d"
theorem Kai(BN:Def P w K mg base "moved_askers" 1 2 Yg)(F:Fun K "followers" "followers" Sai f fd):FnOk P w K mg base CX0 2 f fd ["things", "one", "other"] (spD K 3 Xh):=
 okD (k:=1) (g:=Wn) F (fq Hai 3) C3 λcdv A outer s H E B G0 hr=>
 have nm:=Hai
 by walk_at "d"
theorem Kaa(F:Fun K "is_whole" "is_whole" Saa f fd):FnOk P w K mg base CX0 1 f fd ["thing"] (spD K 1 Xm):=
 okD (k:=0) (g:=Wv) F (fq Haa 1) C3 λcdv A outer s H E B G0 hr=>
 have nm:=Haa
 by walk_at "d"
theorem Kab(AV:Def P w K mg base "is_whole" 1 1 Xm)(F:Fun K "is_number_below" "is_number_below" Sab f fd):FnOk P w K mg base CX0 2 f fd ["thing", "many"] (spD K 2 ZR):=
 okD (k:=1) (g:=Wu) F (fq Hab 2) C3 λcdv A outer s H E B G0 hr=>
 have nm:=Hab
 by walk_at "d"
theorem Kad(BO:Def P w K mg base "is_number_below" 2 2 ZR)(F:Fun K "is_rank" "is_rank" Sad f fd):FnOk P w K mg base CX0 3 f fd ["thing", "things"] (spD K 2 YE):=
 okD (k:=2) (g:=Ws) F (fq Had 2) C3 λcdv A outer s H E B G0 hr=>
 have nm:=Had
 by walk_at "d"
theorem Kae(AT:Def P w K mg base "is_rank" 3 2 YE)(F:Fun K "is_asker_list" "is_asker_list" Sae f fd):FnOk P w K mg base CX0 4 f fd ["thing", "things"] (spD K 2 Xk):=
 okD (k:=3) (g:=Wr) F (fq Hae 2) C3 λcdv A outer s H E B G0 hr=>
 have nm:=Hae
 by walk_at "d"
theorem Kaf(AS:Def P w K mg base "is_asker_list" 4 2 Xk)(F:Fun K "look_at_lists" "look_at_lists" Saf f fd):FnOk P w K mg base CX0 5 f fd ["lists", "things"] (spD K 2 Xj):=
 okD (k:=4) (g:=Wq) F (fq Haf 2) C3 λcdv A outer s H E B G0 hr=>
 have nm:=Haf
 by walk_at "d"
theorem Kac(BO:Def P w K mg base "is_number_below" 2 2 ZR)(F:Fun K "look_at_copies" "look_at_copies" Sac f fd):FnOk P w K mg base CX0 3 f fd ["copies"] (spD K 1 Xl):=
 okD (k:=2) (g:=Wt) F (fq Hac 1) C3 λcdv A outer s H E B G0 hr=>
 have nm:=Hac
 by walk_at "d"
theorem Kag(AR:Def P w K mg base "look_at_lists" 5 2 Xj)(AU:Def P w K mg base "look_at_copies" 3 1 Xl)(F:Fun K "look_at_wishes" "look_at_wishes" Sag f fd):FnOk P w K mg base CX0 6 f fd ["thing"] (spD K 1 Xi):=
 okD (k:=5) (g:=Wp) F (fq Hag 1) C3 λcdv A outer s H E B G0 hr=>
 have nm:=Hag
 by walk_at "d"
theorem CG(F:Fun K "way_from" "way_from" Na f fd):FnOk P w K mg base CX0 1 f fd ["first", "behind", "other"] (spO K 3 TH):=
 okO (k:=0) (g:=TJ) F (fq O6 3) C3 λcdv A outer s H E B G0 hr=>
 have nm:=O6
 by walk_at "d"
theorem CZ(BN:Def P w K mg base "moved_askers" 1 2 Yg)(AO:Def P w K mg base "followers" 2 3 Xh)(AQ:Def P w K mg base "look_at_wishes" 6 1 Xi)(Bn:Wy P w K mg base "way_from" 1 3 TH)(F:Fun K "ways_between" "ways_between" Nm f fd):FnOk P w K mg base CX0 7 f fd ["wishes", "one", "other"] (spT K 3 (.lst (.lst .leaf)) TC):=
 okT (k:=6) (g:=Rj) F (fq Nu 3) C3 λcdv A outer s H E B G0 hr=>
 have nm:=Nu
 by walk_at "d"
theorem Kao(F:Fun K "_law_wished" "_law_wished" Sao f fd):FnOk P w K mg base CX0 1 f fd ["_law_wishes_here", "_law_asker"] (spD K 2 Ye):=
 okD (k:=0) (g:=Wk) F (fq Hao 2) C3 λcdv A outer s H E B G0 hr=>
 have nm:=Hao
 by walk_at "d"
theorem Kaq(F:Fun K "_law_whole_number" "_law_whole_number" Saq f fd):FnOk P w K mg base CX0 1 f fd ["_law_thing"] (spD K 1 YC):=
 okD (k:=0) (g:=g_aq) F (fq Haq 1) C3 λcdv A outer s H E B G0 hr=>
 have nm:=Haq
 by walk_at "d"
theorem Kar(BL:Def P w K mg base "_law_wished" 1 2 Ye)(AK:Def P w K mg base "_law_whole_number" 1 1 YC)(F:Fun K "_law_is_way" "_law_is_way" Sar f fd):FnOk P w K mg base CX0 2 f fd ["_law_wishes_here", "_law_dealing", "_law_thing"] (spD K 3 Zj):=
 okD (k:=1) (g:=Wi) F (fq Har 3) C3 λcdv A outer s H E B G0 hr=>
 have nm:=Har
 by walk_at "d"
theorem Kas(AN:Def P w K mg base "ways_between" 7 3 Wx)(AJ:Def P w K mg base "_law_is_way" 2 3 Zj)(Bl:DefT P w K mg base "ways_between" 7 3 (.lst (.lst .leaf)) TC)(F:Fun K "_law_right" "_law_right" Sas f fd):FnOk P w K mg base CX0 8 f fd ["_law_wishes_here", "_law_one", "_law_other"] (spD K 3 YB):=
 okD (k:=7) (g:=Wh) F (fq Has 3) C3 λcdv A outer s H E B G0 hr=>
 have nm:=Has
 by walk_at "d"
theorem Kam(F:Fun K "_law_numbers" "_law_numbers" Sam f fd):FnOk P w K mg base CX0 1 f fd ["_law_cell", "_law_salt", "_law_sizes"] (spD K 3 Zk):=
 okD (k:=0) (g:=Wm) F (fq Ham 3) C3 λcdv A outer s H E B G0 hr=>
 have nm:=Ham
 by walk_at "d"
theorem Kap(BL:Def P w K mg base "_law_wished" 1 2 Ye)(Bu:Def P w K mg base "_law_numbers" 1 3 Zk)(F:Fun K "_law_dealt" "_law_dealt" Sap f fd):FnOk P w K mg base CX0 2 f fd ["_law_wishes_here", "_law_cell", "_law_salt"] (spD K 3 YD):=
 okD (k:=1) (g:=Wj) F (fq Hap 3) C3 λcdv A outer s H E B G0 hr=>
 have nm:=Hap
 by walk_at "d"
theorem Kan(Bu:Def P w K mg base "_law_numbers" 1 3 Zk)(BM:Def P w K mg base "_law_cell_at" 1 2 Zl)(F:Fun K "_law_wishes" "_law_wishes" San f fd):FnOk P w K mg base CX0 2 f fd ["_law_script", "_law_at", "_law_most_things", "_law_most_askers", "_law_most_ranks"] (spD K 5 Xg):=
 okD (k:=1) (g:=Wl) F (fq Han 5) C3 λcdv A outer s H E B G0 hr=>
 have nm:=Han
 by walk_at "d"
theorem Kat(BM:Def P w K mg base "_law_cell_at" 1 2 Zl)(AI:Def P w K mg base "_law_right" 8 3 YB)(Bu:Def P w K mg base "_law_numbers" 1 3 Zk)(AL:Def P w K mg base "_law_dealt" 2 3 YD)(AM:Def P w K mg base "_law_wishes" 2 5 Xg)(F:Fun K "law" "law" Sat f fd):FnOk P w K mg base CX0 9 f fd ["_law_script"] (spD K 1 Xf):=
 okD (k:=8) (g:=Wg) F (fq Hat 1) C3 λcdv A outer s H E B G0 hr=>
 have nm:=Hat
 by walk_at "d"
end
theorem K7:recsOf q0=XT p0 ixL:=by show recsOf (PySem.W.view PySem.Challenge.pw_wishdeal_k29_partings Ym)=XT PySem.Challenge.pw_wishdeal_k29_partings ixL;rw[PySem.W.Fast.te3399658132070893891,PySem.W.Fast.te2145434415902404324];kernel_rfl
theorem ZG:(["all", "bool", "enumerate", "int", "isinstance", "len", "list", "max", "range", "repr", "set", "sorted", "sum", "tuple", "zip"]:List Str).all (VP q0 (PySem.W.looseW q0 []))=C5:=by show List.all _ (VP (PySem.W.view PySem.Challenge.pw_wishdeal_k29_partings Ym) (PySem.W.looseW (PySem.W.view PySem.Challenge.pw_wishdeal_k29_partings Ym) []))=C5;k_qdec
theorem CO:valOf q0 "MOST_ASKERS" = O (.int 7):=by show valOf (PySem.W.view PySem.Challenge.pw_wishdeal_k29_partings Ym) _=_;rw[Jm,PySem.W.Fast.te2145434415902404324];kernel_rfl
theorem CN:valOf q0 "MOST_COPIES" = O (.int 7):=by show valOf (PySem.W.view PySem.Challenge.pw_wishdeal_k29_partings Ym) _=_;rw[Jm,PySem.W.Fast.te2145434415902404324];kernel_rfl
theorem CT:valOf q0 "MOST_RANKS" = O (.int 5):=by show valOf (PySem.W.view PySem.Challenge.pw_wishdeal_k29_partings Ym) _=_;rw[Jm,PySem.W.Fast.te2145434415902404324];kernel_rfl
theorem CM:valOf q0 "MOST_THINGS" = O (.int 6):=by show valOf (PySem.W.view PySem.Challenge.pw_wishdeal_k29_partings Ym) _=_;rw[Jm,PySem.W.Fast.te2145434415902404324];kernel_rfl
theorem Lw{l:PySem.W.OpenLaw}{w:World}{s0:Ua}{mg mb:Str->Bd}{fa:Uc}{h:Heap}{XP:(Str->Bd)->Heap->Prop}(G:PySem.W.Ground q0 [] [] XP w s0 mg mb h)(hfa:mg "law" = O (.ref fa)) :
  ∃fd:Ud,(∀(s:Ua)(v:J9),BindsTo s fd ⟨[v],[]⟩ [("_law_script", v)])/\∀base:Heap,FnOk l.prog w (whole h) mg base CX0 9 fa fd ["_law_script"] (spD (whole h) 1 Xf):=by
 have T:Txt (whole h) mg:=⟨ZI G.T ZG (mq 0 C3),ZI G.T ZG (mq 1 C3),ZI G.T ZG (mq 2 C3),ZI G.T ZG (mq 3 C3),ZI G.T ZG (mq 4 C3),ZI G.T ZG (mq 5 C3),ZI G.T ZG (mq 6 C3),ZI G.T ZG (mq 7 C3),ZI G.T ZG (mq 8 C3),ZI G.T ZG (mq 9 C3),ZI G.T ZG (mq 10 C3),ZI G.T ZG (mq 11 C3),ZI G.T ZG (mq 12 C3),ZI G.T ZG (mq 13 C3),ZI G.T ZG (mq 14 C3),Tv G.T CO,Tv G.T CN,Tv G.T CT,Tv G.T CM⟩
 refine Mw G.T K7 30 "law" rfl C3 hfa (λ_ _ _ _ _ _ _=>rfl) λbase=>?_
 have BM:=Zr l.prog w base G.T K7 22 "_law_cell_at" rfl C3 (λF=>Kal T  F) λ_ _ _ _ _ _ us hl=>bz2 (us:=us) hl λ_ _=>rfl
 have BN:=Zr l.prog w base G.T K7 17 "moved_askers" rfl C3 (λF=>Kah T  F) λ_ _ _ _ _ _ us hl=>bz2 (us:=us) hl λ_ _=>rfl
 have AO:=Zr l.prog w base G.T K7 18 "followers" rfl C3 (λF=>Kai T BN F) λ_ _ _ _ _ _ us hl=>bz3 (us:=us) hl λ_ _ _=>rfl
 have AV:=Zr l.prog w base G.T K7 4 "is_whole" rfl C3 (λF=>Kaa T  F) λ_ _ _ _ _ _ us hl=>bz1 (us:=us) hl λ_=>rfl
 have BO:=Zr l.prog w base G.T K7 5 "is_number_below" rfl C3 (λF=>Kab T AV F) λ_ _ _ _ _ _ us hl=>bz2 (us:=us) hl λ_ _=>rfl
 have AT:=Zr l.prog w base G.T K7 12 "is_rank" rfl C3 (λF=>Kad T BO F) λ_ _ _ _ _ _ us hl=>bz2 (us:=us) hl λ_ _=>rfl
 have AS:=Zr l.prog w base G.T K7 13 "is_asker_list" rfl C3 (λF=>Kae T AT F) λ_ _ _ _ _ _ us hl=>bz2 (us:=us) hl λ_ _=>rfl
 have AR:=Zr l.prog w base G.T K7 14 "look_at_lists" rfl C3 (λF=>Kaf T AS F) λ_ _ _ _ _ _ us hl=>bz2 (us:=us) hl λ_ _=>rfl
 have AU:=Zr l.prog w base G.T K7 11 "look_at_copies" rfl C3 (λF=>Kac T BO F) λ_ _ _ _ _ _ us hl=>bz1 (us:=us) hl λ_=>rfl
 have AQ:=Zr l.prog w base G.T K7 15 "look_at_wishes" rfl C3 (λF=>Kag T AR AU F) λ_ _ _ _ _ _ us hl=>bz1 (us:=us) hl λ_=>rfl
 have Bn:=Ld l.prog w base G.T K7 19 "way_from" rfl C3 (λF=>CG T  F) λ_ _ _ _ _ _ us hl=>bz3 (us:=us) hl λ_ _ _=>rfl
 have Bl:=La l.prog w base G.T K7 20 "ways_between" rfl C3 (λF=>CZ T BN AO AQ Bn F) λ_ _ _ _ _ _ us hl=>bz3 (us:=us) hl λ_ _ _=>rfl
 have AN:=Bl.def;have BL:=Zr l.prog w base G.T K7 25 "_law_wished" rfl C3 (λF=>Kao T  F) λ_ _ _ _ _ _ us hl=>bz2 (us:=us) hl λ_ _=>rfl
 have AK:=Zr l.prog w base G.T K7 27 "_law_whole_number" rfl C3 (λF=>Kaq T  F) λ_ _ _ _ _ _ us hl=>bz1 (us:=us) hl λ_=>rfl
 have AJ:=Zr l.prog w base G.T K7 28 "_law_is_way" rfl C3 (λF=>Kar T BL AK F) λ_ _ _ _ _ _ us hl=>bz3 (us:=us) hl λ_ _ _=>rfl
 have AI:=Zr l.prog w base G.T K7 29 "_law_right" rfl C3 (λF=>Kas T AN AJ Bl F) λ_ _ _ _ _ _ us hl=>bz3 (us:=us) hl λ_ _ _=>rfl
 have Bu:=Zr l.prog w base G.T K7 23 "_law_numbers" rfl C3 (λF=>Kam T  F) λ_ _ _ _ _ _ us hl=>bz3 (us:=us) hl λ_ _ _=>rfl
 have AL:=Zr l.prog w base G.T K7 26 "_law_dealt" rfl C3 (λF=>Kap T BL Bu F) λ_ _ _ _ _ _ us hl=>bz3 (us:=us) hl λ_ _ _=>rfl
 have AM:=Zr l.prog w base G.T K7 24 "_law_wishes" rfl C3 (λF=>Kan T Bu BM F) λ_ _ _ _ _ _ us hl=>bz5 (us:=us) hl λ_ _ _ _ _=>rfl
 exact λ{_ _} F=>Kat T BM AI Bu AL AM F
noncomputable abbrev d_at:DefRec:=⟨"law", XH Sat,ZY Sat,Kw Sat,Mx Sat⟩
theorem walk{YP:World->Heap->Prop}{XP:(Str->Bd)->Heap->Prop}(hlaw:∀ns:C8,ns.length<=63->Xf [.list (ns.map int)]=O (.bool C5)):PySem.W.WalkO q0 [] XP YP (PySem.Challenge.rw_wishdeal_k29_partings).row.toRowW d_at [] (λf vs=>PySem.call f vs):=
 Eg (n:=63) (k:=9) (x:= "_law_script") C3 (by decide) C3 ⟨rfl,by decide,by decide,rfl⟩ (λ_ _ _ _ _ _ G hm=>Lw G hm) hlaw
theorem VR{f:M D}{ρ ρ1:UA}{d:D}{t:Bool}(h:f ρ=.ok d ρ1)(ht:(!isNon d)=t):UL (λd=>!isNon d) f ρ=.ok t ρ1:=by subst ht;exact K4 (k:=λd=>!isNon d) h
theorem OO{sizes found:C8}{z d:Int}(h:∀(j:Nat) d z,found[j]?=O d->sizes[j]?=O z->0<=d/\d<z)(hz:sizes[found.length]?=O z)(h0:0<=d/\d<z) :
  ∀(j:Nat) d' z',(found++[d])[j]?=O d'->sizes[j]?=O z'->0<=d'/\d'<z':=by
 intro j d' z' e1 e2;by_cases hj:j<found.length
 .rw[Qn hj]at e1
  exact h j d' z' e1 e2
 .by_cases hj2:j=found.length
  .subst hj2
   rw[hz]at e2;cases e2;rw[Qs (Qo _),Nat.sub_self,List.getElem?_cons_zero]at e1;cases e1;exact h0
  .rw[Jd (by rw[Qk,Q4];lia)]at e1
   cases e1
noncomputable abbrev pb(d:D):Option Sl:=O (.pub d)
def inv(c s:Int)(sizes:C8)(n:Int)(i:Nat)(ρ:UA):Prop:=∃left found x6 x7,ρ=[O (Sl.pub (.int c)),pb (.int s),pb (.list (sizes.map .int)),pb (.int n),pb (.int left),O (.own ((found:C8).map .int)),x6,x7] /\
 found.length=i/\∀(j:Nat) d z,found[j]?=O d->sizes[j]?=O z->0<=d/\d<z
theorem Ey{c s n:Int}{sizes:C8}(hs:∀x∈sizes,0<x/\x<18446744073709551616)(hl:sizes.length<=1000){i:Nat}{d:D}{ρ:UA}{Q:Out->Prop}(hi:(KS 0 sizes.length)[i]?=O d)(h:inv c s sizes n i ρ) :
  ∃ρ2,gN 6 d ρ=O ρ2/\Ho Sm ρ2 (XJ (inv c s sizes n (i+1)) Q):=by
 obtain⟨left,found,x6,x7,rfl,hf,hfd⟩:=h;obtain⟨rfl,hlt⟩:=WU hi;obtain⟨z,hz⟩:∃z,sizes[i]?=O z:=⟨sizes[i]'(by lia),Qb _⟩
 obtain⟨z1,z2⟩:=hs z (Qt hz);have hix:oIx (.list (sizes.map int)) (.int (0+(i:Int)))=O (.int z):=by rw[Int.zero_add];exact Kv (by rw[Qj,hz];rfl)
 generalize hk:(0:Int)+(i:Int)=k at hix⊢;have hk1:k<18446744073709551616:=by lia
 have hk2 : -18446744073709551616<k:=by lia
 have hlen:(found.map int).length<1000000:=by rw[Qd];lia
 have pw:Yv (.int 10) (.int 18)=O (.int 1000000000000000000):=by rw[GF (by decide)];rfl
 refine⟨_,UV (Qa C3) C3,?_⟩;unfold Sm;apply Ko
 case h1=>exact T7 (K8 C3 (UU UK UK pw) C3) λ_=>K8 C3 UK C3
 case h2=>intro _;refine U1 (Xv C3 (UU (UC C3) (Kl C3 (UC C3) hix) (X6 (by lia))) C3 hlen C3) ?_;refine ZX (KQ (UU (UC C3) (Kl C3 (UC C3) hix) (Pu (by lia) (by lia))) (Qa C3) C3) (Zu ?_);exact⟨_,found++[left % z],_,_,by rw[QK];rfl,by rw[Qk,hf];rfl,OO hfd (by rw[hf];exact hz) ⟨Int.emod_nonneg _ (by lia),Int.emod_lt_of_pos _ z1⟩⟩
 case h3=>intro _;refine U1 (KQ (UU (UU (UU (UU (UC C3) (UU UK (UC C3) (Tk (by decide) (by decide))) ZJ) (UU (UU UK (UC C3) (Tk (by decide) (by decide))) (UC C3) (Tj hk2 hk1)) ZJ) (UC C3) ZJ) UK (X6 (by decide))) (Qa C3) C3) ?_;refine U1 (KQ (UU (UU (UC C3) UK (Tj (by decide) (by decide))) UK (X6 (by decide))) (Qa C3) C3) ?_;refine U1 (KQ (UU (UU (UU (UU (UC C3) (UC C3) (Tj (by lia) (by lia))) UK (X6 (by decide))) UK (Tj (by decide) (by decide))) UK (X6 (by decide))) (Qa C3) C3) ?_;refine ZX (Xv C3 (UU (UU (UC C3) UK (Pu (by decide) (by decide))) (Kl C3 (UC C3) hix) (X6 (by lia))) C3 hlen C3) (Zu ?_);exact⟨_,found++[_ % z],_,_,by rw[QK];rfl,by rw[Qk,hf];rfl,OO hfd (by rw[hf];exact hz) ⟨Int.emod_nonneg _ (by lia),Int.emod_lt_of_pos _ z1⟩⟩
theorem TL(c s:Int){sizes:C8}(hs:∀x∈sizes,0<x/\x<18446744073709551616)(hl:sizes.length<=1000) :
  ∃r,Zk [.int c,.int s,.list (sizes.map int)]=O r/\∃ds:C8,r=.list (ds.map .int)/\ds.length=sizes.length/\∀(j:Nat) d z,ds[j]?=O d->sizes[j]?=O z->0<=d/\d<z:=by
 refine Vj (ρ:=[pb (.int c),pb (.int s),pb (.list (sizes.map int)),C4,C4,C4,C4,C4]) C3 ?_;unfold Wm;refine U1 (KQ (ZT (UH (UC C3) (UH (UU (V2 UK) (UC C3) Tc) UO)) GE) (Qa C3) C3) ?_;refine U1 (KQ (UC C3) (Qa C3) C3) ?_;refine U1 (Zc (Y1 UO (Qa C3)) (Qa C3) C3) ?_;apply KD;apply Yj (ds:=KS 0 sizes.length) (inv c s sizes (if -1-c > c then -1-c else c))
 case h1=>exact WS (UH (K9 C3 (by rw[ZH,Qd])) UO) (WO (by lia) (by lia))
 case h0=>exact⟨_,[],C4,C4,rfl,rfl,λj d z e=>by cases e⟩
 case hst=>exact λi d ρ e h=>Ey hs hl e h
 case hend=>rintro ρ ⟨left,found,x6,x7,rfl,hf,hfd⟩;rw[Y2]at hf;exact KG (Kx (Yo rfl rfl) ⟨_,rfl,found,rfl,by lia,hfd⟩)
mutual
theorem SK:∀(d:PyData),d.canLay0=C5->Us d d=C5
 |.none,_=>rfl
 |.bool b,_=>by cases b<;>rfl
 |.int i,_=>by simp[Us]
 |.str s,_=>by simp[Us]
 |.list xs,h=>eqvAll_refl xs h
 |.tuple xs,h=>eqvAll_refl xs h
 |.dict _,h=>by cases h
theorem eqvAll_refl:∀(xs:List PyData),Uq xs=C5->PyData.eqvAll xs xs=C5
 |[],_=>rfl
 |x::r,h=>by
  have h:(PyData.canLay0 x&&Uq r)=C5:=h;rw[QQ]at h
  show(Us x x&&PyData.eqvAll r r)=C5
  rw[SK x h.1,eqvAll_refl r h.2];rfl
end
theorem XB:∀{xs:C7},(∀x∈xs,PyData.canLay0 x=C5)->Uq xs=C5
 |[],_=>rfl
 |x::r,h=>by
  show(PyData.canLay0 x&&Uq r)=C5
  rw[h x Qh,XB λy hy=>h y (Qm _ hy)];rfl
theorem XA{n:Nat}:∀{xs:C7},(∀x∈xs,Ur x<=n)->PyData.depthAll xs<=n
 |[],_=>by simp[PyData.depthAll]
 |x::r,h=>by
  have h1:=h x Qh;have h2:=XA (n:=n) λy hy=>h y (Qm _ hy);simp only[PyData.depthAll]
  lia
noncomputable def Ks(r:C8):D:=.list (r.map int)
noncomputable def Kj(rs:List C8):D:=.list (rs.map Ks)
noncomputable def Ky(cs:C8)(ls:L3):D:=.tuple [.list (cs.map int),.list (ls.map Kj)]
structure X7(n:Nat)(rs:List C8):Prop where
 few:rs.length<=5
 some:∀r∈rs,r≠[]
 there:∀r∈rs,∀t∈r,0<=t/\t<n
 once:rs.flatten.Nodup
structure Good(cs:C8)(ls:L3):Prop where
 c1:1<=cs.length
 c6:cs.length<=6
 c7:∀c∈cs,0<=c/\c<8
 l1:1<=ls.length
 l7:ls.length<=7
 rk:∀rs∈ls,X7 cs.length rs
theorem Ew(r:C8):(Ks r).canLay0=C5:=XB λx hx=>by obtain⟨y,_,rfl⟩:=Qx.mp hx;rfl
theorem L5(i:Int):(int i).depth<=1:=by simp[Ur]
theorem Vp{n:Nat}{xs:C7}(h:PyData.depthAll xs<=n):(Ul xs).depth<=n+1:=by simp only[Ur];lia
theorem Ev(r:C8):(Ks r).depth<=2:=Vp (XA λx hx=>by obtain⟨y,_,rfl⟩:=Qx.mp hx;exact L5 y)
theorem EW(i:Int):Xm [.int i]=O (.bool C5):=by refine Yi (ρ:=[pb (.int i)]) C3 ?_;unfold Wv;exact Kx (Ss (K4 (UC C3)) (λ_=>GH (K4 (UC C3)))) C3
theorem OJ{i m:Int}(h0:0<=i)(h1:i<m):ZR [.int i,.int m]=O (.bool C5):=by
 refine Yi (ρ:=[pb (.int i),pb (.int m)]) C3 ?_;unfold Wu;have hb:(decide (0<=i)&&decide (i<m))=C5:=by simp[h0,h1]
 refine Kx (Ss (t:=C5) (u:=C5) (Kn (UH (UC C3) UO) C3 (EW i)) (λ_=>?_)) C3;rw[←hb];exact K4 (SQ UK (UC C3) C3 (λ_=>UC C3) (λ_=>rfl))
theorem OI{α:Type}(l:List α):ZL [.list (l.map λ_=>.bool C5)]=O (.bool C5):=by
 have:(l.map λ_=>Um C5)=(l.map λ_=>C5).map Um:=by rw[Q7];rfl
 rw[this,GB]
 congr 2
 rw[J5];induction l with
 |nil=>rfl
 |cons x r ih=>simpa using ih
theorem Cf{r:C8}{n:Int}(hne:r≠[])(hl:r.length<=1000)(h:∀t∈r,0<=t/\t<n):YE [Ks r,.int n]=O (.bool C5):=by
 refine Yi (ρ:=[pb (Ks r),pb (.int n)]) C3 ?_;unfold Ws;apply KD;have hlen:Ka [Ks r]=O (.int r.length):=by unfold Ks;rw[ZH,Qd]
 have hp:0<r.length:=JV.mpr hne;apply Ko
 case h1=>exact K1 (ρ1:=[pb (Ks r),pb (.int n)]) (ZU (UC C3) C3) (UU (K9 C3 hlen) UK Tb)
 case h2=>
       intro hh;have:(r.length:Int)=0:=by simpa using hh
       lia
 case h3=>
  intro _;refine KL (KG ?_)
  have hc:Kz (gN 2) (UE C5) (UQ 2 ZR (UG (Uz 2) (UG (Uz 1) (UB)))) (r.map int) (U0 [pb (Ks r),pb (.int n)]++Uk 1 C4) []=O (r.map λ_=>.bool C5):=by
   rw[YM (λ_=>C5) (λ_=>.bool C5) (λρ=>∃x,ρ=[pb (Ks r),pb (.int n),x])]
   .rw[List.filter_eq_self.mpr (λ_ _=>rfl),Jb,Q7];rfl
   .rintro d hm ρ ⟨x,rfl⟩
    obtain⟨t,ht,rfl⟩:=Qx.mp hm;exact⟨_,UV (Qa C3) C3,rfl,λ_=>Kn (UH (UC C3) (UH (UC C3) UO)) C3 (OJ (h t ht).1 (h t ht).2),_,rfl⟩
   .exact⟨C4,rfl⟩
   .rw[Qd,Q6];lia
  exact Kx (ZT (UH (K4 (Y0 (Z2 (UC C3) C3) hc)) UO) (OI r)) C3
theorem OH{a b c x3:Option Sl}(ha:YF a=a)(hb:YF b=b)(hc:YF c=c)(hx:YF x3=x3):∀(ds es:C7)(x4:Option Sl),es.length+ds.length<=1000000 ->
  ∃y,YU (gN 4) (UE C5) (Uz 4) ds [a,b,c,x3,x4] es=O (es++ds,[a,b,c,x3,y])
 |[],es,x4,_=>⟨x4,by rw[YU,QS]⟩
 |d::r,es,x4,h=>by
  rw[Qz]at h;obtain⟨y,e⟩:=OH ha hb hc hx r (es++[d]) (O (.pub d)) (by rw[Qk,Q4];lia);refine⟨y,?_⟩;rw[YU];have h1:gN 4 d [a,b,c,x3,x4]=O [a,b,c,x3,pb d]:=UV (Qa C3) C3;rw[h1];dsimp only[UE];rw[Qq C3];have h2:Uz 4 [a,b,c,x3,pb d]=.ok d [a,b,c,x3,pb d]:=UC C3;rw[h2];dsimp only;rw[Qq (by lia)];have h3:U0 [a,b,c,x3,pb d]=[a,b,c,x3,pb d]:=by unfold U0;simp only[QC,J4,ha,hb,hc,hx];rfl
  rw[h3,e,QY];rfl
theorem O8{a b:D}:∀(rs:List C8)(es:C7)(x3 x4:Option Sl),es.length+rs.flatten.length<=1000000 ->
  Yq (gN 3) (UE C5) (K2 (Uz 3)) (gN 4) (UE C5) (Uz 4) (rs.map Ks) [pb a,pb b,C4,x3,x4] es=O (es++rs.flatten.map int)
 |[],es,_,_,_=>by rw[List.map_nil,Yq];simp
 |r::rs,es,x3,x4,h=>by rw[QN,Qk]at h;rw[QC,Yq];have h1:gN 3 (Ks r) [pb a,pb b,C4,x3,x4]=O [pb a,pb b,C4,pb (Ks r),x4]:=UV (Qa C3) C3;rw[h1];dsimp only[UE];rw[Qq C3];have h2:K2 (Uz 3) [pb a,pb b,C4,pb (Ks r),x4]=.ok (r.map int) [pb a,pb b,C4,pb (Ks r),x4]:=Z2 (UC C3) C3;rw[h2];dsimp only;have h3:U0 [pb a,pb b,C4,pb (Ks r),x4]=[pb a,pb b,C4,pb (Ks r),YF x4]:=rfl;rw[h3];obtain⟨y,e⟩:=OH (a:=O (.pub a)) (b:=O (.pub b)) (c:=C4) (x3:=O (.pub (Ks r))) C3 C3 C3 C3 (r.map int) es (YF x4) (by rw[Qd];lia);rw[e];dsimp only;have ih:=O8 (a:=a) (b:=b) rs (es++r.map int) (O (.pub (Ks r))) y (by rw[Qk,Qd];lia);refine Eq.trans ih ?_;rw[QN,QK,QY]
theorem Ce{ns:C8}(h:ns.Nodup):XU ns=ns.length:=by
 unfold XU
 have:∀i,i<=ns.length->(PyProof.Rows.firstMet (λi=>ns.getD i 0) i).length=i:=by
  intro i;induction i with
  |zero=>intro _;rfl
  |succ i ih=>
   intro hi;rw[PyProof.Rows.firstMet_succ]
   have hany:(PyProof.Rows.firstMet (λi=>ns.getD i 0) i).any (· == ns.getD i 0)=C6:=by
    rw[PyProof.Rows.firstMet_any,List.any_eq_false];intro x hx;obtain⟨j,hj,rfl⟩:=Qx.mp hx;have hj:=QX.mp hj;intro e;have e:ns.getD j 0=ns.getD i 0:=by simpa using e
    have l1:j<ns.length:=by lia
    have l2:i<ns.length:=by lia
    simp only[List.getD,Qb l1,Qb l2,JR]at e;exact absurd ((List.getElem_inj h).mp e) (by lia)
   unfold PyProof.Rows.step_dedup;rw[hany];rw[QE (by decide),Qk,ih (by lia)];rfl
 exact this ns.length (Qo _)
theorem Ct{rs:List C8}{n:Nat}(g:X7 n rs)(hn:n<=6)(hf:rs.flatten.length<=1000):Xk [Kj rs,.int n]=O (.bool C5):=by
 refine Yi (ρ:=[pb (Kj rs),pb (.int n),C4]) C3 ?_;unfold Wr;have hlen:Ka [Kj rs]=O (.int rs.length):=by unfold Kj;rw[ZH,Qd]
 have h5:=g.few;have hrl:∀r∈rs,r.length<=1000:=λr hr=>Qy (List.Sublist.length_le (List.sublist_flatten_of_mem hr)) hf;apply KD;apply Ko
 case h1=>exact K1 (ρ1:=[pb (Kj rs),pb (.int n),C4]) (ZU (UC C3) C3) (UU (K9 C3 hlen) UK C3)
 case h2=>
       intro hh;have:(5:Int)<(rs.length:Int):=by simpa using hh
       lia
 case h3=>
  intro _;refine KL (KG ?_)
  have hc:Kz (gN 3) (UE C5) (UQ 2 YE (UG (Uz 3) (UG (Uz 1) (UB)))) (rs.map Ks) (U0 [pb (Kj rs),pb (.int n),C4]++Uk 1 C4) []=O (rs.map λ_=>.bool C5):=by
   rw[YM (λ_=>C5) (λ_=>.bool C5) (λρ=>∃x,ρ=[pb (Kj rs),pb (.int n),C4,x])]
   .rw[List.filter_eq_self.mpr (λ_ _=>rfl),Jb,Q7];rfl
   .rintro d hm ρ ⟨x,rfl⟩
    obtain⟨r,hr,rfl⟩:=Qx.mp hm;exact⟨_,UV (Qa C3) C3,rfl,λ_=>Kn (UH (UC C3) (UH (UC C3) UO)) C3 (Cf (g.some r hr) (hrl r hr) (g.there r hr)),_,rfl⟩
   .exact⟨C4,rfl⟩
   .rw[Qd,Q6];lia
  apply KD;apply Ko
  case h1=>exact Z0 (Yp (ZT (UH (K4 (Y0 (Z2 (UC C3) C3) hc)) UO) (OI rs)))
  case h2=>intro hh;cases hh
  case h3=>
   intro _;refine KL (KG ?_);have h2:Vl (K2 (Uz 0)) 2 (gN 3) (UE C5) (K2 (Uz 3)) (gN 4) (UE C5) (Uz 4) [pb (Kj rs),pb (.int n),C4]=.ok (rs.flatten.map int) [pb (Kj rs),pb (.int n),C4]:=by unfold Vl;have e1:K2 (Uz 0) [pb (Kj rs),pb (.int n),C4]=.ok (rs.map Ks) [pb (Kj rs),pb (.int n),C4]:=Z2 (UC C3) C3;rw[e1];dsimp only;have e2:=O8 (a:=Kj rs) (b:=.int n) rs [] C4 C4 (by rw[Q6];lia);have e3:Yq (gN 3) (UE C5) (K2 (Uz 3)) (gN 4) (UE C5) (Uz 4) (rs.map Ks) (U0 [pb (Kj rs),pb (.int n),C4]++Uk 2 C4) []=O ([]++rs.flatten.map int):=e2;rw[e3];rfl
   refine U1 (Zc h2 (Qa C3) C3) ?_;have hls:WT [.list (rs.flatten.map int)]=O (.int rs.flatten.length):=by unfold WT;dsimp only;rw[OT];dsimp only;rw[Qq (by lia),Ce g.once]
   refine Kx (K4 (UU (ZT (UH (Yo C3 C3) UO) hls) (K9 C3 ZH) Tb)) ?_;rw[Qd];simp
theorem Vx{d:D}:∀{xs:C7}{k i:Nat},(ZF k xs)[i]?=O d->∃x,xs[i]?=O x/\d=.tuple [.int ((k+i:Nat):Int),x]
 |[],k,i,h=>by cases h
 |x::r,k,0,h=>by cases h;exact⟨x,rfl,rfl⟩
 |x::r,k,i+1,h=>by obtain⟨y,e,q⟩:=Vx (xs:=r) (k:=k+1) (i:=i) h;exact⟨y,e,by rw[q];congr 4;lia⟩
theorem SJ:∀(n:Nat)(l:C8),l.Nodup->(∀x∈l,0<=x/\x<n)->l.length<=n
 |0,[],_,_=>Qo _
 |0,x::r,_,h=>by have:=h x Qh;lia
 |n+1,l,hn,h=>by
  by_cases hm:(n:Int)∈l
  .have:=SJ n (l.erase (n:Int)) (hn.erase _) λx hx=>by
    have h1:=(List.Nodup.mem_erase_iff hn).mp hx;have h2:=h x h1.2;have h3:=h1.1
    lia
   rw[List.length_erase_of_mem hm]at this
   lia
  .have:=SJ n l hn λx hx=>by
    have h2:=h x hx;have h3:x≠(n:Int):=λe=>hm (e ▸ hx)
    lia
   lia
theorem Te{n:Nat}{rs:List C8}(g:X7 n rs):rs.flatten.length<=n:=SJ n _ g.once λx hx=>by obtain⟨r,hr,hxr⟩:=JS.mp hx;exact g.there r hr x hxr
theorem EV{cs:C8}(h1:1<=cs.length)(h6:cs.length<=6)(h:∀c∈cs,0<=c/\c<8):Xl [.list (cs.map int)]=O .none:=by
 refine Sa (ρ:=[pb (.list (cs.map int)),C4,C4]) C3 ?_;unfold Wt;have hlen:Ka [.list (cs.map int)]=O (.int cs.length):=by rw[ZH,Qd]
 apply KD;apply Ko
 case h1=>exact K1 (ρ1:=[pb (.list (cs.map int)),C4,C4]) (ZU (UC C3) C3) (Z0 (SQ UK (K9 C3 hlen) C3 (λ_=>UK) (λ_=>rfl)))
 case h2=>
  intro hh;have a1:(1:Int)<=(cs.length:Int):=by lia
  have a2:(cs.length:Int)<=6:=by lia
  simp[a1,a2]at hh
 case h3=>
  intro _;refine KL (KG ?_);apply Yj (λ_ ρ=>∃x1 x2,ρ=[pb (.list (cs.map int)),x1,x2])
  case h1=>exact V6 (UH (UC C3) UO) Th
  case h0=>exact⟨_,_,rfl⟩
  case hst=>
   rintro i d ρ hi ⟨x1,x2,rfl⟩;obtain⟨x,hx,rfl⟩:=Vx hi;obtain⟨c,hc,rfl⟩:=Qx.mp (Qt hx);refine⟨_,Zv C3 (Kp (UV (Qa C3) C3) (Kp (UV (Qa C3) C3) Zw)),?_⟩;unfold RZ;apply Ko
   case h1=>exact Z0 (Yp (Kn (UH (UC C3) (UH (UU UK UK ZJ) UO)) C3 (OJ (h c hc).1 (by have:=(h c hc).2;lia))))
   case h2=>intro hh;cases hh
   case h3=>exact λ_=>KL (Zu ⟨_,_,rfl⟩)
  case hend=>exact λρ ⟨x1,x2,e⟩=>⟨_,rfl⟩
theorem Eu{ls:L3}{n:Nat}(hn:n<=6)(h1:1<=ls.length)(h7:ls.length<=7)(h:∀rs∈ls,X7 n rs):Xj [.list (ls.map Kj),.int n]=O .none:=by
 refine Sa (ρ:=[pb (.list (ls.map Kj)),pb (.int n),C4,C4]) C3 ?_;unfold Wq;have hlen:Ka [.list (ls.map Kj)]=O (.int ls.length):=by rw[ZH,Qd]
 apply KD;apply Ko
 case h1=>exact K1 (ρ1:=[pb (.list (ls.map Kj)),pb (.int n),C4,C4]) (ZU (UC C3) C3) (Z0 (SQ UK (K9 C3 hlen) C3 (λ_=>UK) (λ_=>rfl)))
 case h2=>
  intro hh;have a1:(1:Int)<=(ls.length:Int):=by lia
  have a2:(ls.length:Int)<=7:=by lia
  simp[a1,a2]at hh
 case h3=>
  intro _;refine KL (KG ?_);apply Yj (λ_ ρ=>∃x2 x3,ρ=[pb (.list (ls.map Kj)),pb (.int n),x2,x3])
  case h1=>exact V6 (UH (UC C3) UO) Th
  case h0=>exact⟨_,_,rfl⟩
  case hst=>
   rintro i d ρ hi ⟨x1,x2,rfl⟩;obtain⟨x,hx,rfl⟩:=Vx hi;obtain⟨rs,hrs,rfl⟩:=Qx.mp (Qt hx);refine⟨_,Zv C3 (Kp (UV (Qa C3) C3) (Kp (UV (Qa C3) C3) Zw)),?_⟩;unfold R3;have hfl:=Te (h rs hrs);apply Ko
   case h1=>exact Z0 (Yp (Kn (UH (UC C3) (UH (UC C3) UO)) C3 (Ct (h rs hrs) hn (by lia))))
   case h2=>intro hh;cases hh
   case h3=>exact λ_=>KL (Zu ⟨_,_,rfl⟩)
  case hend=>exact λρ ⟨x1,x2,e⟩=>⟨_,rfl⟩
theorem EU{cs:C8}{ls:L3}(g:Good cs ls):Xi [Ky cs ls]=O .none:=by
 refine Sa (ρ:=[pb (Ky cs ls),C4,C4]) C3 ?_;unfold Wp;apply KD;apply Ko
 case h1=>exact K1 (ρ1:=[pb (Ky cs ls),C4,C4]) (ZU (UC C3) C3) (UU (K9 C3 C3) UK WR)
 case h2=>intro hh;cases hh
 case h3=>
  intro _;refine KL (KG ?_);have hlen:Ka [.list (cs.map int)]=O (.int (cs.length:Nat)):=by rw[ZH,Qd]
  refine U1 (RJ (UC C3) (Zv C3 (Kp (UV (Qa C3) C3) (Kp (UV (Qa C3) C3) Zw)))) ?_;refine U1 (Sr (Kn (UH (UC C3) UO) C3 (EV g.c1 g.c6 g.c7))) ?_;exact ZX (Sr (Kn (UH (UC C3) (UH (K9 C3 hlen) UO)) C3 (Eu g.c6 g.l1 g.l7 g.rk))) ⟨_,rfl⟩
theorem PU:∀(xs ys:C8),PyData.eqvAll (xs.map int) (ys.map int)=decide (xs=ys)
 |[],[]=>rfl
 |[],y::ys=>by simp[PyData.eqvAll]
 |x::xs,[]=>by simp[PyData.eqvAll]
 |x::xs,y::ys=>by
  have ih:=PU xs ys
  show(Us (.int x) (.int y)&&PyData.eqvAll (xs.map int) (ys.map int))=_
  rw[ih];have:Us (.int x) (.int y)=decide (x=y):=rfl;rw[this,JX];simp
theorem ET{xs:C8}:oNe (.list (xs.map int)) (.list [])=O (!decide (xs=[])):=by
 unfold oNe;have h1:(Ul (xs.map int)).canLay0=C5:=Ew xs;have h3:(Ul (xs.map int)).depth<=60:=by have:=Ev xs;unfold Ks at this;lia
 rw[Qq ⟨h1,rfl,h3⟩]
 congr 2
 exact PU xs []
theorem Pl{xs:C7}{x:D}(h:xs.getLast?=O x):oIx (.list xs) (.int (-1))=O x:=by
 unfold oIx atI;have hl:xs≠[]:=by rintro rfl;cases h
 have hp:0<xs.length:=JV.mpr hl;rw[JC]at h
 show(ixN xs.length (-1)).bind _=_
 unfold ixN;rw[QE (by decide),Qq (by lia)];have e2:(-1+(xs.length:Int)).toNat=xs.length-1:=by lia
 simp only[Option.bind_some];rw[e2];exact h
theorem Sh{xs:C8}{k:Nat}(h:k<xs.length):oIx (.list (xs.map int)) (.int k)=O (.int (xs.getD k 0)):=by refine Kv ?_;rw[Qj,Qb h];simp[List.getD,List.getElem?_eq_getElem h]
theorem TK(ns:C8)(k:Nat)(hl:ns.length<=1000):∃v,Zl [.list (ns.map int),.int k]=O (.int v):=by
 have hlen:Ka [.list (ns.map int)]=O (.int ns.length):=by rw[ZH,Qd]
 by_cases h:k<ns.length
 .refine⟨ns.getD k 0,Yi (ρ:=[pb (.list (ns.map int)),pb (.int k)]) C3 ?_⟩
  unfold Y9;apply KD;apply Ko
  case h1=>exact K8 C3 (K9 C3 hlen) C3
  case h2=>exact λ_=>Kx (Kl C3 (UC C3) (Sh h)) (KN C3)
  case h3=>
        intro hh;have:¬(k:Int)<(ns.length:Int):=by simpa using hh
        lia
 .refine⟨0,Yi (ρ:=[pb (.list (ns.map int)),pb (.int k)]) C3 ?_⟩
  unfold Y9;apply KD;apply Ko
  case h1=>exact K8 C3 (K9 C3 hlen) C3
  case h2=>
        intro hh;have:(k:Int)<(ns.length:Int):=by simpa using hh
        lia
  case h3=>exact λ_=>KL (KG (Kx UK C3))
noncomputable def tab:C8:=[1,1,2,0,3,7,1,4,5,6,1]
theorem RF{z:Int}(h0:0<=z)(h1:z<11):oIx (.list (tab.map int)) (.int z)=O (.int (tab.getD z.toNat 0))/\0<=tab.getD z.toNat 0/\tab.getD z.toNat 0<8:=by
 have e:z=0∨z=1∨z=2∨z=3∨z=4∨z=5∨z=6∨z=7∨z=8∨z=9∨z=10:=by lia
 rcases e with rfl|rfl|rfl|rfl|rfl|rfl|rfl|rfl|rfl|rfl|rfl<;>exact⟨rfl,by decide,by decide⟩
structure XZ(n:Nat)(pl:C8)(j:Nat)(rs:List C8):Prop where
 few:rs.length<=j
 some:∀r∈rs,r≠[]
 there:∀r∈rs,∀t∈r,(0<=t/\t<n)/\pl.getD t.toNat 0<1+(j:Int)
 once:rs.flatten.Nodup
noncomputable def Xq(n:Nat)(pl:C8)(r:Int):C8:=((Uj n).filter λk=>decide (pl.getD k 0=r)).map λk:Nat=>(k:Int)
theorem Cs(n:Nat)(pl:C8)(r:Int):(Xq n pl r).Nodup:=by unfold Xq;refine List.Pairwise.map _ (λa b h e=>h (by lia)) ((List.nodup_range).filter _)
theorem OG{n:Nat}{pl:C8}{r t:Int}(h:t∈Xq n pl r):(0<=t/\t<n)/\pl.getD t.toNat 0=r:=by
 unfold Xq at h;obtain⟨k,hk,rfl⟩:=Qx.mp h;have hk:=Jk.mp hk;have h1:=QX.mp hk.1;have h2:pl.getD k 0=r:=by simpa using hk.2
 exact⟨⟨by lia,by lia⟩,by rw[Jf];exact h2⟩
theorem XZ.add{n:Nat}{pl:C8}{j:Nat}{rs:List C8}{row:C8}(g:XZ n pl j rs)(hne:row≠[])(hm:∀t∈row,t∈Xq n pl (1+(j:Int)))(hn:row.Nodup):XZ n pl (j+1) (rs++[row]) where
 few:=by rw[Qk,Q4];have:=g.few;lia
 some:=λr hr=>by
  rcases QF.mp hr with z|z
  .exact g.some r z
  .rw[Qw.mp z];exact hne
 there:=λr hr t ht=>by
  rcases QF.mp hr with z|z
  .have:=g.there r z t ht;exact⟨this.1,by lia⟩
  .rw[Qw.mp z]at ht
   have:=OG (hm t ht);exact⟨this.1,by lia⟩
 once:=by
  rw[JF,List.flatten_singleton];refine Q1.mpr ⟨g.once,hn,λa ha b hb e=>?_⟩;subst e;obtain⟨r,hr,har⟩:=JS.mp ha;have h1:=(g.there r hr a har).2;have h2:=(OG (hm a hb)).2
  lia
theorem XZ.next{n:Nat}{pl:C8}{j:Nat}{rs:List C8}(g:XZ n pl j rs):XZ n pl (j+1) rs:=
 ⟨by have:=g.few;lia,g.some,λr hr t ht=>⟨(g.there r hr t ht).1,by have:=(g.there r hr t ht).2;lia⟩,g.once⟩
theorem Pk{x:D}{m:Nat}(h:m<=1000):U8 (.list [x]) (.int m)=O (.list (Uk m x)):=by
 rw[OS ⟨by lia,by lia,by rw[Jf];show 1*m<=_;lia⟩,Jf]
 congr 2
 induction m with
 |zero=>rfl
 |succ m ih=>rw[Ja,QN,ih (by lia)];rfl
noncomputable def szG(T A:Nat):C8:=(T:Int)::(A:Int)::Uk T 11
noncomputable def Zd(T R:Nat):C8:=Uk T ((R:Int)+1)++[2]
theorem Pj{T A:Nat}:(szG T A).length=T+2:=by unfold szG;simp
theorem PR{T R:Nat}:(Zd T R).length=T+1:=by unfold Zd;simp
theorem Lv{T A:Nat}(h1:1<=T)(h2:T<=6)(h3:1<=A)(h4:A<=7):∀x∈szG T A,0<x/\x<18446744073709551616:=λx hx=>by unfold szG at hx;simp only[QM,List.mem_replicate]at hx;rcases hx with rfl|rfl|⟨_,rfl⟩<;>lia
theorem L4{T R:Nat}(h:R<=5):∀x∈Zd T R,0<x/\x<18446744073709551616:=λx hx=>by unfold Zd at hx;simp only[QF,Qw,List.mem_replicate]at hx;rcases hx with ⟨_,rfl⟩|rfl<;>lia
theorem ES{T R:Nat}:(Zd T R)[T]?=O 2:=by unfold Zd;simp
theorem N5{T A k:Nat}(h:k<T):(szG T A)[2+k]?=O 11:=by unfold szG;rw[show 2+k=k+1+1 by lia,JG,JG,QA,Qq h]
def TR(T A R:Nat)(S dz:D)(at_ n:Nat)(cs pl:C8)(ls:L3)(x9 BH:Option Sl)(j:Nat)(ρ:UA):Prop:=∃(rs:List C8)(B8 BG:Option Sl),
 ρ=[pb S,pb (.int at_),pb (.int (T:Nat)),pb (.int (A:Nat)),pb (.int (R:Nat)),pb dz,O (.own (cs.map int)),O (.own (ls.map Kj)),x9,BH,pb (.list (pl.map int)),O (.own (rs.map Ks)),B8,BG]/\XZ n pl j rs
theorem Cd{T A R:Nat}{S dz:D}{at_ n:Nat}{cs pl:C8}{ls:L3}{v9 v10:D}{j:Nat}{d:D}{ρ:UA}{Q:Out->Prop}(hcs:cs.length=n)(hT:T<=6)(hR:R<=5)(hn:n<=T)(hpl:pl.length=T+1)(Bo:pl.getD T 0=0∨pl.getD T 0=1)
  (hj:(KS 1 ((R:Int)+1))[j]?=O d) (h:TR T A R S dz at_ n cs pl ls (O (.pub v9)) (O (.pub v10)) j ρ) :
  ∃ρ2,gN 12 d ρ=O ρ2/\Ho Sj ρ2 (XJ (TR T A R S dz at_ n cs pl ls (O (.pub v9)) (O (.pub v10)) (j+1)) Q):=by
 obtain⟨rs,B8,BG,rfl,g⟩:=h;obtain⟨rfl,hlt⟩:=WU hj;have hj5:j<R:=by lia
 refine⟨_,UV (Qa C3) C3,?_⟩;unfold Sj
 have hrd:KS 0 ((n:Nat):Int)=(Uj n).map λk=>.int (k:Int):=by
  unfold KS;have:((n:Int)-0).toNat=n:=by lia
  rw[this];apply List.map_congr_left;intro k _;rw[Int.zero_add]
 have hc:Kz (gN 14) (UF oEq (UJ 10 (Uz 14)) (Uz 12)) (Uz 14) (KS 0 ((n:Nat):Int)) (U0 [pb S,pb (.int at_),pb (.int (T:Nat)),pb (.int (A:Nat)),pb (.int (R:Nat)),pb dz,O (.own (cs.map int)),O (.own (ls.map Kj)),pb v9,pb v10,pb (.list (pl.map int)),O (.own (rs.map Ks)),pb (.int (1+(j:Int))),BG]++Uk 1 C4) []=O ((Xq n pl (1+(j:Int))).map int):=by
  rw[hrd,YM (λd=>match d with | .int k=>decide (pl.getD k.toNat 0=1+(j:Int))|_=>C6) (λd=>d) (λρ=>∃x,ρ=[pb S,pb (.int at_),pb (.int (T:Nat)),pb (.int (A:Nat)),pb (.int (R:Nat)),pb dz,C4,C4,pb v9,pb v10,pb (.list (pl.map int)),C4,pb (.int (1+(j:Int))),YF BG,x])]
  .rw[Jb,J6,JD]
   unfold Xq;rw[Q7];rfl
  .rintro d hm ρ ⟨x,rfl⟩
   obtain⟨k,hk,rfl⟩:=Qx.mp hm;have hk:=QX.mp hk;refine⟨_,UV (Qa C3) C3,UU (Kl C3 (UC C3) (Sh (by lia))) (UC C3) Tb,λ_=>UC C3,pb (.int k),?_⟩;unfold U0;cases BG with
   |none=>rfl
   |some sl=>cases sl<;>rfl
  .exact⟨C4,rfl⟩
  .rw[Qd,QW,Q6];lia
 have hlen:(cs.map int).length=n:=by rw[Qd,hcs]
 refine U1 (Zc (Y0 (WS (UH (HD C3) UO) (by rw[hlen];exact WO (by lia) (by lia))) hc) (Qa C3) C3) ?_;generalize Am:Xq n pl (1+(j:Int))=row;apply Ko
 case h1=>exact FG C3 (ZS UO (by decide)) C3 ET
 case h2=>
  intro hh;have hne:row≠[]:=by simpa using hh
  have hlx:oIx (.list (pl.map int)) (.int (-1))=O (.int (pl.getD T 0)):=Pl (by rw[JC,Qd,hpl,Qj,Nat.add_sub_cancel,Qb (show T<pl.length by lia)];simp[List.getD,List.getElem?_eq_getElem (show T<pl.length by lia)])
  obtain⟨Bw,hix,By⟩:∃Bw:C8,oIx (.list [.list (row.map int),.list (row.map int).reverse]) (.int (pl.getD T 0))=O (Ks Bw)/\(Bw=row∨Bw=row.reverse):=by
   rcases Bo with e|e
   .rw[e];exact⟨row,rfl,.inl C3⟩
   .rw[e];exact⟨row.reverse,by show O (Ul (row.map int).reverse)=_;unfold Ks;rw[List.map_reverse],.inr C3⟩
  have hrl:(rs.map Ks).length<1000000:=by rw[Qd];have:=g.few;lia
  refine ZX (Xv C3 (UU (ZS (UH (Yo C3 C3) (UH (Lj (UC C3) UK UK (Vs (V2 UK))) UO)) (Qa C3)) (Kl C3 (V2 UK) hlx) hix) C3 hrl C3) ?_;refine Zu ⟨rs++[Bw],pb (.int (1+(j:Int))),pb (.list (row.map int)),by rw[QK];rfl,g.add ?_ ?_ ?_⟩
  .rcases By with e|e<;>rw[e]
   .exact hne
   .exact λz=>hne (List.reverse_eq_nil_iff.mp z)
  .intro t ht
   rw[Am];rcases By with e|e<;>rw[e]at ht
   .exact ht
   .exact List.mem_reverse.mp ht
  .have hnd:=Cs n pl (1+(j:Int))
   rw[Am]at hnd;rcases By with e|e<;>rw[e]
   .exact hnd
   .exact(List.reverse_perm row).nodup_iff.mpr hnd
 case h3=>exact λ_=>KL (Zu ⟨rs,_,_,rfl,g.next⟩)
def TQ(T A R:Nat)(S dz:D)(at_ n:Nat)(cs:C8)(i:Nat)(ρ:UA):Prop:=∃(ls:L3)(x9 BH x11 x12 B8 BG:Option Sl),
 ρ=[pb S,pb (.int at_),pb (.int (T:Nat)),pb (.int (A:Nat)),pb (.int (R:Nat)),pb dz,O (.own (cs.map int)),O (.own (ls.map Kj)),x9,BH,x11,x12,B8,BG]/\ls.length=i/\∀rs∈ls,X7 n rs/\rs.length<=R
theorem Cr{T A R:Nat}{ns:C8}{dz:D}{at_ n:Nat}{cs:C8}{i:Nat}{m:Int}{d:D}{ρ:UA}{Q:Out->Prop}(hns:ns.length<=1000)(hT:T<=6)(hR:R<=5)(hcs:cs.length=n)(hn:n<=T)(hm:m<=100)
  (hi:(KS 0 m)[i]?=O d) (h:TQ T A R (.list (ns.map int)) dz at_ n cs i ρ) :
  ∃ρ2,gN 8 d ρ=O ρ2/\Ho Si ρ2 (XJ (TQ T A R (.list (ns.map int)) dz at_ n cs (i+1)) Q):=by
 obtain⟨ls,x9,BH,x11,x12,B8,BG,rfl,hl,hg⟩:=h;obtain⟨rfl,hlt⟩:=WU hi;refine⟨_,UV (Qa C3) C3,?_⟩;unfold Si;obtain⟨v,hv⟩:=TK ns (at_+1+i) hns;have ev:((at_:Int)+1+(0+(i:Int)))=((at_+1+i:Nat):Int):=by lia
 rw[←ev]at hv;refine U1 (KQ (Kn (UH (UC C3) (UH (UU (UU (UC C3) UK ZJ) (UC C3) ZJ) UO)) C3 hv) (Qa C3) C3) ?_;obtain⟨r,hF,pl,rfl,hpl,hpb⟩:=TL v (11*(at_:Int)+3*(0+(i:Int))+1) (sizes:=Zd T R) (L4 hR) (by rw[PR];lia);have hpl7:pl.length=T+1:=by rw[hpl,PR]
 have hmul:U8 (.list [.int ((R:Int)+1)]) (.int (T:Nat))=O (.list (Uk T (.int ((R:Int)+1)))):=Pk (by lia);have hadd:UX (.list (Uk T (.int ((R:Int)+1)))) (.list [.int 2])=O (.list ((Zd T R).map int)):=by rw[Vy (by rw[QT];show T+1<=_;lia)];unfold Zd;rw[QK,List.map_replicate];rfl
 refine U1 (KQ (Kn (UH (UC C3) (UH (UU (UU (UU UK (UC C3) (Tk (by decide) (by decide))) (UU UK (UC C3) (Tk (by decide) (by decide))) ZJ) UK ZJ) (UH (UU (UU (ZS (UH (UU (UC C3) UK ZJ) UO) (Qa C3)) (UC C3) hmul) (ZS (UH UK UO) (Qa C3)) hadd) UO))) C3 hF) (Qa C3) C3) ?_;refine U1 (Zc (Y1 UO (Qa C3)) (Qa C3) C3) ?_
 have Bo:pl.getD T 0=0∨pl.getD T 0=1:=by
  have e:pl[T]?=O pl[T]:=Qb (by lia);have:=hpb T pl[T] 2 e ES;have e2:pl.getD T 0=pl[T]:=by simp[List.getD,e]
  rw[e2];lia
 apply KD;apply Yj (TR T A R (.list (ns.map int)) dz at_ n cs pl ls (O (.pub (.int (0+(i:Int))))) (O (.pub (.int v))))
 case h1=>exact Pv (UH UK (UH (UU (UC C3) UK ZJ) UO)) (P7 (by lia) (by lia) (by decide) (by decide))
 case h0=>exact⟨[],B8,BG,rfl,⟨Qo _,λ_ h=>(by cases h),λ_ h=>(by cases h),JP⟩⟩
 case hst=>exact λj d ρ e h=>Cd hcs hT hR hn hpl7 Bo e h
 case hend=>
  rintro ρ ⟨rs,y13,y14,rfl,g⟩;refine KG ?_;have hl5:(KS 1 ((R:Int)+1)).length=R:=by rw[Y2];lia
  rw[hl5]at g;have hll:(ls.map Kj).length<1000000:=by rw[Qd];lia
  refine ZX (Xv C3 (Yo C3 C3) C3 hll C3) ?_;refine Zu ⟨ls++[rs],pb (.int (0+(i:Int))),pb (.int v),pb (.list (pl.map int)),pb (.list (rs.map Ks)),y13,y14,by rw[QK];rfl,by rw[Qk,hl];rfl,λx hx=>?_⟩;rcases QF.mp hx with z|z
  .exact hg x z
  .rw[Qw.mp z];exact⟨⟨by have:=g.few;lia,g.some,λr hr t ht=>(g.there r hr t ht).1,g.once⟩,g.few⟩
theorem CF(T A R:Nat){ns:C8}(hns:ns.length<=1000)(at_:Nat)(hT1:1<=T:=by decide)(hT:T<=6:=by decide)(hA1:1<=A:=by decide)(hA:A<=7:=by decide)(hR:R<=5:=by decide):∃r,Xg [.list (ns.map int),.int at_,.int (T:Nat),.int (A:Nat),.int (R:Nat)]=O r/\∃cs ls,r=Ky cs ls/\Good cs ls/\cs.length<=T/\ls.length<=A/\∀rs∈ls,rs.length<=R:=by
 obtain⟨v,hv⟩:=TK ns at_ hns;obtain⟨r,hF,ds,rfl,hl,hd⟩:=TL v at_ (sizes:=szG T A) (Lv hT1 hT hA1 hA) (by rw[Pj];lia);have hl8:ds.length=T+2:=by rw[hl,Pj]
 have at':∀(j:Nat)(k z:Int),k=j->(szG T A)[j]?=O z->∃d,oIx (.list (ds.map int)) (.int k)=O (.int d)/\ds[j]?=O d/\0<=d/\d<z:=λj k z hk hz=>by
  subst hk;have hj:j<ds.length:=by rw[hl];exact(Qg.mp hz).1
  have e:ds[j]?=O ds[j]:=Qb hj;obtain⟨p0,p1⟩:=hd j ds[j] z e hz;exact⟨ds[j],Kv (by rw[Qj,e];rfl),e,p0,p1⟩
 obtain⟨d0,x0,e0,p0,q0⟩:=at' 0 0 T C3 C3;obtain⟨d1,x1,e1,p1,q1⟩:=at' 1 1 A C3 C3;have hmul:U8 (.list [.int 11]) (.int (T:Nat))=O (.list (Uk T (.int 11))):=Pk (by lia);have hadd:UX (.list [.int (T:Nat),.int (A:Nat)]) (.list (Uk T (.int 11)))=O (.list ((szG T A).map int)):=by rw[Vy (by rw[QT];show 2+T<=_;lia)];unfold szG;rw[QC,QC,List.map_replicate];rfl
 obtain⟨n,hn⟩:∃n:Nat,1+d0=n:=⟨(1+d0).toNat,by lia⟩
 refine Vj (ρ:=[pb (.list (ns.map int)),pb (.int at_),pb (.int (T:Nat)),pb (.int (A:Nat)),pb (.int (R:Nat)),C4,C4,C4,C4,C4,C4,C4,C4,C4]) C3 ?_;unfold Wl;refine U1 (KQ (Kn (UH (Kn (UH (UC C3) (UH (UC C3) UO)) C3 hv) (UH (UC C3) (UH (UU (ZS (UH (UC C3) (UH (UC C3) UO)) (Qa C3)) (UU (ZS (UH UK UO) (Qa C3)) (UC C3) hmul) hadd) UO))) C3 hF) (Qa C3) C3) ?_
 have hcut:DL.cutD (ds.map int) (O 2) (O (3+d0))=((ds.drop 2).take n).map int:=by
  rw[En (by decide) (by lia) (by lia)];have:(3+d0).toNat-(2:Int).toNat=n:=by lia
  rw[this];rfl
 have BQ:((ds.drop 2).take n).length=n:=by rw[Jt,List.length_drop,hl8];lia
 have each:∀z∈(ds.drop 2).take n,0<=z/\z<11:=λz hz=>by
  have hz:=List.mem_of_mem_take hz;obtain⟨k,hk,e⟩:=List.getElem_of_mem hz;rw[List.length_drop,hl8]at hk;rw[List.getElem_drop]at e;have e2:ds[2+k]?=O z:=by rw[←e];exact Qb _
  refine hd (2+k) z 11 e2 (N5 ?_)
  lia
 let cs:C8:=((ds.drop 2).take n).map λz=>tab.getD z.toNat 0
 have hcl:cs.length=n:=by show(List.map _ _).length=n;rw[Qd,BQ]
 have hc:∀xs:List (Option Sl),U0 xs=xs->xs.length=14->Kz (gN 14) (UE C5) (UF oIx (Kg (UG (UE (.int 1)) (UG (UE (.int 1)) (UG (UE (.int 2)) (UG (UE (.int 0)) (UG (UE (.int 3)) (UG (UE (.int 7)) (UG (UE (.int 1)) (UG (UE (.int 4)) (UG (UE (.int 5)) (UG (UE (.int 6)) (UG (UE (.int 1)) (UB))))))))))))) (Uz 14)) (((ds.drop 2).take n).map int) (U0 xs++Uk 1 C4) []=O (cs.map int):=by
  intro xs hx hxl;rw[hx,YM (λ_=>C5) (λd=>match d with | .int z=>.int (tab.getD z.toNat 0)|_=>.none) (λρ=>∃x,ρ=xs++[x])]
  .rw[List.filter_eq_self.mpr (λ_ _=>rfl),Jb,Q7]
   show _=O ((((ds.drop 2).take n).map λz=>tab.getD z.toNat 0).map int);rw[Q7];rfl
  .rintro d hm ρ ⟨x,rfl⟩
   obtain⟨z,hz,rfl⟩:=Qx.mp hm;have ht:=RF (each z hz).1 (each z hz).2;have hset:(xs++[x]).set 14 (O (Sl.pub (.int z)))=xs++[pb (.int z)]:=by rw[List.set_append_right _ _ (by lia),hxl];rfl
   have hget:(xs++[O (Sl.pub (.int z))])[14]?=O (O (Sl.pub (.int z))):=by rw[Qs (by lia),hxl];rfl
   refine⟨_,UV (by rw[Qk,hxl];exact Qa C3) hset,rfl,λ_=>?_,pb (.int z),?_⟩
   .exact UU (ZS (UH UK (UH UK (UH UK (UH UK (UH UK (UH UK (UH UK (UH UK (UH UK (UH UK (UH UK UO))))))))))) (Qa C3)) (UC hget) ht.1
   .unfold U0 at hx⊢
    rw[QK,hx];rfl
  .exact⟨C4,rfl⟩
  .rw[Qd,BQ,Q6];lia
 refine U1 (Zc (Y0 (Z2 (RI (UC C3) (Vs UK) (Vs (UU UK (Kl C3 UK x0) ZJ)) (by rw[P6,hcut])) YZ) (hc _ C3 C3)) (Qa C3) C3) ?_;refine U1 (Zc (Y1 UO (Qa C3)) (Qa C3) C3) ?_;apply KD;apply Yj (TQ T A R (.list (ns.map int)) (.list (ds.map int)) at_ n cs)
 case h1=>exact WS (UH (UU UK (Kl C3 UK x1) ZJ) UO) (WO (by lia) (by lia))
 case h0=>exact⟨[],_,_,_,_,_,_,rfl,rfl,λ_ h=>by cases h⟩
 case hst=>exact λi d ρ e h=>Cr hns hT hR hcl (by lia) (by lia) e h
 case hend=>rintro ρ ⟨ls,y9,y10,y11,y12,y13,y14,rfl,hll,hg⟩;rw[Y2]at hll;refine KG (Kx (T9 (UH (Yo rfl rfl) (UH (Yo rfl rfl) UO)) (Qa rfl)) ⟨_,rfl,cs,ls,rfl,⟨?_,by lia,by lia,λrs hrs=>(hg rs hrs).2⟩⟩);exact⟨by lia,by lia,λc hc=>by obtain⟨z,hz,rfl⟩:=Qx.mp hc;exact(RF (each z hz).1 (each z hz).2).2,by lia,by lia,λrs hrs=>by rw[hcl];exact(hg rs hrs).1⟩
theorem L1(a b:Int):Us (.int a) (.int b)=(a==b):=by simp[Us]
theorem L0(t:Int)(r:C8):oIn (.int t) (Ks r)=O (r.contains t):=by
 have h1:Uq (r.map int)=C5:=by
  induction r with
  |nil=>rfl
  |cons x r ih=>rw[QC];unfold Uq;rw[ih];rfl
 unfold oIn Ks;dsimp only;rw[Qq ⟨rfl,h1,JN _⟩]
 congr 1
 rw[List.any_map];clear h1;induction r with
 |nil=>rfl
 |cons x r ih=>
  rw[JW,ih,List.contains_cons]
  congr 1
  show Us (.int x) (.int t)=(t==x);rw[L1];exact Bool.eq_iff_iff.2 ⟨λh=>beq_iff_eq.2 (beq_iff_eq.1 h).symm,λh=>beq_iff_eq.2 (beq_iff_eq.1 h).symm⟩
noncomputable def UI:Bf->D
 |none=>.none
 |some t=>.int t
noncomputable def UT(ws:LO):D:=.list (ws.map UI)
structure Deal(cs:C8)(ls:L3)(ws:LO):Prop where
 len:ws.length=ls.length
 wish:∀(i:Nat) t rs,ws[i]?=O (O t)->ls[i]?=O rs->t∈rs.flatten
 cop:∀(k:Nat) c,cs[k]?=O c->((ws.count (O (k:Int)):Nat):Int)<=c
theorem PQ(ws:LO):Uq (ws.map UI)=C5:=XB λx hx=>by obtain⟨y,_,rfl⟩:=Qx.mp hx;cases y<;>rfl
theorem Sg(a b:Bf):Us (UI a) (UI b)=decide (a=b):=by rw[JX];cases a<;>cases b<;>simp[UI,Us]
theorem Cc{ws:LO}{k:Int}:XF (UT ws) (.int k)=O (.int (ws.count (O k):Nat)):=by
 unfold UT XF;dsimp only;rw[if_pos ⟨rfl,PQ ws,by simp[Ur]⟩]
 congr 3
 induction ws with
 |nil=>rfl
 |cons w r ih=>
  rw[QC,List.countP_cons,List.count_cons,ih]
  congr 1
  have:=Sg w (O k);have e:UI (O k)=.int k:=rfl;rw[e]at this;rw[this];cases w with
  |none=>simp
  |some z=>simp
theorem SI{f:M C7}{k:Nat}{s:D->UA->Bg}{t:M Bool}{g:M D}{ρ ρ1:UA}{ds es:C7}(h1:f ρ=.ok ds ρ1)(h2:Kz s t g ds (U4 ρ1++Uk k C4) []=O es)(h3:es.all flat=C5):XX f k s t g ρ=.ok es ρ1:=by unfold XX;rw[h1];dsimp only;rw[h2];dsimp only;rw[if_pos h3]
theorem OF{cs:C8}{ls:L3}{rs:List C8}{i:Nat}(hi:ls[i]?=O rs)(hl:rs.flatten.length<64):Ye [Ky cs ls,.int i]=O (.list ((Zo rs.flatten).map int)):=by
 refine Yi (ρ:=[pb (Ky cs ls),pb (.int i)]) C3 ?_;unfold Wk;have i1:oIx (Ky cs ls) (.int 1)=O (.list (ls.map Kj)):=Kv (j:=1) C3;have i2:oIx (.list (ls.map Kj)) (.int i)=O (Kj rs):=Kv (by rw[Qj,hi];rfl)
 have hs:WA [Kj rs,.list []]=O (.list (rs.flatten.map int)):=by
  have e:Kj rs=.list ((rs.map λr=>r.map int).map Ul):=by unfold Kj;rw[Q7];rfl
  have e2:(rs.map λr=>r.map int).flatten=rs.flatten.map int:=by rw[List.map_flatten]
  rw[e];unfold WA;dsimp only;rw[DM];dsimp only;rw[e2,Qq (by rw[Qd];lia)]
 exact Kx (ZT (UH (ZT (UH (UU (Kl C3 UK i1) (UC C3) i2) (UH (ZS UO (Qa C3)) UO)) hs) UO) (OP hl)) C3
structure X5(cs:C8)(ls:L3)(lf:C8)(ws:LO):Prop where
 wish:∀(i:Nat) t rs,ws[i]?=O (O t)->ls[i]?=O rs->t∈rs.flatten
 len:lf.length=cs.length
 cop:∀(k:Nat) c,cs[k]?=O c->lf[k]?=O (c-((ws.count (O (k:Int)):Nat):Int))/\0<=c-((ws.count (O (k:Int)):Nat):Int)
theorem OE{ls:L3}{ws:LO}{o:Bf}{rs:List C8}(h:∀(i:Nat) t rs,ws[i]?=O (O t)->ls[i]?=O rs->t∈rs.flatten)(hi:ls[ws.length]?=O rs)(ho:∀t,o=O t->t∈rs.flatten) :
  ∀(i:Nat) t rs,(ws++[o])[i]?=O (O t)->ls[i]?=O rs->t∈rs.flatten:=by
 intro j t rs' e1 e2;by_cases hj:j<ws.length
 .rw[Qn hj]at e1;exact h j t rs' e1 e2
 .by_cases hj2:j=ws.length
  .subst hj2
   rw[hi]at e2;cases e2;rw[Qs (Qo _),Nat.sub_self,List.getElem?_cons_zero]at e1;cases e1;exact ho t C3
  .rw[Jd (by rw[Qk,Q4];lia)]at e1
   cases e1
theorem X5.none{cs:C8}{ls:L3}{lf:C8}{ws:LO}{rs:List C8}(d:X5 cs ls lf ws)(hi:ls[ws.length]?=O rs):X5 cs ls lf (ws++[Option.none]) where
 wish:=OE d.wish hi λt e=>by cases e
 len:=d.len
 cop:=λk c e=>by rw[List.count_append];simpa using d.cop k c e
theorem X5.give{cs:C8}{ls:L3}{lf:C8}{ws:LO}{rs:List C8}{t v:Int}(d:X5 cs ls lf ws)(hi:ls[ws.length]?=O rs)(ht:t∈rs.flatten)(h0:0<=t)(hv:lf[t.toNat]?=O v)(hp:0<v):X5 cs ls (lf.set t.toNat (v-1)) (ws++[O t]) where
 wish:=OE d.wish hi λt' e=>by cases e;exact ht
 len:=by rw[QH];exact d.len
 cop:=λk c e=>by
  obtain⟨h1,h2⟩:=d.cop k c e;rw[List.count_append];by_cases hk:t=(k:Int)
  .subst hk
   rw[Jf]at hv⊢;rw[h1]at hv;cases hv;have hl:k<lf.length:=(Qg.mp h1).1;rw[QD hl];simp only[List.count_singleton_self];refine⟨by congr 1;lia,by lia⟩
  .have hne:t.toNat≠k:=by lia
   rw[Qf hne];have:List.count (O (k:Int)) [O t]=0:=by rw[List.count_eq_zero];intro z;have:=Qw.mp z;exact hk (Qu this).symm
   rw[this];exact⟨h1,h2⟩
theorem N4{os:LO}{k:Nat}(h:k<os.length):oIx (.list (os.map UI)) (.int k)=O (UI os[k]):=Kv (by rw[Qj,Qb h];rfl)
theorem PP{ws:LO}{o:Bf}:(ws++[o]).map UI=ws.map UI++[UI o]:=by rw[QK];rfl
def We(cs:C8)(ls:L3)(c s:D)(dg:C8)(i:Nat)(ρ:UA):Prop:=∃(lf:C8)(ws:LO)(x6 x7 x8:Option Sl),
 ρ=[pb (Ky cs ls),pb c,pb s,O (.own (lf.map int)),pb (.list (dg.map int)),O (.own (ws.map UI)),x6,x7,x8]/\ws.length=i/\X5 cs ls lf ws
theorem Cb{cs:C8}{ls:L3}{c s:D}{dg:C8}{i:Nat}{d:D}{ρ:UA}{Q:Out->Prop}(g:Good cs ls)(hdl:dg.length=ls.length)(hd0:∀x∈dg,0<=x)(hi:(KS 0 ls.length)[i]?=O d)(h:We cs ls c s dg i ρ) :
  ∃ρ2,gN 6 d ρ=O ρ2/\Ho Sk ρ2 (XJ (We cs ls c s dg (i+1)) Q):=by
 obtain⟨lf,ws,x6,x7,x8,rfl,hw,dl⟩:=h;obtain⟨rfl,hlt⟩:=WU hi;have BR:i<ls.length:=by omega
 have hls:ls[i]?=O ls[i]:=Qb BR;have gr:=g.rk _ (Qt hls);have hfl:=Te gr;refine⟨_,UV (Qa C3) C3,?_⟩;unfold Sk;rw[Int.zero_add];generalize hrs:ls[i]=rs at *;have hmem:∀t∈Zo rs.flatten,t∈rs.flatten:=λt ht=>(YL _).mem_iff.mp ht
 have hthere:∀t∈rs.flatten,0<=t/\t<lf.length:=λt ht=>by obtain⟨r,hr,htr⟩:=JS.mp ht;have:=gr.there r hr t htr;rw[dl.len];exact this
 let L:=(Zo rs.flatten).filter λt=>decide (0<lf.getD t.toNat 0)
 have hc:Kz (gN 9) (UF (oIB λi j=>decide (j<i)) (UJ 3 (Uz 9)) (UE (.int 0))) (Uz 9) ((Zo rs.flatten).map int) (U4 [pb (Ky cs ls),pb c,pb s,O (.own (lf.map int)),pb (.list (dg.map int)),O (.own (ws.map UI)),pb (.int (i:Int)),x7,x8]++Uk 1 C4) []=O (L.map int):=by
  rw[YM (λd=>match d with | .int t=>decide (0<lf.getD t.toNat 0)|_=>C6) (λd=>d) (λρ=>∃x y7 y8,ρ=[pb (Ky cs ls),pb c,pb s,pb (.list (lf.map int)),pb (.list (dg.map int)),pb (.list (ws.map UI)),pb (.int (i:Int)),y7,y8,x])]
  .rw[Jb,J6,JD]
   rfl
  .rintro d hm ρ ⟨x,y7,y8,rfl⟩
   obtain⟨t,ht,rfl⟩:=Qx.mp hm;obtain⟨h0,h1⟩:=hthere t (hmem t ht);obtain⟨k,rfl⟩:∃k:Nat,t=k:=⟨t.toNat,by omega⟩
   refine⟨_,UV (Qa C3) C3,UU (Kl C3 (UC C3) (Sh (by omega))) UK C3,λ_=>UC C3,pb (.int k),YF y7,YF y8,rfl⟩
  .exact⟨C4,TU x7,TU x8,rfl⟩
  .rw[Qd,Q6,(YL _).length_eq];have:=g.c6;omega
 have hLl:L.length<=6:=by have:L.length<=(Zo rs.flatten).length:=Jr _ _;rw[(YL _).length_eq]at this;have:=g.c6;omega
 have hadd:UX (.list (L.map int)) (.list [.none])=O (.list ((L.map O++[C4]).map UI)):=by rw[Vy (by rw[Qd];show L.length+1<=_;omega),QK,Q7];rfl
 refine U1 (KQ (UU (K4 (SI (Z2 (Kn (UH (UC C3) (UH (UC C3) UO)) C3 (OF (cs:=cs) hls (by have:=g.c6;omega))) YZ) hc (by rw[J5,QZ];exact λ_ _=>rfl))) (ZS (UH UK UO) (Qa C3)) hadd) (Qa C3) C3) ?_;have hol:(L.map O++[C4]:LO).length=L.length+1:=by rw[Qk,Qd];rfl
 have hlen:Ka [.list ((L.map O++[C4]:LO).map UI)]=O (.int ((L.length+1:Nat):Int)):=by rw[ZH,Qd,hol]
 have hdi:dg[i]?=O dg[i]:=Qb (by omega);have hx0:=hd0 _ (Qt hdi);have hix:oIx (.list (dg.map int)) (.int (i:Int))=O (.int dg[i]):=Kv (by rw[Qj,hdi];rfl);have hm0:0<=dg[i] % ((L.length+1:Nat):Int):=Int.emod_nonneg _ (by omega);have hm1:dg[i] % ((L.length+1:Nat):Int)<((L.length+1:Nat):Int):=Int.emod_lt_of_pos _ (by omega);obtain⟨k,hk⟩:∃k:Nat,dg[i] % ((L.length+1:Nat):Int)=k:=⟨(dg[i] % ((L.length+1:Nat):Int)).toNat,by omega⟩
 have Ab:k<(L.map O++[C4]:LO).length:=by rw[hol];omega
 have Bz:=N4 (os:=L.map O++[C4]) Ab;rw[←hk]at Bz;generalize ho:(L.map O++[C4]:LO)[k]=o at Bz;refine U1 (KQ (Kl C3 (UU (Kl C3 (UC C3) hix) (K9 C3 hlen) (X6 (by omega))) Bz) (Qa C3) C3) ?_;have Bx:(ws.map UI).length<1000000:=by rw[Qd];have:=g.l7;omega
 have At:ls[ws.length]?=O rs:=by rw[hw];exact hls
 cases o with
 |none=>
  apply KD;apply Ko
  case h1=>exact VR (UC C3) C3
  case h2=>intro hh;cases hh
  case h3=>intro _;refine KL (KG ?_);refine ZX (Xv C3 (UC C3) C3 Bx C3) ?_;exact Zu ⟨lf,ws++[C4],_,_,_,by rw[PP (ws:=ws)];rfl,by rw[Qk,hw];rfl,dl.none At⟩
 |some t=>
  have htL:t∈L:=by
   have hm:O t∈(L.map O++[C4]:LO):=ho ▸ Jc Ab;rcases QF.mp hm with z|z
   .obtain⟨t',h1,h2⟩:=Qx.mp z
    cases h2;exact h1
   .cases Qw.mp z
  obtain⟨htm,htp⟩:=Jk.mp htL;have htf:=hmem t htm;obtain⟨h0,h1⟩:=hthere t htf;have hv:lf[t.toNat]?=O lf[t.toNat]:=Qb (by omega);have hvd:lf.getD t.toNat 0=lf[t.toNat]:=by simp[List.getD,hv]
  have hpos:0<lf[t.toNat]:=by rw[hvd]at htp;simpa using htp
  have hvx:oIx (.list (lf.map int)) (.int t)=O (.int lf[t.toNat]):=Ll h0 (by rw[Qj,hv];rfl);apply KD;apply Ko
  case h1=>exact VR (UC C3) C3
  case h2=>intro _;refine ZX (GC (UU (T8 C3 (UC C3) C3 hvx) UK Tc) C3 (UC C3) C3 ⟨h0,by rw[Qd];exact h1⟩ C3) ?_;refine KG ?_;refine ZX (Xv C3 (UC C3) C3 Bx C3) ?_;exact Zu ⟨lf.set t.toNat (lf[t.toNat]-1),ws++[O t],_,_,_,by rw[PP (ws:=ws),←FF];rfl,by rw[Qk,hw];rfl,dl.give At htf h0 hv hpos⟩
  case h3=>intro hh;cases hh
theorem ON{cs:C8}{ls:L3}(g:Good cs ls)(c s:Int):∃r,YD [Ky cs ls,.int c,.int s]=O r/\∃ws,r=UT ws/\Deal cs ls ws:=by
 refine Vj (ρ:=[pb (Ky cs ls),pb (.int c),pb (.int s),C4,C4,C4,C4,C4,C4]) C3 ?_;unfold Wj;have i0:oIx (Ky cs ls) (.int 0)=O (.list (cs.map int)):=Kv (j:=0) C3;have i1:oIx (Ky cs ls) (.int 1)=O (.list (ls.map Kj)):=Kv (j:=1) C3;have hlen:Ka [.list (ls.map Kj)]=O (.int ls.length):=by rw[ZH,Qd]
 refine U1 (Zc (Kb (UH (Kl C3 UK i0) UO) (KR (show Yh [.list (cs.map int)]=O (cs.map int)from rfl))) (Qa C3) C3) ?_
 have hmul:U8 (.list [.int 61]) (.int ls.length)=O (.list ((Uk ls.length (61:Int)).map int)):=by
  rw[OS ⟨by omega,by have:=g.l7;omega,by show 1*_<=_;have:=g.l7;omega⟩]
  congr 2
  rw[Jf];generalize ls.length=n;induction n with
  |zero=>rfl
  |succ n ih=>rw[Ja,QN,ih,Ja,QC];rfl
 obtain⟨r,hF,dg,rfl,hdl,hdb⟩:=TL c s (sizes:=Uk ls.length (61:Int)) (λx hx=>by rw[(List.mem_replicate.mp hx).2];decide) (by rw[QT];have:=g.l7;omega);rw[QT]at hdl;refine U1 (KQ (Kn (UH (UC C3) (UH (UC C3) (UH (UU (ZS (UH UK UO) (Qa C3)) (ZT (UH (Kl C3 UK i1) UO) hlen) hmul) UO))) C3 hF) (Qa C3) C3) ?_;refine U1 (Zc (Y1 UO (Qa C3)) (Qa C3) C3) ?_;apply KD;apply Yj (We cs ls (.int c) (.int s) dg)
 case h1=>exact WS (UH (ZT (UH (Kl C3 UK i1) UO) hlen) UO) (WO (by have:=g.l7;omega) (by omega))
 case h0=>exact⟨cs,[],_,_,_,rfl,rfl,⟨λ_ _ _ h=>(by cases h),rfl,λk c e=>by have:=g.c7 c (Qt e);simp only[List.count_nil];exact⟨by rw[e];congr 1;omega,by omega⟩⟩⟩
 case hst=>exact λi d ρ e h=>Cb g hdl (λx hx=>by obtain⟨j,hj,e⟩:=List.mem_iff_getElem.mp hx;exact(hdb j x 61 (by rw[Qb hj,e]) (by rw[QA,Qq (by omega)])).1) e h
 case hend=>rintro ρ ⟨lf,ws,x6,x7,x8,rfl,hw,dl⟩;rw[Y2]at hw;refine KG (Kx (Yo rfl rfl) ⟨_,rfl,ws,rfl,⟨by omega,dl.wish,λk c e=>by have:=(dl.cop k c e).2;omega⟩⟩)
theorem Et(ws:LO):(UT ws).depth<=2:=Vp (XA λx hx=>by obtain⟨y,_,rfl⟩:=Qx.mp hx;cases y<;>simp[UI,Ur])
theorem OD{s:D->UA->Bg}{t:M Bool}{g:M D}(I:UA->Prop):∀(ds qs:C7)(ρ:UA)(es:C7),qs.length=ds.length ->
  (∀(i:Nat) d e,ds[i]?=O d->qs[i]?=O e->∀ρ,I ρ->∃ρ1,s d ρ=O ρ1/\t ρ1=.ok C5 ρ1/\g ρ1=.ok e ρ1/\I (U0 ρ1))->I ρ->es.length+ds.length<=1000000->Kz s t g ds ρ es=O (es++qs)
 |[],[],ρ,es,_,_,_,_=>by rw[Kz,QS]
 |d::r,e::q,ρ,es,hl,st,h0,hz=>by obtain⟨ρ1,e1,e2,e3,h1⟩:=st 0 d e C3 C3 ρ h0;rw[Qz]at hz;rw[Kz,e1];dsimp only;rw[e2];dsimp only;rw[Qq C3,e3];dsimp only;rw[if_pos (by lia),OD I r q (U0 ρ1) (es++[e]) (by simpa using hl) (λi d' e' x y=>st (i+1) d' e' (by simpa using x) (by simpa using y)) h1 (by rw[List.length_append,List.length_singleton];lia),List.append_assoc];rfl
section
variable{cs:C8}{ls:L3}{ws:LO}
theorem Ro:oIx (Ky cs ls) (.int 0)=O (.list (cs.map int)):=Kv (j:=0) C3
end
theorem LZ{d:D}(h1:d.canLay0=C5)(h2:d.depth<=60):oNe d d=O C6:=by unfold oNe;rw[Qq ⟨h1,h1,h2⟩,SK _ h1];rfl
theorem V5{a b:Bf}:oEq (UI a) (UI b)=O (decide (a=b)):=by unfold oEq;rw[if_pos ⟨by cases a<;>rfl,by cases b<;>rfl,by cases a<;>simp[UI,Ur]⟩,Sg]
theorem V4{a b:Bf}:oNe (UI a) (UI b)=O (!decide (a=b)):=by unfold oNe;rw[if_pos ⟨by cases a<;>rfl,by cases b<;>rfl,by cases a<;>simp[UI,Ur]⟩,Sg]
noncomputable def Kt(k:Nat):L3->LP
 |[]=>[]
 |rs::ls=>(Zo rs.flatten).map (λt=>((k:Int),t))++Kt (k+1) ls
theorem Ol:∀(ls:L3)(k:Nat),∀q∈Kt k ls,(k:Int)<=q.1
 |[],_,q,h=>by cases h
 |rs::ls,k,q,h=>by
  rcases QF.mp h with h|h
  .obtain⟨t,_,rfl⟩:=Qx.mp h;exact Jz _
  .have:=Ol ls (k+1) q h;lia
theorem Vw:∀{ls:L3}{k:Nat}{q:Int×Int},q∈Kt k ls->∃i rs,ls[i]?=O rs/\q.1=((k+i:Nat):Int)/\q.2∈rs.flatten
 |[],_,q,h=>by cases h
 |rs::ls,k,q,h=>by
  rcases QF.mp h with h|h
  .obtain⟨t,ht,rfl⟩:=Qx.mp h
   exact⟨0,rs,rfl,rfl,(YL _).mem_iff.mp ht⟩
  .obtain⟨i,rs',h1,h2,h3⟩:=Vw h
   exact⟨i+1,rs',by simpa using h1,by rw[h2];congr 1;lia,h3⟩
theorem SH:∀{ls:L3}{k i:Nat}{rs:List C8}{t:Int},ls[i]?=O rs->t∈rs.flatten->(((k+i:Nat):Int),t)∈Kt k ls
 |rs::ls,k,0,rs',t,h,ht=>by cases h;exact QI _ (Qx.mpr ⟨t,(YL _).mem_iff.mpr ht,rfl⟩)
 |rs::ls,k,i+1,rs',t,h,ht=>by have:=SH (ls:=ls) (k:=k+1) (i:=i) (by simpa using h) ht;rw[show k+1+i=k+(i+1)by lia]at this;exact Qr _ this
theorem X7.flat{n:Nat}{rs:List C8}(g:X7 n rs):∀t∈rs.flatten,0<=t/\t<n:=λt ht=>by obtain⟨r,h1,h2⟩:=JS.mp ht;exact g.there r h1 t h2
theorem Ta{t:Int}{r:C8}:oIn (.int t) (.list (r.map int))=O (r.contains t):=L0 t r
theorem TF{B:Nat}:∀{xs:C7},(∀x∈xs,PyData.leavesShort B x=C5)->PyData.leavesShortAll B xs=C5
 |[],_=>rfl
 |x::xs,h=>by rw[PyData.leavesShortAll,h x Qh,TF λy hy=>h y (Qm _ hy)];rfl
theorem Tr:∀{xs:C7},(∀x∈xs,PyData.showable x=C5)->PyData.showableAll xs=C5
 |[],_=>rfl
 |x::xs,h=>by rw[PyData.showableAll,h x Qh,Tr λy hy=>h y (Qm _ hy)];rfl
theorem Tq{n:Nat}:∀{xs:C7},(∀x∈xs,PyData.bulk x<=n)->PyData.bulkAll xs<=xs.length*(n+1)
 |[],_=>by simp[PyData.bulkAll]
 |x::xs,h=>by have h1:=h x Qh;have h2:=Tq (xs:=xs) λy hy=>h y (Qm _ hy);rw[PyData.bulkAll,Qz,Nat.succ_mul];omega
theorem ten{i:Int}(h:0<=i/\i<10):(int i).leavesShort 8=C5/\(int i).showable=C5:=by
 have:i=0∨i=1∨i=2∨i=3∨i=4∨i=5∨i=6∨i=7∨i=8∨i=9:=by omega
 rcases this with rfl|rfl|rfl|rfl|rfl|rfl|rfl|rfl|rfl|rfl<;>decide +kernel
theorem Yr{a b:Str}(h1:Up a=C5)(h2:Up b=C5):Up (a++b)=C5:=by unfold Up at *;rw[PySem.Str.cps_append,Array.all_append,h1,h2];rfl
theorem Nj:∀(ts:List Str)(k:Nat)(acc:Str),Up acc=C5->(∀t∈ts,Up t=C5)->Up (textFrom k acc ts)=C5
 |[],k,acc,h,_=>h
 |t::r,k,acc,h,ht=>by
  refine Nj r (k+1) _ (Yr (Yr h ?_) (ht t Qh)) λx hx=>ht x (Qm _ hx)
  split<;>decide +kernel
theorem O5:∀{xs:C7}{t:Str},t∈PyData.shownAll xs->∃x∈xs,t=x.shown
 |[],t,h=>by cases h
 |x::xs,t,h=>by
  rw[PyData.shownAll]at h;rcases QM.mp h with h|h
  .exact⟨x,Qh,h⟩
  .obtain⟨y,hy,e⟩:=O5 h
   exact⟨y,Qm _ hy,e⟩
theorem CS{xs:C7}(h:∀x∈xs,Up x.shown=C5):Up (Ul xs).shown=C5:=by show Up (textFrom 0 "[" (PyData.shownAll xs) ++ "]")=C5;exact Yr (Nj _ _ _ (by decide +kernel) λt ht=>by obtain⟨x,hx,rfl⟩:=O5 ht;exact h x hx) (by decide +kernel)
theorem N3{i:Int}(h:0<=i/\i<10):Up (int i).shown=C5:=by
 have:i=0∨i=1∨i=2∨i=3∨i=4∨i=5∨i=6∨i=7∨i=8∨i=9:=by omega
 rcases this with rfl|rfl|rfl|rfl|rfl|rfl|rfl|rfl|rfl|rfl<;>decide +kernel
theorem Es{xs:C7}{a b:Bf}:(DL.cutD xs a b).length<=xs.length:=by
 unfold DL.cutD;rw[Jt,List.length_drop]
 lia
theorem Er{xs:C7}{a b:Bf}{x:D}(h:x∈DL.cutD xs a b):x∈xs:=by unfold DL.cutD at h;exact List.mem_of_mem_drop (List.mem_of_mem_take h)
theorem ER{ns:C8}{n:Int}{a b:Bf}{i:Nat}{x:D}(h:(int n::DL.cutD (ns.map int) a b)[i]?=O x):∃c:Int,x=.int c:=by
 have hm:=Qt h;rcases QM.mp hm with rfl|hm
 .exact⟨n,rfl⟩
 .obtain⟨c,_,rfl⟩:=Qx.mp (Er hm)
  exact⟨c,rfl⟩
theorem EQ{ns:C8}{n:Int}{a b:Bf}(h:ns.length<=1000):UX (.list [.int n]) (.list (DL.cutD (ns.map int) a b))=O (.list (int n::DL.cutD (ns.map int) a b)):=Vy (by
 have:=Es (xs:=ns.map int) (a:=a) (b:=b);rw[Qd]at this;show 1+_<=_
 lia)
noncomputable def whB:D->Bool
 |.int _=>C5
 |_=>C6
theorem Pi{f g:M Bool}{ρ:UA}{t u:Bool}(h1:f ρ=.ok t ρ)(h2:t=C5->g ρ=.ok u ρ)(h3:t=C6->u=C6):KY f g ρ=.ok u ρ:=by
 have:=T7 h1 h2;cases t with
 |true=>exact this
 |false=>rw[h3 C3];exact this
theorem LY{a b:Str}(ha:Up a=C5)(hb:Up b=C5):oEq (.str a) (.str b)=O (a==b):=by unfold oEq;rw[Qq ⟨ha,hb,Os⟩];rfl
theorem LX{a b:Str}(ha:Up a=C5)(hb:Up b=C5):oNe (.str a) (.str b)=O (!(a==b)):=by unfold oNe;rw[Qq ⟨ha,hb,Os⟩];rfl
theorem LW{d:D}(h1:d.canLay0=C5)(h2:d.depth<=60):oEq d d=O C5:=by unfold oEq;rw[Qq ⟨h1,h1,h2⟩,SK _ h1]
theorem LV{j:Nat}{f:M C7}{ρ ρ1 ρ':UA}{BC ds es:C7}(h0:ρ[j]?=O (O (.own BC)))(h1:f ρ=.ok es ρ1)(h2:ρ1[j]?=O (O (.own ds)))(h3:ds.length+es.length<=1000000)(h4:ρ1.set j (O (.own (ds++es)))=ρ'):Ys j f ρ=.nx ρ':=by unfold Ys;rw[P5 h0];dsimp only;unfold sB;rw[h1];dsimp only;rw[P5 h2];dsimp only;rw[Qq h3,h4]
theorem Ca{α β:Type}{f:α->β}(hf:∀a b,f a=f b->a=b){l:List α}(h:l.Nodup):(l.map f).Nodup:=by unfold List.Nodup at h⊢;rw[List.pairwise_map];exact h.imp λhne e=>hne (hf _ _ e)
theorem OM:∀(ls:L3)(k:Nat),(∀rs∈ls,rs.flatten.Nodup)->(Kt k ls).Nodup
 |[],_,_=>JP
 |rs::ls,k,h=>by
  show((Zo rs.flatten).map (λt=>((k:Int),t))++Kt (k+1) ls).Nodup
  rw[List.nodup_append];refine⟨?_,OM ls (k+1) λr hr=>h r (Qm _ hr),λa ha b hb e=>?_⟩
  .exact Ca (λx y e=>(Prod.mk.inj e).2) ((YL _).nodup_iff.mpr (h rs Qh))
  .subst e
   obtain⟨t,_,rfl⟩:=Qx.mp ha;have:=Ol ls (k+1) _ hb;simp at this
   lia
theorem LU{cs:C8}{ls:L3}(g:Good cs ls):∀q∈Kt 0 ls,(0<=q.1/\q.1<ls.length)/\0<=q.2/\q.2<cs.length:=λq hq=>by
 obtain⟨i,rs,h1,h2,h3⟩:=Vw hq;have:=(g.rk rs (Qt h1)).flat q.2 h3;have:=(Qg.mp h1).1
 lia
structure TN(cs:C8)(qs:LP)(m:Nat)(ws:LO):Prop where
 len:ws.length=m
 wish:∀(i:Nat) t,ws[i]?=O (O t)->((i:Int),t)∈qs
 cop:∀(k:Nat) c,cs[k]?=O c->((ws.count (O (k:Int)):Nat):Int)<=c
structure Rn(n m:Nat)(qs:LP):Prop where
 nd:qs.Nodup
 lo:∀q∈qs,0<=q.1/\q.1<m/\0<=q.2/\q.2<n
noncomputable def U6(p:Nat×Bf):D:=.tuple [.int (p.1:Nat),UI p.2]
section
variable{cs:C8}{ls:L3}{ws:LO}{qs:LP}{V:Int->Int->Int}
theorem D9(g:Good cs ls):Rn cs.length ls.length (Kt 0 ls) where
 nd:=OM ls 0 λrs hr=>(g.rk rs hr).once
 lo:=λq hq=>by have:=LU g q hq;exact⟨this.1.1,this.1.2,this.2.1,this.2.2⟩
end
def Nw(cs:C8)(ws:LO)(t:Nat):Prop:=∃c,cs[t]?=O c/\((ws.count (O (t:Int)):Nat):Int)<c
structure WayQ(cs:C8)(qs:LP)(ws:LO)(W:List (Nat×Bf)):Prop where
 ne:W≠[]
 mv:∀p∈W,∃o,ws[p.1]?=O o/\p.2≠o/\∀t,p.2=O t->((p.1:Int),t)∈qs
 nd:(W.map Prod.fst).Nodup
 lnk:∀(k:Nat) p q,W[k]?=O p->W[k+1]?=O q->p.2≠C4/\ws[q.1]?=O p.2
 fin:∀p q,W.head?=O p->W.getLast?=O q->q.2=C4∨ws[p.1]?=O q.2 ∨ ∃t:Nat,q.2=O (t:Int)/\Nw cs ws t
section
variable{cs:C8}{ls:L3}{old:Option LO}{ts:C8}{ws:LO}
theorem Oj(du:Deal cs ls ws):TN cs (Kt 0 ls) ls.length ws:=⟨du.len,λi t h=>by
 have BR:i<ls.length:=by have:=(Qg.mp h).1;have:=du.len;lia
 have hrs:ls[i]?=O ls[i]:=Qb BR;have:=SH (k:=0) hrs (du.wish i t _ h hrs);rwa[JH]at this,du.cop⟩
end
theorem Ep(n:Nat):KS 0 ((n:Nat):Int)=(Uj n).map λk=>.int (k:Int):=by
 unfold KS;have:((n:Int)-0).toNat=n:=by omega
 rw[this];exact List.map_congr_left λk _=>by rw[Int.zero_add]
section
variable{cs:C8}{ls:L3}{ws:LO}{W:List (Nat×Bf)}{qs:LP}
theorem YY{i:Nat}{o:Bf}(h:ws[i]?=O o):ws.getD i C4=o:=by rw[Q2,h];rfl
end
noncomputable def oD:D->Option Bf
 |.none=>O C4
 |.int u=>O (O u)
 |_=>C4
theorem WI(o:Bf):oD (UI o)=O o:=by cases o<;>rfl
noncomputable def moB(ls:L3)(ws:LO)(i:Nat)(t:D):Bool:=
 match oD t with
 |some o=>!decide (o=ws.getD i C4)&&o.all (λu=>decide (u∈(ls.getD i []).flatten))
 |none=>C6
def MvQ(qs:LP)(ws:LO)(p:Nat×Bf):Prop:=∃o,ws[p.1]?=O o/\p.2≠o/\∀t,p.2=O t->((p.1:Int),t)∈qs
section
variable{cs:C8}{ls:L3}{ws:LO}{W:List (Nat×Bf)}
theorem N0(hl:ws.length=ls.length){i:Nat}(hi:i<ls.length){o:Bf}:moB ls ws i (UI o)=C5 ↔ MvQ (Kt 0 ls) ws (i,o):=by
 have hw:ws[i]?=O (ws[i]'(by omega)):=Qb _;have hs:ls[i]?=O ls[i]:=Qb hi;have e1:ws.getD i C4=ws[i]'(by omega):=by rw[Q2,hw];rfl
 have e2:ls.getD i []=ls[i]:=by rw[Q2,hs];rfl
 unfold moB;rw[WI,e1,e2];constructor
 .intro h
  have h:(!decide (o=ws[i]'(by omega))&&o.all (λu=>decide (u∈ls[i].flatten)))=C5:=h;rw[QQ]at h;refine⟨_,hw,λe=>?_,λt e=>?_⟩
  .rw[QU e]at h;cases h.1
  .have e:o=O t:=e
   subst e;have:=Qa (show decide (t∈ls[i].flatten)=C5 from h.2);have:=SH (k:=0) hs this;rw[JH]at this;exact this
 .rintro⟨o',h1,h2,h3⟩
  rw[hw]at h1;cases h1
  show(!decide (o=ws[i]'(by omega))&&o.all (λu=>decide (u∈ls[i].flatten)))=C5
  rw[QG h2];cases o with
  |none=>rfl
  |some t=>
   obtain⟨j,rs,hj,e,hm⟩:=Vw (h3 t C3);have e:i=j:=by have:((i:Nat):Int)=((0+j:Nat):Int):=e;omega
   subst e;rw[hs]at hj;cases hj;exact QU hm
def LnkQ(ws:LO)(W:List (Nat×Bf)):Prop:=∀(k:Nat) p q,W[k]?=O p->W[k+1]?=O q->p.2≠C4/\ws[q.1]?=O p.2
def IsW(cs:C8)(ls:L3)(ws:LO)(d:D):Prop:=∃W,d=.list (W.map U6)/\WayQ cs (Kt 0 ls) ws W
theorem Oi{W U:List (Nat×Bf)}(h:W.map U6=U.map U6):W=U:=by
 refine List.map_inj_right (f:=U6) (λp q e=>?_) |>.mp h
 obtain⟨a,x⟩:=p;obtain⟨b,y⟩:=q;have e:PyData.tuple [.int (a:Nat),UI x]=.tuple [.int (b:Nat),UI y]:=e;injection e with e;injection e with e1 e2;injection e1 with e1;injection e2 with e2
 have:x=y:=by have:=JM oD e2;rw[WI,WI]at this;exact Qu this
 rw[this,Int.ofNat.inj e1]
end
def SmI(x:D):Prop:=∀a t,x=.tuple [a,t]->t.canLay0=C5/\t.depth<=60
section
variable{cs:C8}{ls:L3}{ws:LO}{W:List (Nat×Bf)}
theorem Ph(d:D):YC [d]=O (.bool (whB d)):=by
 cases d with
 |dict kvs=>exact Yi (ρ:=[pb (.dict kvs)]) C3 (Kx (Ss (t:=C6) (u:=C6) (Lf (UC C3)) λz=>by cases z) C3)
 |_=>rfl
theorem Eo{t:D}{o:Bf}(h:t.canLay0=C5/\t.depth<=60):∃b,oEq t (UI o)=O b:=by unfold oEq;exact⟨_,Qq ⟨h.1,by cases o<;>rfl,h.2⟩⟩
theorem Cq(g:Good cs ls)(hl:ws.length=ls.length){d:D}(hs:∀xs,d=.list xs->xs.length<=1000/\∀x∈xs,SmI x):∃b,Zj [Ky cs ls,UT ws,d]=O (.bool b)/\(b=C5 ↔ IsW cs ls ws d):=by
 have l7:=g.l7;have c6:=g.c6
 let S0:Option Sl:=O (.pub (Ky cs ls))
 let S1:Option Sl:=O (.pub (UT ws))
 let S2:Option Sl:=O (.pub d)
 have BB:Ka [UT ws]=O (.int ws.length):=by unfold UT;rw[ZH,Qd]
 have key:∃r,Zj [Ky cs ls,UT ws,d]=O r/\∃b,r=.bool b/\(b=C5 ↔ IsW cs ls ws d):=by
  refine Vj (ρ:=[S0,S1,S2,C4,C4,C4,C4,C4,C4]) C3 ?_;unfold Wi;have no:∀{d:D},(¬IsW cs ls ws d)->∃d1:D,Out.rt (.bool C6)=.rt d1/\∃b,d1=.bool b/\(b=C5 ↔ IsW cs ls ws d):=λh=>⟨_,rfl,C6,rfl,(λz=>by cases z),λz=>absurd z h⟩
  apply KD;cases d with
  |dict kvs=>exact Ko (b:=C5) (YJ (PB (UC C3))) (λ_=>Kx UK (KN (no λ⟨W,e,_⟩=>by cases e))) λz=>by cases z
  |list xs=>
   obtain⟨hx,hsm⟩:=hs xs C3;have hlen:Ka [.list xs]=O (.int xs.length):=ZH;refine Ko (b:=xs.isEmpty) (ρ1:=[S0,S1,S2,C4,C4,C4,C4,C4,C4]) (K1 (ZU (UC C3) C3) (K8 C3 (ZS UO (Qa C3)) Gg)) (λz=>Kx UK (KN (no λ⟨W,e,hW⟩=>hW.ne ?_))) λz=>KL (KG ?_)
   .injection e with e
    rw[List.isEmpty_iff]at z;rw[z]at e;exact List.map_eq_nil_iff.mp e.symm
   have hne:xs≠[]:=λe=>by rw[e]at z;cases z
   refine U1 (ρ1:=[S0,S1,S2,O (.own []),C4,C4,C4,C4,C4]) (Zc (Y1 UO (Qa C3)) (Qa C3) C3) ?_;apply KD;apply Yj (λk ρ=>∃(W:List (Nat×Bf))(x4 x5 x6:Option Sl),ρ=[S0,S1,S2,O (.own ((W.map λp=>((p.1:Nat):Int)).map int)),x4,x5,x6,C4,C4]/\xs.take k=W.map U6/\(∀p∈W,MvQ (Kt 0 ls) ws p)/\(W.map Prod.fst).Nodup)
   case h1=>exact Z2 (UC C3) YZ
   case h0=>exact⟨[],C4,C4,C4,rfl,rfl,λ_ h=>(by cases h),JP⟩
   case hst=>
    rintro k x ρ hk ⟨W,x4,x5,x6,rfl,htk,B2,hnd⟩;have Ab:k<xs.length:=(Qg.mp hk).1;have hxm:x∈xs:=Qt hk;have BY:xs.take (k+1)=xs.take k++[x]:=by rw[List.take_succ,hk];rfl
    have hWl:W.length=k:=by have:=JM List.length htk;rw[Jt,Qd]at this;omega
    let A:C8:=W.map λp=>((p.1:Nat):Int)
    let SA:Option Sl:=O (.own (A.map int))
    let S4:Option Sl:=O (.pub x)
    refine⟨_,UV (Qa C3) C3,?_⟩;unfold RX
    have it:IsW cs ls ws (.list xs)->∃p,x=U6 p/\MvQ (Kt 0 ls) ws p/\p.1∉W.map Prod.fst:=λ⟨U,e,hU⟩=>by
     injection e with e;rw[e,Qj]at hk
     cases hp:U[k]? with
     |none=>rw[hp]at hk;cases hk
     |some p=>
      rw[hp]at hk;cases hk;refine⟨p,rfl,hU.mv p (Qt hp),λhm=>?_⟩;have hWU:W=U.take k:=Oi (by rw[←htk,e,List.map_take]);have:(U.map Prod.fst)[k]?=O p.1:=by rw[Qj,hp];rfl
      rw[hWU,List.map_take]at hm;obtain⟨j,hj⟩:=Je.mp hm;have hjk:j<k:=by have:=(Qg.mp hj).1;rw[Jt]at this;omega
      rw[List.getElem?_take_of_lt hjk]at hj;obtain⟨l1,e1⟩:=Qg.mp hj;obtain⟨l2,e2⟩:=Qg.mp this;have:=(List.getElem_inj hU.nd).mp (e1.trans e2.symm);omega
    cases x with
    |dict kvs=>apply KD;exact Ko (b:=C5) (YJ (PB (UC C3))) (λ_=>Kx UK (KN (YK (KN (no λh=>by obtain⟨p,e,_⟩:=it h;cases e))))) λz=>by cases z
    |tuple ys=>
     apply KD;rcases ys with _|⟨a,_|⟨t,_|⟨u,r⟩⟩⟩
     .exact Ko (b:=C5) (K1 (ZU (UC C3) C3) (YJ (UU (K9 C3 Ti) UK WR))) (λ_=>Kx UK (KN (YK (KN (no λh=>by obtain⟨p,e,_⟩:=it h;cases e))))) λz=>by cases z
     .exact Ko (b:=C5) (K1 (ZU (UC C3) C3) (YJ (UU (K9 C3 Ti) UK WR))) (λ_=>Kx UK (KN (YK (KN (no λh=>by obtain⟨p,e,_⟩:=it h;cases e))))) λz=>by cases z
     .refine Ko (b:=!whB a) (K1 (ZU (UC C3) C3) (K1 (UU (K9 C3 Ti) UK WR) (Z0 (Yp (Kn (UH (Kl C3 UK (show oIx (.tuple [a,t]) (.int 0)=O a from rfl)) UO) C3 (Ph a)))))) (λz=>Kx UK (KN (YK (KN (no λh=>?_))))) λz=>KL (KG ?_)
      .obtain⟨p,e,_⟩:=it h
       injection e with e;injection e with e _;rw[e]at z;cases z
      cases a with
      |int i=>
       let S5:Option Sl:=O (.pub (.int i))
       let S6:Option Sl:=O (.pub t)
       let R:UA:=[S0,S1,S2,SA,S4,S5,S6,C4,C4]
       refine U1 (ρ1:=R) (RJ (UC C3) (Zv C3 (Kp (UV (Qa C3) C3) (Kp (UV (Qa C3) C3) Zw)))) ?_;obtain⟨sm1,sm2⟩:=hsm _ hxm _ _ C3
       have key2:∃b,mOr (Kh (oIB λi j=>decide (i<j)) 5 (UE (.int 0))) (mOr (Kh (oIB λi j=>decide (j<=i)) 5 (K0 1)) (mOr (Zs oIn (Uz 5) 3) (Kh oEq 6 (UJ 1 (Uz 5))))) R=.ok b R/\(b=C5->¬IsW cs ls ws (.list xs))/\(b=C6->∃n:Nat,i=n/\n<ws.length/\n∉W.map Prod.fst/\∀o,t=UI o->o≠ws.getD n C4):=by
        by_cases h1:i<0
        .refine⟨C5,YJ (K8 C3 UK (by rw[Xw,QU h1])),λ_ h=>?_,λz=>by cases z⟩
         obtain⟨p,e,_⟩:=it h;injection e with e;injection e with e _;injection e with e;omega
        obtain⟨n,rfl⟩:∃n:Nat,i=n:=⟨i.toNat,by omega⟩
        by_cases h2:(ws.length:Int)<=n
        .refine⟨C5,K1 (K8 C3 UK (by rw[Xw,QG h1])) (YJ (K8 C3 (K9 C3 BB) (by rw[Xw,QU h2]))),λ_ h=>?_,λz=>by cases z⟩
         obtain⟨p,e,⟨o,ho,_⟩,_⟩:=it h;injection e with e;injection e with e _;injection e with e
         have:=(Qg.mp ho).1;omega
        by_cases h3:A.contains (n:Int)=C5
        .refine⟨C5,K1 (K8 C3 UK (by rw[Xw,QG h1])) (K1 (K8 C3 (K9 C3 BB) (by rw[Xw,QG h2])) (YJ (Tg (UC C3) C3 (by rw[Ta,h3])))),λ_ h=>?_,λz=>by cases z⟩
         obtain⟨p,e,_,hp⟩:=it h;injection e with e;injection e with e _;injection e with e;have e:n=p.1:=by omega
         subst e;obtain⟨q,hq,e⟩:=List.mem_map.mp (show((p.1:Nat):Int)∈A by simpa using h3);exact hp (Qx.mpr ⟨q,hq,by omega⟩)
        have hn:n<ws.length:=by omega
        have hw:ws[n]?=O ws[n]:=Qb hn;have hix:oIx (UT ws) (.int ((n:Nat):Int))=O (UI ws[n]):=Kv (by rw[Qj,hw];rfl);obtain⟨b,hb⟩:=Eo (o:=ws[n]) ⟨sm1,sm2⟩;refine⟨b,K1 (K8 C3 UK (by rw[Xw,decide_eq_false h1])) (K1 (K8 C3 (K9 C3 BB) (by rw[Xw,decide_eq_false h2])) (K1 (Tg (UC C3) C3 (by rw[Ta];simpa using h3)) (K8 C3 (Kl C3 (UC C3) hix) hb))),λzb h=>?_,λzb=>⟨n,rfl,hn,λhm=>h3 ?_,λo e=>?_⟩⟩
        .obtain⟨p,e,⟨o,ho,hne,_⟩,_⟩:=it h
         injection e with e;injection e with e e2;injection e with e;injection e2 with e2;have e:n=p.1:=by omega
         subst e;rw[e2,V5,zb]at hb;rw[hw]at ho;cases ho;exact hne (Qa (Qu hb))
        .obtain⟨q,hq,e⟩:=Qx.mp hm
         have:((n:Nat):Int)∈A:=Qx.mpr ⟨q,hq,by omega⟩;simpa using this
        .rw[e,V5,zb]at hb
         rw[YY hw];exact JA (Qu hb)
       obtain⟨b2,AB,hT,hF⟩:=key2;apply KD;refine Ko AB (λz=>Kx UK (KN (YK (KN (no (hT z)))))) λz=>KL (KG ?_)
       obtain⟨n,rfl,hn,hnm,ho⟩:=hF z;have nn:UL (λd=>!isNon d) (Uz 6) R=.ok (!isNon t) R:=VR (UC C3) C3;have hnl:n<ls.length:=by omega
       have hs':ls[n]?=O ls[n]:=Qb hnl;apply KD;refine Ko (b:=!isNon t && !whB t) (ρ1:=R) (T7 nn λ_=>Z0 (Yp (Kn (UH (UC C3) UO) C3 (Ph t)))) (λz=>Kx UK (KN (YK (KN (no λh=>?_))))) λz=>KL (KG ?_)
       .obtain⟨p,e,_⟩:=it h
        injection e with e;injection e with _ e;injection e with e;rw[e]at z
        cases h2:p.2<;>rw[h2]at z<;>cases z
       obtain⟨o,rfl⟩:∃o,t=UI o:=by
        cases t with
        |none=>exact⟨C4,rfl⟩
        |int u=>exact⟨O u,rfl⟩
        |_=>cases z
       have hfl:ls[n].flatten.length<64:=by have:=Te (g.rk ls[n] (Jc hnl));omega
       apply KD;refine Ko (b:=!o.all λu=>decide (u∈ls[n].flatten)) (ρ1:=R) (Pi nn (λz=>?_) λz=>?_) (λz=>Kx UK (KN (YK (KN (no λh=>?_))))) λz=>KL (KG ?_)
       .cases o with
        |none=>cases z
        |some u=>exact K8 C3 (Kn (UH (UC C3) (UH (UC C3) UO)) C3 (OF hs' hfl)) (by
          show Zf (.int u) _=_;unfold Zf;rw[Ta];show O (!(Zo ls[n].flatten).contains u)=O (!decide (u∈ls[n].flatten))
          congr 2
          rw[JX,Jh,Jj];exact(YL ls[n].flatten).mem_iff)
       .cases o with
        |none=>rfl
        |some u=>cases z
       .obtain⟨p,e,⟨o',ho',_,hq⟩,_⟩:=it h
        injection e with e;injection e with e e2;injection e with e;injection e2 with e2;have e:n=p.1:=by omega
        subst e;have e2:o=p.2:=by have:=JM oD e2;rw[WI,WI]at this;exact Qu this
        subst e2;cases h2:p.2 with
        |none=>rw[h2]at z;cases z
        |some u=>
         obtain⟨j,rs,hj,e,hm⟩:=Vw (hq u h2);have e:p.1=j:=by have:((p.1:Nat):Int)=((0+j:Nat):Int):=e;omega
         subst e;rw[hs']at hj;cases hj;rw[h2]at z;have z:(!decide (u∈ls[p.1].flatten))=C5:=z;rw[QU hm]at z;cases z
       have hmn:MvQ (Kt 0 ls) ws (n,o):=(N0 hl hnl).mp (by
        unfold moB;rw[WI]
        show(!decide (o=ws.getD n C4)&&o.all λu=>decide (u∈(ls.getD n []).flatten))=C5
        rw[QG (ho o C3),Q2,hs'];rw[Bool.not_eq_false']at z;exact z)
       refine ZX (Xv C3 (UC C3) C3 (by rw[Qd,Qd];omega) C3) (Zu ⟨W++[(n,o)],S4,S5,S6,?_,?_,λp hp=>?_,?_⟩)
       .rw[QK,QK];rfl
       .rw[BY,htk,QK];rfl
       .rcases QF.mp hp with hp|hp
        .exact B2 p hp
        .cases Qw.mp hp;exact hmn
       .rw[QK]
        exact Q1.mpr ⟨hnd,Jx.mpr ⟨(λh=>by cases h),JP⟩,λa ha b hb e=>by cases Qw.mp hb;have e:a=n:=e;subst e;exact hnm ha⟩
      |_=>cases z
     .exact Ko (b:=C5) (K1 (ZU (UC C3) C3) (YJ (UU (K9 C3 Ti) UK (by rw[WR,QG (by rw[Qz,Qz,Qz];omega)];rfl)))) (λ_=>Kx UK (KN (YK (KN (no λh=>by obtain⟨p,e,_⟩:=it h;cases e))))) λz=>by cases z
    |_=>apply KD;exact Ko (b:=C5) (YJ (ZU (UC C3) C3)) (λ_=>Kx UK (KN (YK (KN (no λh=>by obtain⟨p,e,_⟩:=it h;cases e))))) λz=>by cases z
   case hend=>
    rintro ρ ⟨W,x4,x5,x6,rfl,htk,B2,hnd⟩;refine KG ?_;rw[List.take_length]at htk;subst htk;rw[Qd]at hx;have hW0:W≠[]:=λe=>hne (by rw[e];rfl)
    have hlt:∀p∈W,p.1<ws.length:=λp hp=>by obtain⟨o,ho,_⟩:=B2 p hp;exact(Qg.mp ho).1
    have isw:IsW cs ls ws (.list (W.map U6)) ↔ WayQ cs (Kt 0 ls) ws W:=⟨λ⟨U,e,hU⟩=>by injection e with e;rw[Oi e];exact hU,λh=>⟨W,rfl,h⟩⟩
    let SA:Option Sl:=O (.own ((W.map λp=>((p.1:Nat):Int)).map int))
    have Bq:Ka [.list (W.map U6)]=O (.int W.length):=by rw[ZH,Qd]
    apply KD;apply Yj (λi ρ=>(∃x7,ρ=[S0,S1,S2,SA,x4,x5,x6,x7,C4])/\∀(k:Nat) p q,k<i->W[k]?=O p->W[k+1]?=O q->p.2≠C4/\ws[q.1]?=O p.2)
    case h1=>exact Pv (UH UK (UH (K9 C3 Bq) UO)) (P7 (by omega) (by omega) (by omega) (by omega))
    case h0=>exact⟨⟨_,rfl⟩,λk _ _ h=>absurd h (Nat.not_lt_zero k)⟩
    case hst=>
     rintro k d ρ hk ⟨⟨x7,rfl⟩,hin⟩;obtain⟨rfl,Ab⟩:=WU hk;have hk1:k+1<W.length:=by omega
     have hp:W[k]?=O W[k]:=Qb _;have hq:W[k+1]?=O W[k+1]:=Qb hk1;have e1:(1:Int)+(k:Nat)=((k+1:Nat):Int):=by omega
     refine⟨_,UV (Qa C3) C3,?_⟩;rw[e1];unfold RY
     have Ax:oIx (.list (W.map U6)) (.int (((k+1:Nat):Int)-1))=O (U6 W[k]):=by
      have e:(((k+1:Nat):Int)-1)=((k:Nat):Int):=by omega
      rw[e];exact Kv (by rw[Qj,hp];rfl)
     have Aw:oIx (.list (W.map U6)) (.int ((k+1:Nat):Int))=O (U6 W[k+1]):=Kv (by rw[Qj,hq];rfl);have Bx:=hlt W[k+1] (Jc _);have hww:ws[(W[k+1]).1]?=O (ws[(W[k+1]).1]'(Bx)):=Qb _;have B4:oIx (UT ws) (.int (((W[k+1]).1:Nat):Int))=O (UI (ws[(W[k+1]).1]'(Bx))):=Kv (by rw[Qj,hww];rfl)
     let S7:Option Sl:=O (.pub (.int ((k+1:Nat):Int)))
     refine Ko (b:=isNon (UI (W[k]).2) || !decide (ws[(W[k+1]).1]'(Bx)=(W[k]).2)) (ρ1:=[S0,S1,S2,SA,x4,x5,x6,S7,C4]) (Ru (K4 (k:=isNon) (UU (Kl C3 (UU (UC C3) UK Tc) Ax) UK (show oIx (U6 W[k]) (.int 1)=O (UI (W[k]).2)from rfl))) λ_=>UU (Kl C3 (UU (Kl C3 (UC C3) Aw) UK (show oIx (U6 W[k+1]) (.int 0)=O (.int ((W[k+1]).1:Nat))from rfl)) B4) (UU (Kl C3 (UU (UC C3) UK Tc) Ax) UK (show oIx (U6 W[k]) (.int 1)=O (UI (W[k]).2)from rfl)) V4) (λz=>Kx UK (YK (KN (no λh=>?_)))) λz=>KL (Zu ⟨⟨_,rfl⟩,?_⟩)
     .obtain⟨h1,h2⟩:=(isw.mp h).lnk k _ _ hp hq
      rw[hww]at h2;rw[QU (Qu h2)]at z;cases h3:(W[k]).2 with
      |none=>exact absurd h3 h1
      |some t=>rw[h3]at z;cases z
     .rw[Bool.or_eq_false_iff]at z
      intro j p q hj BJ BD;by_cases e:j=k
      .subst e
       rw[hp]at BJ;rw[hq]at BD;cases BJ;cases BD;refine⟨λe=>?_,?_⟩
       .rw[e]at z;cases z.1
       .rw[hww]
        by_cases e:ws[(W[j+1]).1]'(Bx)=(W[j]).2
        .exact JM O e
        .rw[QG e]at z;cases z.2
      .exact hin j p q (by omega) BJ BD
    case hend=>
     rintro ρ ⟨⟨x7,rfl⟩,hin⟩;refine KG ?_
     have lnk:LnkQ ws W:=λk p q hp hq=>hin k p q (by
      have:=(Qg.mp hq).1;rw[Y2]
      omega) hp hq
     obtain⟨p0,r0,hW1⟩:∃p r,W=p::r:=by
      cases hW':W with
      |nil=>exact absurd hW' hW0
      |cons x r=>exact⟨x,r,rfl⟩
     obtain⟨q,hgl⟩:∃q,W.getLast?=O q:=by
      cases h:W.getLast? with
      |none=>exact absurd (List.getLast?_eq_none_iff.mp h) hW0
      |some q=>exact⟨q,rfl⟩
     have hhd:W.head?=O p0:=by rw[hW1];rfl
     have hqm:q∈W:=JQ hgl;have hpm:p0∈W:=by rw[hW1];exact Qh
     have hixq:oIx (.list (W.map U6)) (.int (-1))=O (U6 q):=Pl (by rw[List.getLast?_map,hgl];rfl);have hix0:oIx (.list (W.map U6)) (.int 0)=O (U6 p0):=Kv (j:=0) (by rw[hW1];rfl)
     let S8:Option Sl:=O (.pub (UI q.2))
     let R:UA:=[S0,S1,S2,SA,x4,x5,x6,x7,S8]
     refine U1 (ρ1:=R) (KQ (UU (Kl C3 (V2 UK) hixq) UK (show oIx (U6 q) (.int 1)=O (UI q.2)from rfl)) (Qa C3) C3) ?_;obtain⟨o0,ho0,_⟩:=B2 p0 hpm;have B4:oIx (UT ws) (.int ((p0.1:Nat):Int))=O (UI o0):=Kv (by rw[Qj,ho0];rfl);have Ao:∀{p' q':Nat×Bf},W.head?=O p'->W.getLast?=O q'->p'=p0/\q'=q:=λh1 h2=>by rw[hhd]at h1;rw[hgl]at h2;exact⟨(Qu h1).symm,(Qu h2).symm⟩
     apply KD;refine Ko (b:=isNon (UI q.2) || decide (q.2=o0)) (ρ1:=R) (Ru (K4 (k:=isNon) (UC C3)) λ_=>K8 C3 (Kl C3 (UU (Kl C3 UK hix0) UK (show oIx (U6 p0) (.int 0)=O (.int (p0.1:Nat))from rfl)) B4) V5) (λz=>Kx UK (KN ⟨_,rfl,C5,rfl,λ_=>isw.mpr ⟨hW0,B2,hnd,lnk,λp' q' h1 h2=>?_⟩,λ_=>rfl⟩)) λz=>KL (KG ?_)
     .obtain⟨rfl,rfl⟩:=Ao h1 h2
      rw[Bool.or_eq_true,Jh]at z;rcases z with z|z
      .refine .inl ?_
       cases h2:q'.2 with
       |none=>rfl
       |some t=>rw[h2]at z;cases z
      .exact .inr (.inl (by rw[ho0,z]))
     rw[Bool.or_eq_false_iff]at z;cases hq2:q.2 with
     |none=>rw[hq2]at z;cases z.1
     |some t=>
     obtain⟨_,_,_,hqq⟩:=B2 q hqm;obtain⟨i,rs,hi,_,hmem⟩:=Vw (hqq t hq2);obtain⟨r,hr1,hr2⟩:=JS.mp hmem;have hr:=(g.rk rs (Qt hi)).there r hr1 t hr2;obtain⟨n,rfl⟩:∃n:Nat,t=n:=⟨t.toNat,by omega⟩
     have hn:n<cs.length:=by omega
     have hixc:oIx (.list (cs.map int)) (.int ((n:Nat):Int))=O (.int cs[n]):=Kv (by rw[Qj,Qb hn];rfl);have h8:R[8]?=O (O (.pub (.int ((n:Nat):Int)))):=by show O (O (Sl.pub (UI q.2)))=_;rw[hq2];rfl
     refine Kx (K4 (UU (FH (UC C3) (UH (UC h8) UO) Cc) (UU (Kl C3 UK Ro) (UC h8) hixc) Xw)) ⟨_,rfl,_,rfl,?_⟩;rw[Jh,isw];constructor
     .intro h
      refine⟨hW0,B2,hnd,lnk,λp' q' h1 h2=>?_⟩;obtain⟨rfl,rfl⟩:=Ao h1 h2;exact .inr (.inr ⟨n,hq2,_,Qb hn,h⟩)
     .intro h
      rcases h.fin p0 q hhd hgl with e|e|⟨t',e,c,hc,hlt⟩
      .rw[hq2]at e;cases e
      .rw[ho0]at e
       rw[QU (Qu e).symm]at z;cases z.2
      .rw[hq2]at e
       have e:n=t':=by have:=Qu e;omega
       subst e;rw[Qb hn]at hc;cases hc;exact hlt
  |_=>exact Ko (b:=C5) (YJ (ZU (UC C3) C3)) (λ_=>Kx UK (KN (no λ⟨W,e,_⟩=>by cases e))) λz=>by cases z
 obtain⟨r,h,b,rfl,hb⟩:=key;exact⟨b,h,hb⟩
end
def YA(f:Nat->Bj):Prop:=∀a b c,f a=O c->f b=O c->a=b
structure Xp(f:Nat->Bj)(b:Nat)(A:Bc):Prop where
 hd:A.head?=O b
 st:∀(k:Nat) x y,A[k]?=O x->A[k+1]?=O y->f x=O y
 ne:∀(k:Nat) x,A[k+1]?=O x->x≠b
structure EndF(f:Nat->Bj)(b:Nat)(A:Bc):Prop where
 wk:Xp f b A
 fin:∀l,A.getLast?=O l->f l=C4∨f l=O b
theorem Oh{f:Nat->Bj}{b:Nat}{A:Bc}(hi:YA f)(w:Xp f b A):∀(i j:Nat) x,i<j->A[i]?=O x->A[j]?≠O x
 |0,j,x,h,e1,e2=>by
  obtain⟨m,rfl⟩:∃m,j=m+1:=⟨j-1,by omega⟩
  have:x=b:=by have:=w.hd;rw[JL,e1]at this;exact Qu this
  exact w.ne m x e2 this
 |i+1,j,x,h,e1,e2=>by
  obtain⟨m,rfl⟩:∃m,j=m+1:=⟨j-1,by omega⟩
  have l1:=(Qg.mp e1).1;have l2:=(Qg.mp e2).1;have h1:A[i]?=O A[i]:=Qb _;have h2:A[m]?=O A[m]:=Qb _;have e:=hi _ _ x (w.st i _ _ h1 e1) (w.st m _ _ h2 e2);exact Oh hi w i m A[i] (by omega) h1 (by rw[h2,e])
theorem TD{f:Nat->Bj}{b:Nat}{A:Bc}(hi:YA f)(w:Xp f b A):A.Nodup:=by refine List.pairwise_iff_getElem.mpr λi j h1 h2 hij e=>?_;exact Oh hi w i j A[i] hij (Qb h1) (by rw[e];exact Qb h2)
def Rm(f:Nat->Bj)(M:Bc):Prop:=∀c d,c∉M->f c=O d->d∉M
def Nv(f:Nat->Bj)(M:Bc):Prop:=∀c d,c∈M->f c=O d->d∈M
theorem OC{f:Nat->Bj}{b:Nat}{A M:Bc}(hs:Rm f M)(w:Xp f b A)(hb:b∉M):∀a∈A,a∉M:=by
 have key:∀(k:Nat) x,A[k]?=O x->x∉M:=λk=>by
  induction k with
  |zero=>intro x e;have:=w.hd;rw[JL,e]at this;rw[Qu this];exact hb
  |succ k ih=>intro x e;have l:=(Qg.mp e).1;have h1:A[k]?=O (A[k]'(by omega)):=Qb _;exact hs _ x (ih _ h1) (w.st k _ _ h1 e)
 intro a ha;obtain⟨k,hk⟩:=Je.mp ha;exact key k a hk
theorem LS{f:Nat->Bj}{b:Nat}{A:Bc}(w:EndF f b A){a d:Nat}(ha:a∈A)(h:f a=O d):d∈A:=by
 obtain⟨k,hk⟩:=Je.mp ha;have l:=(Qg.mp hk).1;by_cases e:k+1<A.length
 .have h1:A[k+1]?=O A[k+1]:=Qb e
  have:=w.wk.st k _ _ hk h1;rw[h]at this;rw[Qu this];exact Jc e
 .have hl:A.getLast?=O a:=by
   rw[JC,←hk]
   congr 1
   omega
  rcases w.fin a hl with e|e
  .rw[e]at h;cases h
  .rw[h]at e
   rw[Qu e];exact List.mem_of_mem_head? (by rw[w.wk.hd];rfl)
theorem GX{f:Nat->Bj}{b:Nat}{A:Bc}(hi:YA f)(w:Xp f b A){c d:Nat}(hd:d∈A)(h:f c=O d):c∈A∨d=b:=by
 obtain⟨k,hk⟩:=Je.mp hd;have l:=(Qg.mp hk).1;cases k with
 |zero=>have:=w.hd;rw[JL,hk]at this;exact .inr (Qu this)
 |succ k=>have h1:A[k]?=O (A[k]'(by omega)):=Qb _;have:=hi _ _ d (w.st k _ _ h1 hk) h;exact .inl (this ▸ Jc _)
structure MetF(f:Nat->Bj)(M:Bc):Prop where
 nd:M.Nodup
 si:Rm f M
 so:Nv f M
theorem GW{f:Nat->Bj}:MetF f []:=⟨JP,(λ_ _ _ _ h=>by cases h),λ_ _ h=>by cases h⟩
theorem GV{f:Nat->Bj}{b:Nat}{A M:Bc}(hi:YA f)(m:MetF f M)(hb:b∉M)(w:EndF f b A)(hc:(∀c,f c≠O b) ∨ ∀l,A.getLast?=O l->f l=O b):MetF f (M++A) where
 nd:=Q1.mpr ⟨m.nd,TD hi w.wk,λa ha x hx e=>OC m.si w.wk hb x hx (e ▸ ha)⟩
 si:=λc d hc' h hd=>by
  rw[QF,not_or]at hc';rcases QF.mp hd with hd|hd
  .exact m.si c d hc'.1 h hd
  .rcases GX hi w.wk hd h with e|rfl
   .exact hc'.2 e
   .rcases hc with hc|hc
    .exact hc c h
    .cases hA:A.getLast? with
     |none=>rw[List.getLast?_eq_none_iff]at hA;rw[hA]at hd;cases hd
     |some l=>exact hc'.2 (hi _ _ _ (hc l hA) h ▸ JQ hA)
 so:=λc d hc' h=>by
  rcases QF.mp hc' with hc'|hc'
  .exact QI _ (m.so c d hc' h)
  .exact Qr _ (LS w hc' h)
theorem XE:∀(a b:Bc),a.Nodup->(∀x∈a,x∈b)->a.length<=b.length
 |[],_,_,_=>JN _
 |x::a,b,hn,h=>by
  have hx:=h x Qh;have hn':=Jx.mp hn
  have:=XE a (b.erase x) hn'.2 λy hy=>by
   have hne:y≠x:=λe=>hn'.1 (e ▸ hy)
   exact(List.mem_erase_of_ne hne).mpr (h y (Qm _ hy))
  rw[List.length_erase_of_mem hx]at this;have:=List.length_pos_of_mem hx;rw[Qz];omega
theorem Pg{f:Nat->Bj}:∀{U:Bc}{u:Nat},u∈U->f u=C4->(U.filterMap f).length<U.length
 |x::U,u,h,e=>by
  rcases QM.mp h with rfl|h
  .rw[List.filterMap_cons_none e,Qz]
   have:=List.length_filterMap_le f U;omega
  .have ih:=Pg h e
   rw[JT];split
   .rw[Qz];omega
   .rw[Qz,Qz];omega
theorem LR{f:Nat->Bj}{D M:Bc}(hD:D.Nodup)(hf:∀a b,f a=O b->a∈D)(m:MetF f M)(h:∀u∈D,u∉M->∃c,f c=O u):∀u∈D,u∉M->f u≠C4:=by
 intro u hu hm e
 let U:=D.filter λx=>!M.contains x
 have hU:∀{x},x∈U ↔ x∈D/\x∉M:=by intro x;show x∈D.filter _ ↔ _;rw[Jk];simp
 have h1:U.length<=(U.filterMap f).length:=XE U _ (hD.filter _) λx hx=>by obtain⟨hxD,hxM⟩:=hU.mp hx;obtain⟨c,hc⟩:=h x hxD hxM;exact List.mem_filterMap.mpr ⟨c,hU.mpr ⟨hf c x hc,λhcm=>hxM (m.so c x hcm hc)⟩,hc⟩
 have h2:=Pg (f:=f) (hU.mpr ⟨hu,hm⟩) e;omega
noncomputable def mvL(one other:LO):Bc:=(Uj one.length).filter λi=>!decide (one.getD i C4=other.getD i C4)
noncomputable def tkL(one other:LO)(t:Int):Bc:=(mvL one other).filter λi=>decide (other.getD i C4=O t)
noncomputable def gvL(one other:LO)(t:Int):Bc:=(mvL one other).filter λi=>decide (one.getD i C4=O t)
noncomputable def prL(one other:LO)(n:Nat):List (Nat×Nat):=(Uj n).flatMap λt:Nat=>(tkL one other (t:Int)).zip (gvL one other (t:Int))
noncomputable def Kc(ps:List (Nat×Nat))(a:Nat):Bj:=(ps.find? λp=>decide (p.1=a)).map (·.2)
section
variable{one other:LO}{n:Nat}
theorem YX{i:Nat}:i∈mvL one other ↔ i<one.length/\one.getD i C4≠other.getD i C4:=by unfold mvL;rw[Jk,QX];simp
theorem Vv:(mvL one other).Nodup:=List.nodup_range.filter _
theorem X4{t:Int}{i:Nat}:i∈tkL one other t ↔ i∈mvL one other/\other.getD i C4=O t:=by unfold tkL;rw[Jk,Jh]
theorem Sf{t:Int}{i:Nat}:i∈gvL one other t ↔ i∈mvL one other/\one.getD i C4=O t:=by unfold gvL;rw[Jk,Jh]
theorem Og{α β:Type}:∀{as:List α}{bs:List β}{p:α×β},p∈as.zip bs->∃k:Nat,as[k]?=O p.1/\bs[k]?=O p.2
 |[],_,_,h=>by cases h
 |_::_,[],_,h=>by cases h
 |a::as,b::bs,p,h=>by
  rcases QM.mp h with rfl|h
  .exact⟨0,rfl,rfl⟩
  .obtain⟨k,h1,h2⟩:=Og h
   exact⟨k+1,h1,h2⟩
theorem X3{p:Nat×Nat}(h:p∈prL one other n):∃t:Nat,t<n/\∃k:Nat,(tkL one other t)[k]?=O p.1/\(gvL one other t)[k]?=O p.2:=by obtain⟨t,ht,hp⟩:=List.mem_flatMap.mp h;obtain⟨k,h1,h2⟩:=Og hp;exact⟨t,QX.mp ht,k,h1,h2⟩
theorem Of{l:Bc}(h:l.Nodup){i j x:Nat}(h1:l[i]?=O x)(h2:l[j]?=O x):i=j:=by obtain⟨l1,e1⟩:=Qg.mp h1;obtain⟨l2,e2⟩:=Qg.mp h2;exact(List.getElem_inj h).mp (e1.trans e2.symm)
theorem LQ{p q:Nat×Nat}(hp:p∈prL one other n)(hq:q∈prL one other n)(e:p.1=q.1):p=q:=by
 obtain⟨t,_,k,a1,a2⟩:=X3 hp;obtain⟨u,_,m,b1,b2⟩:=X3 hq;have h1:=(X4.mp (Qt a1)).2;have h2:=(X4.mp (Qt b1)).2;rw[e,h2]at h1;have:t=u:=by have:=Qu h1;omega
 subst this;have:=Of (Vv.filter _) a1 (by rw[e];exact b1);subst this;rw[a2]at b2;exact Prod.ext e (Qu b2)
theorem LN{p q:Nat×Nat}(hp:p∈prL one other n)(hq:q∈prL one other n)(e:p.2=q.2):p=q:=by
 obtain⟨t,_,k,a1,a2⟩:=X3 hp;obtain⟨u,_,m,b1,b2⟩:=X3 hq;have h1:=(Sf.mp (Qt a2)).2;have h2:=(Sf.mp (Qt b2)).2;rw[e,h2]at h1;have:t=u:=by have:=Qu h1;omega
 subst this;have:=Of (Vv.filter _) a2 (by rw[e];exact b2);subst this;rw[a1]at b1;exact Prod.ext (Qu b1) e
theorem Vu{ps:List (Nat×Nat)}{a b:Nat}(h:Kc ps a=O b):(a,b)∈ps:=by
 unfold Kc at h;cases e:ps.find? λp=>decide (p.1=a)with
 |none=>rw[e]at h;cases h
 |some p=>
  rw[e]at h;cases h;have h1:=List.mem_of_find?_eq_some e;have h2:p.1=a:=by have:=List.find?_some e;simpa using this
  rw[←h2];exact h1
theorem OB{ps:List (Nat×Nat)}{a:Nat}(h:Kc ps a=C4):∀b,(a,b)∉ps:=λb hb=>by unfold Kc at h;rw[Option.map_eq_none_iff,List.find?_eq_none]at h;exact h _ hb (QU C3)
theorem V9:YA (Kc (prL one other n)):=λa b c h1 h2=>JM Prod.fst (LN (Vu h1) (Vu h2) C3)
theorem Vm{a b:Nat}(h:Kc (prL one other n) a=O b):a∈mvL one other/\b∈mvL one other/\∃t:Nat,other.getD a C4=O (t:Int)/\one.getD b C4=O (t:Int):=by obtain⟨t,_,k,h1,h2⟩:=X3 (Vu h);have g1:=X4.mp (Qt h1);have g2:=Sf.mp (Qt h2);exact⟨g1.1,g2.1,t,g1.2,g2.2⟩
theorem RE{α β:Type}:∀{as:List α}{bs:List β}{k:Nat}{a:α}{b:β},as[k]?=O a->bs[k]?=O b->(a,b)∈as.zip bs
 |_::_,_::_,0,_,_,h1,h2=>by cases h1;cases h2;exact Qh
 |_::_,_::_,k+1,_,_,h1,h2=>List.mem_cons_of_mem _ (RE (k:=k) (by simpa using h1) (by simpa using h2))
theorem GU{a t:Nat}(ht:t<n)(ha:a∈mvL one other)(h:other.getD a C4=O (t:Int))(hn:Kc (prL one other n) a=C4):(gvL one other t).length<(tkL one other t).length:=by obtain⟨k,hk⟩:=Je.mp (X4.mpr ⟨ha,h⟩);have l:=(Qg.mp hk).1;apply Decidable.byContradiction;intro hc;have hb:(gvL one other t)[k]?=O ((gvL one other t)[k]'(by omega)):=Qb _;exact OB hn _ (List.mem_flatMap.mpr ⟨t,QX.mpr ht,RE hk hb⟩)
theorem Ra(x:Bf):∀(l:LO),l.count x=((Uj l.length).filter λi=>decide (l.getD i C4=x)).length
 |[]=>rfl
 |o::l=>by
  rw[Qz,List.range_succ_eq_map,List.filter_cons,JD,List.count_cons,Ra x l];have e:((λi=>decide ((o::l).getD i C4=x)) ∘ Nat.succ)=λi=>decide (l.getD i C4=x):=rfl;rw[e];show _=(if decide (o=x)=C5 then _ else _:Bc).length
  by_cases h:o=x
  .rw[if_pos (by simpa using h),if_pos (decide_eq_true h),List.length_cons,List.length_map]
  .rw[if_neg (by simpa using h),if_neg (by simpa using h),List.length_map,Nat.add_zero]
theorem SZ{p q:Nat->Bool}:∀(l:Bc),(l.filter p).length=(l.filter λi=>q i&&p i).length+(l.filter λi=>!q i&&p i).length
 |[]=>rfl
 |x::l=>by have ih:=SZ (p:=p) (q:=q) l;cases hp:p x<;>cases hq:q x<;>simp[hp,hq]<;>omega
theorem EO(hl:one.length=other.length)(t:Int):other.count (O t)+(gvL one other t).length=one.count (O t)+(tkL one other t).length:=by
 have e1:=SZ (p:=λi=>decide (other.getD i C4=O t)) (q:=λi=>!decide (one.getD i C4=other.getD i C4)) (Uj one.length);have e2:=SZ (p:=λi=>decide (one.getD i C4=O t)) (q:=λi=>!decide (one.getD i C4=other.getD i C4)) (Uj one.length);have c1:=Ra (O t) other;have c2:=Ra (O t) one;rw[←hl]at c1;have t1:(tkL one other t).length=((Uj one.length).filter λi=>(!decide (one.getD i C4=other.getD i C4))&&decide (other.getD i C4=O t)).length:=by unfold tkL mvL;rw[List.filter_filter];congr 1;congr 1;funext i;exact Bool.and_comm _ _
 have t2:(gvL one other t).length=((Uj one.length).filter λi=>(!decide (one.getD i C4=other.getD i C4))&&decide (one.getD i C4=O t)).length:=by unfold gvL mvL;rw[List.filter_filter];congr 1;congr 1;funext i;exact Bool.and_comm _ _
 have e3:((Uj one.length).filter λi=>!!decide (one.getD i C4=other.getD i C4)&&decide (other.getD i C4=O t))=(Uj one.length).filter λi=>!!decide (one.getD i C4=other.getD i C4)&&decide (one.getD i C4=O t):=by
  congr 1
  funext i;by_cases h:one.getD i C4=other.getD i C4
  .rw[h]
  .rw[QG h];rfl
 rw[e3]at e1;omega
end
noncomputable def fwD(p:Nat×Nat):D×D:=(.int (p.1:Nat),.int (p.2:Nat))
noncomputable def ntD(l:Bc):C7:=(l.map λi:Nat=>(i:Int)).map int
theorem KP(l:Bc):ntD l=l.map λi:Nat=>int (i:Int):=by unfold ntD;rw[Q7];rfl
section
variable{one other:LO}
theorem Oe(hl:one.length=other.length)(h7:one.length<=7):Yg [UT one,UT other]=O (.list (ntD (mvL one other))):=by
 let S0:Option Sl:=O (.pub (UT one))
 let S1:Option Sl:=O (.pub (UT other))
 refine Yi (ρ:=[S0,S1]) C3 ?_;unfold Wo
 have hc:Kz (gT 2 (gNC (gN 2) (gNC (gN 3) (gN0)))) (Kh oNe 3 (UJ 1 (Uz 2))) (Uz 2) (ZF 0 (one.map UI)) (U0 [S0,S1]++Uk 2 C4) []=O (ntD (mvL one other)):=by
  have hq:ZF 0 (one.map UI)=(Uj one.length).map λi=>.tuple [.int (i:Nat),UI (one.getD i C4)]:=by
   refine List.ext_getElem? λi=>?_
   by_cases hi:i<one.length
   .rw[Qj,List.getElem?_range hi]
    have hx:(ZF 0 (one.map UI))[i]?=O ((ZF 0 (one.map UI))[i]'(by rw[VC,Qd];exact hi)):=Qb _;obtain⟨x,h1,h2⟩:=Vx hx;rw[hx,h2,JH];rw[Qj,Qb hi]at h1;cases h1;show _=O (PyData.tuple [.int (i:Nat),UI (one.getD i C4)]);rw[YY (Qb hi)]
   .rw[Jd (by rw[VC,Qd];omega),Jd (by rw[Qd,QW];omega)]
  rw[hq,YM (λd=>match d with | .tuple [.int i,_]=>!decide (one.getD i.toNat C4=other.getD i.toNat C4)|_=>C6) (λd=>match d with | .tuple [i,_]=>i|_=>.none) (λρ=>∃x y,ρ=[S0,S1,x,y])]
  .rw[Jb,JD,Q7,KP]
   rfl
  .rintro d hm ρ ⟨x,y,rfl⟩
   obtain⟨i,hi,rfl⟩:=Qx.mp hm;have hi:=QX.mp hi;have ho:other[i]?=O (other[i]'(by omega)):=Qb _;have hix:oIx (UT other) (.int ((i:Nat):Int))=O (UI (other.getD i C4)):=by rw[YY ho];exact Kv (by rw[Qj,ho];rfl)
   refine⟨_,Zv C3 (Kp (UV (Qa C3) C3) (Kp (UV (Qa C3) C3) Zw)),?_,λ_=>UC C3,_,_,rfl⟩;show Kh oNe 3 (UJ 1 (Uz 2)) _=.ok (!decide (one.getD ((i:Nat):Int).toNat C4=other.getD ((i:Nat):Int).toNat C4)) _;rw[Jf];exact K8 C3 (Kl C3 (UC C3) hix) V4
  .exact⟨C4,C4,rfl⟩
  .rw[Qd,QW,Q6];omega
 exact Kx (K4 (Y0 (V6 (UH (UC C3) UO) Th) hc)) C3
theorem Td(n:Nat):prL one other (n+1)=prL one other n++(tkL one other n).zip (gvL one other n):=by unfold prL;rw[List.range_succ,List.flatMap_append];show _++((tkL one other (n:Int)).zip (gvL one other (n:Int))++[])=_;rw[QS]
theorem Rf{α β:Type}:∀(as:List α)(bs:List β),((as.zip bs).map Prod.fst).Sublist as
 |[],_=>List.nil_sublist _
 |_::_,[]=>List.nil_sublist _
 |a::as,b::bs=>(Rf as bs).cons₂ a
theorem SY:∀n:Nat,((prL one other n).map Prod.fst).Nodup
 |0=>JP
 |n+1=>by rw[Td,QK];refine Q1.mpr ⟨SY n,(Rf _ _).nodup (Vv.filter _),λa ha b hb e=>?_⟩;obtain⟨p,hp,rfl⟩:=Qx.mp ha;obtain⟨t,ht,k,h1,_⟩:=X3 hp;have g1:=(X4.mp (Qt h1)).2;have g2:=(X4.mp ((Rf _ _).subset hb)).2;rw[←e,g1]at g2;have:=Qu g2;omega
theorem LM(h7:one.length<=7)(n:Nat):(prL one other n).length<=7:=by
 have h1:=XE _ (mvL one other) (SY (one:=one) (other:=other) n) λx hx=>by obtain⟨p,hp,rfl⟩:=Qx.mp hx;obtain⟨t,ht,k,h1,_⟩:=X3 hp;exact(X4.mp (Qt h1)).1
 rw[Qd]at h1;have h2:(mvL one other).length<=one.length:=by have:=Jr (λi=>!decide (one.getD i C4=other.getD i C4)) (Uj one.length);rw[QW]at this;exact this
 omega
theorem LK{ps:List (Nat×Nat)}{a b:Nat}(h:a∉ps.map Prod.fst):Z5 (ps.map fwD) (.inl (a:Int)) (.int (b:Nat))=(ps++[(a,b)]).map fwD:=by
 unfold Z5;rw[QE,QK]
 .rfl
 .intro hc
  rw[List.any_eq_true]at hc;obtain⟨q,hq,e⟩:=hc;obtain⟨p,hp,rfl⟩:=Qx.mp hq;have e:ZA (int (p.1:Nat))=O (.inl ((a:Nat):Int)):=Qa e;have e:O (Sum.inl ((p.1:Nat):Int))=O (Sum.inl (β:=Str) ((a:Nat):Int)):=e;have e:=Sum.inl.inj (Qu e);exact h (Qx.mpr ⟨p,hp,by omega⟩)
end
section
variable{one other:LO}
theorem Pf{ws:LO}{j:Nat}{L:Bc}{t:Int}{R:UA}(hL:L.length<=100)(hw:∀i∈L,i<ws.length)(I:UA->Prop)(h0:I R)
  (hI:∀ρ,I ρ->∀d,∃ρ1,gN 10 d ρ=O ρ1/\Uz 10 ρ1=.ok d ρ1/\(∀y,oIx (UT ws) d=O y->UJ j (Uz 10) ρ1=.ok y ρ1)/\Uz 5 ρ1=.ok (.int t) ρ1/\I (U0 ρ1)) :
  Kz (gN 10) (UF oEq (UJ j (Uz 10)) (Uz 5)) (Uz 10) (ntD L) R []=O (ntD (L.filter λi=>decide (ws.getD i C4=O t))):=by
 rw[YM (λd=>match d with | .int i=>decide (ws.getD i.toNat C4=O t)|_=>C6) (λd=>d) I]
 .rw[Jb,J6,KP,KP,JD]
  rfl
 .intro d hd ρ hρ
  obtain⟨ρ1,e1,e2,e3,e4,e5⟩:=hI ρ hρ d;rw[KP]at hd;obtain⟨i,hi,rfl⟩:=Qx.mp hd;have BR:=hw i hi;have ho:ws[i]?=O ws[i]:=Qb BR;have hix:oIx (UT ws) (.int ((i:Nat):Int))=O (UI ws[i]):=Kv (by rw[Qj,ho];rfl);refine⟨ρ1,e1,?_,λ_=>e2,e5⟩;show UF oEq _ _ ρ1=.ok (decide (ws.getD ((i:Nat):Int).toNat C4=O t)) ρ1;rw[Jf,YY ho];exact UU (e3 _ hix) e4 (V5 (b:=O t))
 .exact h0
 .rw[KP,Qd,Q6];omega
theorem CD{n:Nat}(hl:one.length=other.length)(h7:one.length<=7)(hn:n<=6):Xh [.int n,UT one,UT other]=O (.dict ((prL one other n).map fwD)):=by
 let S0:Option Sl:=O (.pub (.int n))
 let S1:Option Sl:=O (.pub (UT one))
 let S2:Option Sl:=O (.pub (UT other))
 let S3:Option Sl:=O (.pub (.list (ntD (mvL one other))))
 have Aq:(mvL one other).length<=7:=by have:=Jr (λi=>!decide (one.getD i C4=other.getD i C4)) (Uj one.length);rw[QW]at this;exact Qy this h7
 have hmw:∀i∈mvL one other,i<one.length:=λi hi=>(YX.mp hi).1;refine Yi (ρ:=[S0,S1,S2,C4,C4,C4,C4,C4,C4,C4]) C3 ?_;unfold Wn;refine U1 (ρ1:=[S0,S1,S2,S3,C4,C4,C4,C4,C4,C4]) (KQ (Kn (UH (UC C3) (UH (UC C3) UO)) C3 (Oe hl h7)) (Qa C3) C3) ?_;refine U1 (ρ1:=[S0,S1,S2,S3,O (.deep .dic (.dict [])),C4,C4,C4,C4,C4]) (So UK (Qa C3) C3) ?_;apply KD;apply Yj (λk ρ=>∃x5 x6 x7 x8 x9,ρ=[S0,S1,S2,S3,O (.deep .dic (.dict ((prL one other k).map fwD))),x5,x6,x7,x8,x9])
 case h1=>exact WS (UH (UC C3) UO) (WO (by omega) (by omega))
 case h0=>exact⟨_,_,_,_,_,rfl⟩
 case hst=>
  rintro k d ρ hk ⟨x5,x6,x7,x8,x9,rfl⟩;obtain⟨rfl,hkn⟩:=WU hk;rw[Int.zero_add];refine⟨_,UV (Qa C3) C3,?_⟩;unfold R4
  let S4:Option Sl:=O (.deep .dic (.dict ((prL one other k).map fwD)))
  let S5:Option Sl:=O (.pub (.int (k:Nat)))
  have c1:Kz (gN 10) (UF oEq (UJ 2 (Uz 10)) (Uz 5)) (Uz 10) (ntD (mvL one other)) (U0 [S0,S1,S2,S3,S4,S5,x6,x7,x8,x9]++Uk 1 C4) []=O (ntD (tkL one other k)):=
   Pf (by omega) (λi hi=>by have:=hmw i hi;omega) (λρ=>∃y4 y6 y7 y8 y9 x,ρ=[S0,S1,S2,S3,y4,S5,y6,y7,y8,y9,x]) ⟨_,_,_,_,_,C4,rfl⟩ λρ ⟨y4,y6,y7,y8,y9,x,e⟩ d=>by subst e;exact⟨_,UV (Qa C3) C3,UC C3,λy hy=>Kl C3 (UC C3) hy,UC C3,_,_,_,_,_,_,rfl⟩
  let S6:Option Sl:=O (.own (ntD (tkL one other k)))
  refine U1 (ρ1:=[S0,S1,S2,S3,S4,S5,S6,x7,x8,x9]) (Zc (Y0 (Z2 (UC C3) YZ) c1) (Qa C3) C3) ?_
  have c2:Kz (gN 10) (UF oEq (UJ 1 (Uz 10)) (Uz 5)) (Uz 10) (ntD (mvL one other)) (U0 [S0,S1,S2,S3,S4,S5,S6,x7,x8,x9]++Uk 1 C4) []=O (ntD (gvL one other k)):=
   Pf (by omega) hmw (λρ=>∃y4 y6 y7 y8 y9 x,ρ=[S0,S1,S2,S3,y4,S5,y6,y7,y8,y9,x]) ⟨_,_,_,_,_,C4,rfl⟩ λρ ⟨y4,y6,y7,y8,y9,x,e⟩ d=>by subst e;exact⟨_,UV (Qa C3) C3,UC C3,λy hy=>Kl C3 (UC C3) hy,UC C3,_,_,_,_,_,_,rfl⟩
  let S7:Option Sl:=O (.own (ntD (gvL one other k)))
  refine U1 (ρ1:=[S0,S1,S2,S3,S4,S5,S6,S7,x8,x9]) (Zc (Y0 (Z2 (UC C3) YZ) c2) (Qa C3) C3) ?_
  let Z:=(tkL one other k).zip (gvL one other k)
  have hz:Zb (ntD (tkL one other k)) (ntD (gvL one other k))=Z.map λp:Nat×Nat=>PyData.tuple [.int (p.1:Nat),.int (p.2:Nat)]:=by unfold ntD;rw[DD,List.zip_map,Q7];rfl
  have hfew:=LM (other:=other) h7 (k+1);rw[Td,Qk]at hfew;have hfew:(prL one other k).length+Z.length<=7:=hfew;have hnd:=SY (one:=one) (other:=other) (k+1);rw[Td,QK]at hnd;apply Yj (λm ρ=>∃y6 y7 x8 x9,ρ=[S0,S1,S2,S3,O (.deep .dic (.dict ((prL one other k++Z.take m).map fwD))),S5,y6,y7,x8,x9])
  case h1=>exact Lk (UH (Yo C3 C3) (UH (Yo C3 C3) UO)) (show Z6 [.list (ntD (tkL one other k)),.list (ntD (gvL one other k))]=_ from JM O hz)
  case h0=>exact⟨_,_,_,_,by rw[JO,QS];rfl⟩
  case hst=>
   rintro m d ρ hm ⟨y6,y7,x8,x9,rfl⟩;rw[Qj]at hm;cases hp:Z[m]? with
   |none=>rw[hp]at hm;cases hm
   |some p=>
   rw[hp]at hm;cases hm;have hml:m<Z.length:=(Qg.mp hp).1;have BY:Z.take (m+1)=Z.take m++[p]:=by rw[List.take_succ,hp];rfl
   have hnot:p.1∉(prL one other k++Z.take m).map Prod.fst:=λhc=>by
    have hs:((prL one other k++Z.take m)++[p]).Sublist (prL one other k++Z):=by rw[QY,←BY];exact(List.Sublist.refl _).append (List.take_sublist _ _)
    have h1:=(hs.map Prod.fst).nodup (by rw[QK];exact hnd);rw[QK]at h1;exact(List.nodup_append.mp h1).2.2 _ hc _ (by simp) C3
   refine⟨_,Zv C3 (Kp (UV (Qa C3) C3) (Kp (UV (Qa C3) C3) Zw)),?_⟩;unfold R5;refine ZX (M7 (k:=.inl ((p.1:Nat):Int)) (UC C3) C3 (UC C3) C3 C3 (by rw[Qd,Qk,Jt];omega) C3) (Zu ⟨y6,y7,pb (.int (p.1:Nat)),pb (.int (p.2:Nat)),?_⟩);rw[LK hnot,BY,QY];rfl
  case hend=>rintro ρ ⟨y6,y7,y8,y9,rfl⟩;rw[Qd,List.take_length,←Td];exact Zu ⟨_,_,_,_,_,rfl⟩
 case hend=>rintro ρ ⟨x5,x6,x7,x8,x9,rfl⟩;rw[Y2,Int.sub_zero,Jf];exact KG (Kx (GO rfl rfl) rfl)
noncomputable def fnD:Bj->D
 |none=>.none
 |some c=>.int (c:Nat)
noncomputable def tkA(other:LO)(a:Nat):D:=U6 (a,other.getD a C4)
theorem Pe{ps:List (Nat×Nat)}(a:Nat):Y8 (.dict (ps.map fwD)) (.int ((a:Nat):Int))=O (fnD (Kc ps a)):=by
 show O ((((ps.map fwD).find? λp=>decide (ZA p.1=O (.inl ((a:Nat):Int)))).map (·.2)).getD .none)=_
 congr 1
 unfold Kc;rw[List.find?_map]
 have e:((λp:D×D=>decide (ZA p.1=O (.inl ((a:Nat):Int)))) ∘ fwD)=λp:Nat×Nat=>decide (p.1=a):=by
  funext p;show decide (O (Sum.inl (β:=Str) ((p.1:Nat):Int))=O (Sum.inl ((a:Nat):Int)))=decide (p.1=a);by_cases h:p.1=a
  .rw[h,QU C3,QU C3]
  .rw[QG h,QG (λz=>h (by have:=Sum.inl.inj (Qu z);omega))]
 rw[e];cases ps.find? λp=>decide (p.1=a)<;>rfl
theorem Od{ps:List (Nat×Nat)}:VN (.dict (ps.map fwD))=C5:=by
 show(ps.map fwD).all (λkv=>TW kv.1)=C5
 rw[J5,QZ];exact λ_ _=>rfl
theorem EN{f:Nat->Bj}{b c l:Nat}{A:Bc}(w:Xp f b A)(hl:A.getLast?=O l)(h:f l=O c)(hc:c≠b):Xp f b (A++[c]):=by
 have hne:A≠[]:=λe=>by rw[e]at hl;cases hl
 have hpos:0<A.length:=JV.mpr hne;refine⟨by rw[List.head?_append,w.hd];rfl,λk x y h1 h2=>?_,λk x h1=>?_⟩
 .have l2:=(Qg.mp h2).1
  rw[Qk,Q4]at l2;rw[Qn (by omega)]at h1;by_cases e:k+1<A.length
  .rw[Qn e]at h2
   exact w.st k x y h1 h2
  .have ek:k+1=A.length:=by omega
   rw[Qs (by omega),ek,Nat.sub_self]at h2;cases h2;have:A[k]?=O l:=by rw[←hl,JC];congr 1;omega
   rw[h1]at this;rw[Qu this];exact h
 .by_cases e:k+1<A.length
  .rw[Qn e]at h1
   exact w.ne k x h1
  .have l1:=(Qg.mp h1).1
   rw[Qk,Q4]at l1;rw[Qs (by omega)]at h1;have:k+1-A.length=0:=by omega
   rw[this]at h1;cases h1;exact hc
end
section
variable{cs:C8}{ls:L3}{one other:LO}
theorem X2(l:Bc):(ntD l).length=l.length:=by rw[KP,Qd]
theorem V8{b:Nat}{M:Bc}:oIn (.int ((b:Nat):Int)) (.list (ntD M))=O (M.contains b):=by
 unfold ntD;rw[Ta]
 congr 1
 rw[JX,Jj,Jj];constructor
 .intro h
  obtain⟨i,hi,e⟩:=Qx.mp h;have e:i=b:=by omega
  exact e ▸ hi
 .exact λh=>Qx.mpr ⟨b,h,rfl⟩
theorem LJ{ps:List (Nat×Nat)}:YQ (.dict (ps.map fwD))=O (ntD (ps.map Prod.snd)):=by unfold YQ;dsimp only;rw[Qq (by rw[J5,QZ];exact λ_ _=>rfl),KP,Q7,Q7];rfl
theorem LI{n u:Nat}(h:u∈(prL one other n).map Prod.snd):∃c,Kc (prL one other n) c=O u:=by
 obtain⟨p,hp,rfl⟩:=Qx.mp h;refine⟨p.1,?_⟩;cases e:Kc (prL one other n) p.1 with
 |none=>exact absurd hp (OB e p.2)
 |some v=>have:=LQ (Vu e) hp C3;exact JM O (JM Prod.snd this)
noncomputable def wyD(other:LO)(A:Bc):D:=.list (A.map (tkA other))
structure TM(f:Nat->Bj)(D:Bc)(As:List Bc):Prop where
 met:MetF f As.flatten
 sub:∀a∈As.flatten,a∈D
 each:∀A∈As,∃b,EndF f b A
end
section
variable{cs:C8}{ls:L3}{one other:LO}
theorem EM{n b:Nat}(hl:one.length=other.length)(h7:one.length<=7):∀(k fuel:Nat)(A:Bc)(l:Nat),Xp (Kc (prL one other n)) b A->(∀a∈A,a<one.length)->A.getLast?=O l->A.length+k=8->k<fuel ->
  ∃A' l',YI (KY (UL (λd=>!isNon d) (Uz 4)) (Kh oNe 4 (Uz 0))) VF fuel [pb (.int (b:Nat)),pb (.dict ((prL one other n).map fwD)),pb (UT other),O (.own (A.map (tkA other))),pb (fnD (Kc (prL one other n) l))]=.nx [pb (.int (b:Nat)),pb (.dict ((prL one other n).map fwD)),pb (UT other),O (.own (A'.map (tkA other))),pb (fnD (Kc (prL one other n) l'))]/\EndF (Kc (prL one other n)) b A'/\∀a∈A',a<one.length:=by
 intro k;induction k with
 |zero=>
  intro fuel A l w hA hl2 hk _;have:=XE A (Uj one.length) (TD V9 w) λx hx=>QX.mpr (hA x hx)
  rw[QW]at this
  lia
 |succ k ih=>
  intro fuel A l w hA Bo hk hf;obtain⟨fuel,rfl⟩:∃m,fuel=m+1:=⟨fuel-1,by lia⟩
  let f:=Kc (prL one other n)
  let S0:Option Sl:=O (.pub (.int (b:Nat)))
  let S1:Option Sl:=O (.pub (.dict ((prL one other n).map fwD)))
  let S2:Option Sl:=O (.pub (UT other))
  let S3:Option Sl:=O (.own (A.map (tkA other)))
  have tst:∀(t:Bool),((f l=C4∨f l=O b)/\t=C6)∨((∃c,f l=O c/\c≠b)/\t=C5)->KY (UL (λd=>!isNon d) (Uz 4)) (Kh oNe 4 (Uz 0)) [S0,S1,S2,S3,pb (fnD (f l))]=.ok t [S0,S1,S2,S3,pb (fnD (f l))]:=λt h=>by
   refine Pi (t:=!isNon (fnD (f l))) (VR (UC C3) C3) (λz=>?_) λz=>?_
   .cases e:f l with
    |none=>rw[e]at z;cases z
    |some c=>
     refine K8 (d:=fnD (O c)) rfl (UC rfl) ?_;show oNe (.int ((c:Nat):Int)) (.int ((b:Nat):Int))=O t;rw[WR];rcases h with ⟨h|h,rfl⟩|⟨⟨c',h,hc⟩,rfl⟩
     .rw[h]at e;cases e
     .rw[h]at e;cases e;rw[QU C3];rfl
     .rw[h]at e;cases e;rw[QG (by lia)];rfl
   .rcases h with ⟨_,rfl⟩|⟨⟨c',h,hc⟩,rfl⟩
    .rfl
    .rw[h]at z;cases z
  by_cases hend:f l=C4∨f l=O b
  .refine⟨A,l,?_,⟨w,λl' hl'=>?_⟩,hA⟩
   .rw[YI,tst C6 (.inl ⟨hend,rfl⟩)]
    rfl
   .rw[Bo]at hl'
    cases hl';exact hend
  .rw[not_or]at hend
   obtain⟨c,hc⟩:∃c,f l=O c:=by
    cases e:f l with
    |none=>exact absurd e hend.1
    |some c=>exact⟨c,rfl⟩
   have hcb:c≠b:=λe=>hend.2 (by rw[hc,e])
   have hcl:c<one.length:=(YX.mp (Vm hc).2.1).1;have ho:other[c]?=O (other[c]'(by lia)):=Qb _;have hix:oIx (UT other) (.int ((c:Nat):Int))=O (UI (other.getD c C4)):=by rw[YY ho];exact Kv (by rw[Qj,ho];rfl)
   have hlen:A.length<=8:=by lia
   have hst:VF [S0,S1,S2,S3,pb (.int (c:Nat))]=.nx [S0,S1,S2,O (.own ((A++[c]).map (tkA other))),pb (fnD (f c))]:=by
    have:Ho VF [S0,S1,S2,S3,pb (.int (c:Nat))] λo=>o=.nx [S0,S1,S2,O (.own ((A++[c]).map (tkA other))),pb (fnD (f c))]:=by unfold VF;refine U1 (ρ1:=[S0,S1,S2,O (.own ((A++[c]).map (tkA other))),pb (.int (c:Nat))]) (Xv C3 (T9 (UH (UC C3) (UH (Kl C3 (UC C3) hix) UO)) (Qa C3)) C3 (by rw[Qd];lia) (by rw[QK];rfl)) ?_;exact ZX (KQ (RH (UC C3) Od (UH (UC C3) UO) (Pe c)) (Qa C3) C3) C3
    exact this.out
   obtain⟨A',l',h1,h2,h3⟩:=ih fuel (A++[c]) c (EN w Bo hc hcb) (λa ha=>(List.mem_append.mp ha).elim (hA a) λh=>by cases List.mem_singleton.mp h;exact hcl) (by simp) (by rw[List.length_append,List.length_singleton];lia) (by lia);refine⟨A',l',?_,h2,h3⟩;rw[YI,tst C5 (.inr ⟨⟨c,hc,hcb⟩,rfl⟩)];dsimp only;rw[Qq C3];have e4:fnD (f l)=.int (c:Nat):=by rw[hc];rfl
   rw[e4,hst];exact h1
theorem CC{n b:Nat}(hl:one.length=other.length)(h7:one.length<=7)(hb:b<one.length):∃A,TH [.int (b:Nat),.dict ((prL one other n).map fwD),UT other]=O (A.map (tkA other))/\EndF (Kc (prL one other n)) b A/\∀a∈A,a<one.length:=by
 let S0:Option Sl:=O (.pub (.int (b:Nat)))
 let S1:Option Sl:=O (.pub (.dict ((prL one other n).map fwD)))
 let S2:Option Sl:=O (.pub (UT other))
 have ho:other[b]?=O (other[b]'(by lia)):=Qb _;have hix:oIx (UT other) (.int ((b:Nat):Int))=O (UI (other.getD b C4)):=by rw[YY ho];exact Kv (by rw[Qj,ho];rfl)
 obtain⟨A',l',h1,h2,h3⟩:=EM (n:=n) (b:=b) hl h7 7 1000 [b] b ⟨rfl,(λk x y _ h=>by cases h),λk x h=>by cases h⟩ (λa ha=>by cases Qw.mp ha;exact hb) C3 C3 (by decide)
 suffices hg:Ho TJ [S0,S1,S2,C4,C4] λo=>o=.nx [S0,S1,S2,O (.own (A'.map (tkA other))),pb (fnD (Kc (prL one other n) l'))]from
  ⟨A',NG (ρ:=[S0,S1,S2,C4,C4]) C3 hg.out (M9 C3),h2,h3⟩
 unfold TJ;refine U1 (ρ1:=[S0,S1,S2,O (.own ([b].map (tkA other))),C4]) (Zc (Y1 (UH (T9 (UH (UC C3) (UH (Kl C3 (UC C3) hix) UO)) (Qa C3)) UO) (Qa C3)) (Qa C3) C3) ?_;refine U1 (ρ1:=[S0,S1,S2,O (.own ([b].map (tkA other))),pb (fnD (Kc (prL one other n) b))]) (KQ (RH (UC C3) Od (UH (UC C3) UO) (Pe b)) (Qa C3) C3) ?_;exact U1 h1 (KL C3)
theorem C2(g:Good cs ls)(hl:one.length=other.length)(h7:one.length<=7):∃r,Wx [Ky cs ls,UT one,UT other]=O r/\∃As,r=.list (As.map (wyD other))/\TM (Kc (prL one other cs.length)) (mvL one other) As/\∀u∈mvL one other,u∈As.flatten:=by
 have c6:=g.c6
 let n:=cs.length
 let f:=Kc (prL one other n)
 let mv:=mvL one other
 let led:=(prL one other n).map Prod.snd
 have B0:mv.length<=7:=by have:=Jr (λi=>!decide (one.getD i C4=other.getD i C4)) (Uj one.length);rw[QW]at this;exact Qy this h7
 let S0:Option Sl:=O (.pub (Ky cs ls))
 let S1:Option Sl:=O (.pub (UT one))
 let S2:Option Sl:=O (.pub (UT other))
 let S3:Option Sl:=O (.pub (.dict ((prL one other n).map fwD)))
 let S4:Option Sl:=O (.own (ntD led))
 let S5:Option Sl:=O (.pub (.list (ntD mv)))
 have hlc:Ka [.list (cs.map int)]=O (.int cs.length):=by rw[ZH,Qd]
 refine NF (ρ:=[S0,S1,S2,C4,C4,C4,C4,C4,C4,C4,C4]) C3 ?_;unfold Rj Nk;refine U1 (ρ1:=[S0,S1,S2,C4,C4,C4,C4,C4,C4,C4,C4]) (Sr (Kn (UH (UC C3) UO) C3 (EU g))) ?_;refine U1 (ρ1:=[S0,S1,S2,S3,C4,C4,C4,C4,C4,C4,C4]) (KQ (Kn (UH (ZT (UH (Kl C3 UK Ro) UO) hlc) (UH (UC C3) (UH (UC C3) UO))) C3 (CD hl h7 c6)) (Qa C3) C3) ?_;refine U1 (ρ1:=[S0,S1,S2,S3,S4,C4,C4,C4,C4,C4,C4]) (Zc (ED (UC C3) LJ) (Qa C3) C3) ?_;refine U1 (ρ1:=[S0,S1,S2,S3,S4,S5,C4,C4,C4,C4,C4]) (KQ (Kn (UH (UC C3) (UH (UC C3) UO)) C3 (Oe hl h7)) (Qa C3) C3) ?_
 let P1:=mv.filter λi=>!led.contains i
 let P2:=mv.filter λi=>led.contains i
 have cc:∀(q:Bool->Bool)(op:D->D->Bi),(∀b:Nat,op (.int (b:Nat)) (.list (ntD led))=O (q (led.contains b)))->Kz (gN 11) (Kh op 11 (Uz 4)) (Uz 11) (ntD mv) (U4 [S0,S1,S2,S3,S4,S5,C4,C4,C4,C4,C4]++Uk 1 C4) []=O (ntD (mv.filter λi=>q (led.contains i))):=λq op hop=>by
  rw[YM (λd=>match d with | .int i=>q (led.contains i.toNat)|_=>C6) (λd=>d) (λρ=>∃x,ρ=[S0,S1,S2,S3,pb (.list (ntD led)),S5,C4,C4,C4,C4,C4,x])]
  .rw[Jb,J6,KP,KP,JD]
   rfl
  .rintro d hd ρ ⟨x,rfl⟩
   rw[KP]at hd;obtain⟨i,hi,rfl⟩:=Qx.mp hd;refine⟨_,UV (Qa C3) C3,?_,λ_=>UC C3,_,rfl⟩;show Kh op 11 (Uz 4) _=.ok (q (led.contains ((i:Nat):Int).toNat)) _;rw[Jf];exact K8 C3 (UC C3) (hop i)
  .exact⟨C4,rfl⟩
  .rw[X2,Q6];lia
 have c1:=cc (λb=>!b) Zf (λb=>by unfold Zf;rw[V8];rfl);have c2:=cc (λb=>b) oIn (λb=>V8);have hP1:P1.length<=7:=Qy (Jr _ _) B0;have hP2:P2.length<=7:=Qy (Jr _ _) B0;have fl:∀l:Bc,(ntD l).all flat=C5:=λl=>by rw[KP,J5,QZ];exact λ_ _=>rfl
 let S6:Option Sl:=O (.pub (.list (ntD (P1++P2))))
 refine U1 (ρ1:=[S0,S1,S2,S3,S4,S5,S6,C4,C4,C4,C4]) (KQ (UU (K4 (SI (Z2 (UC C3) YZ) c1 (fl P1))) (K4 (SI (Z2 (UC C3) YZ) c2 (fl P2))) (show UX (.list (ntD P1)) (.list (ntD P2))=O (.list (ntD (P1++P2)))by rw[Vy (by rw[X2,X2];lia),KP,KP,KP,QK])) (Qa C3) C3) ?_;refine U1 (So UK (Qa C3) C3) ?_;refine U1 (Zc (Y1 UO (Qa C3)) (Qa C3) C3) ?_;have hPm:∀b∈P1++P2,b∈mv:=λb hb=>(QF.mp hb).elim (λh=>(Jk.mp h).1) λh=>(Jk.mp h).1;apply KD;apply Yj (λk ρ=>∃(As:List Bc)(x9 BH:Option Sl),ρ=[S0,S1,S2,S3,S4,S5,S6,O (.deep (.lst (.lst .leaf)) (.list (As.map (wyD other)))),O (.own (ntD As.flatten)),x9,BH]/\TM f mv As/\As.length<=k/\∀b∈(P1++P2).take k,b∈As.flatten)
 case h1=>exact Z2 (UC C3) YZ
 case h0=>exact⟨[],C4,C4,rfl,⟨GW,(λ_ h=>by cases h),λ_ h=>by cases h⟩,Qo _,λ_ h=>by rw[JO]at h;cases h⟩
 case hst=>
  rintro k d ρ hk ⟨As,x9,BH,rfl,hp,hAl,hin⟩;rw[KP,Qj]at hk;cases hb:(P1++P2)[k]? with
  |none=>rw[hb]at hk;cases hk
  |some b=>
  rw[hb]at hk;cases hk;have Ab:k<(P1++P2).length:=(Qg.mp hb).1;have hkl':k<14:=by rw[Qk]at Ab;lia
  have hbm:b∈mv:=hPm b (Qt hb);have BY:(P1++P2).take (k+1)=(P1++P2).take k++[b]:=by rw[List.take_succ,hb];rfl
  refine⟨_,UV (Qa C3) C3,?_⟩;unfold Nt
  let M:=As.flatten
  let S7:Option Sl:=O (.deep (.lst (.lst .leaf)) (.list (As.map (wyD other))))
  let S8:Option Sl:=O (.own (ntD M))
  let S9:Option Sl:=O (.pub (.int (b:Nat)))
  refine Ko (b:=!M.contains b) (ρ1:=[S0,S1,S2,S3,S4,S5,S6,S7,S8,S9,BH]) (Tg (UC C3) C3 (by unfold Zf;rw[V8];rfl)) (λz=>?_) λz=>KL (Zu ⟨As,_,_,rfl,hp,by lia,λc hc=>?_⟩)
  .have hbM:b∉M:=λh=>by rw[Jj.mpr h]at z;cases z
   obtain⟨A,hw,hE,hAr⟩:=CC (n:=n) (b:=b) hl h7 (YX.mp hbm).1
   let S10:Option Sl:=O (.own (A.map (tkA other)))
   refine U1 (ρ1:=[S0,S1,S2,S3,S4,S5,S6,S7,S8,S9,S10]) (Zc (Gs (UH (UC C3) (UH (UC C3) (UH (UC C3) UO))) C3 hw) (Qa C3) C3) ?_;have hAn:=TD V9 hE.wk
   have hA7:A.length<=7:=by
    have:=XE A (Uj one.length) hAn λx hx=>QX.mpr (hAr x hx)
    rw[QW]at this
    lia
   have AD:∀a∈A,a∈mv:=λa ha=>by
    obtain⟨j,hj⟩:=Je.mp ha;cases j with
    |zero=>have:=hE.wk.hd;rw[JL,hj]at this;rw[Qu this];exact hbm
    |succ j=>have l:=(Qg.mp hj).1;exact(Vm (hE.wk.st j _ _ (Qb (by lia)) hj)).2.1
   have hc:Kz (gT 2 (gNC (gN 11) (gNC (gN 12) (gN0)))) (UE C5) (Uz 11) (A.map (tkA other)) (U0 (U4 [S0,S1,S2,S3,S4,S5,S6,S7,S8,S9,S10])++Uk 2 C4) []=O (ntD A):=by
    refine OD (λρ=>∃x y,ρ=[S0,S1,S2,S3,pb (.list (ntD led)),S5,S6,pb (.list (As.map (wyD other))),pb (.list (ntD M)),S9,pb (.list (A.map (tkA other))),x,y]) _ _ _ _ (by rw[Qd,Qd,Qd]) ?_ ⟨C4,C4,rfl⟩ (by rw[Qd,Q6];lia);rintro j y e hj he ρ ⟨x,y',rfl⟩;rw[Qj]at hj;rw[Qj,Qj]at he;cases hq:A[j]? with
    |none=>rw[hq]at hj;cases hj
    |some a=>
    rw[hq]at hj he;cases hj;cases he;exact⟨_,Zv C3 (Kp (UV (Qa C3) C3) (Kp (UV (Qa C3) C3) Zw)),rfl,UC C3,_,_,rfl⟩
   have hMl:M.length<=7:=Qy (XE M mv hp.met.nd hp.sub) B0;refine U1 (ρ1:=[S0,S1,S2,S3,S4,S5,S6,S7,O (.own (ntD (M++A))),S9,S10]) (LV C3 (F9 (Y0 (Z2 (UC C3) YZ) hc) (by rw[KP,J5,QZ];exact λ_ _=>rfl)) C3 (by rw[X2,X2];lia) (by rw[KP,KP,KP,QK];rfl)) ?_
   have hcyc:(∀c,f c≠O b) ∨ ∀l,A.getLast?=O l->f l=O b:=by
    by_cases hbl:b∈led
    .right
     intro l hl2;have hk1:P1.length<=k:=by apply Decidable.byContradiction;intro hc;rw[Qn (by lia)]at hb;have:=(Jk.mp (Qt hb)).2;rw[Jj.mpr hbl]at this;cases this
     have hon:=LR Vv (λa c h=>(Vm h).1) hp.met (λu hu hun=>by
      by_cases BX:u∈led
      .exact LI BX
      .refine absurd (hin u ?_) hun
       have hu1:u∈P1:=List.mem_filter.mpr ⟨hu,by simpa using BX⟩;obtain⟨j,hj⟩:=Je.mp hu1;have jl:=(Qg.mp hj).1;exact List.mem_iff_getElem?.mpr ⟨j,by rw[List.getElem?_take_of_lt (by lia),Qn jl];exact hj⟩)
     have hlA:l∈A:=JQ hl2;rcases hE.fin l hl2 with e|e
     .exact absurd e (hon l (AD l hlA) (OC hp.met.si hE.wk hbM l hlA))
     .exact e
    .left
     intro c hc;exact hbl (Qx.mpr ⟨(c,b),Vu hc,rfl⟩)
   refine ZX (Gk C3 C3 (by rw[Qd];lia) C3) (Zu ⟨As++[A],S9,C4,?_,⟨?_,λa ha=>?_,λB hB=>?_⟩,?_,λc hc=>?_⟩)
   .rw[QK,JF]
    show _=[S0,S1,S2,S3,S4,S5,S6,O (Sl.deep (.lst (.lst .leaf)) (.list (As.map (wyD other)++[wyD other A]))),O (Sl.own (ntD (M++(A++[])))),S9,C4];rw[QS];rfl
   .rw[JF]
    show MetF f (M++(A++[]));rw[QS];exact GV V9 hp.met hbM hE hcyc
   .rw[JF]at ha
    rcases QF.mp ha with h|h
    .exact hp.sub a h
    .exact AD a (by simpa using h)
   .rcases QF.mp hB with h|h
    .exact hp.each B h
    .cases Qw.mp h;exact⟨b,hE⟩
   .rw[Qk,Q4];lia
   .rw[JF]
    rw[BY]at hc;rcases QF.mp hc with h|h
    .exact QI _ (hin c h)
    .cases Qw.mp h
     refine Qr _ ?_;have:b∈A:=List.mem_of_mem_head? (by rw[hE.wk.hd];rfl);simpa using this
  .rw[Bool.not_eq_false']at z
   rw[BY]at hc;rcases QF.mp hc with h|h
   .exact hin c h
   .cases Qw.mp h
    exact Jj.mp z
 case hend=>
  rintro ρ ⟨As,x9,BH,rfl,hp,_,hin⟩;refine KG (KL ⟨_,rfl,_,_,GI rfl rfl,As,rfl,hp,λu hu=>hin u ?_⟩);rw[X2,List.take_length];by_cases BX:led.contains u=C5
  .exact Qr _ (List.mem_filter.mpr ⟨hu,BX⟩)
  .exact List.mem_append_left _ (List.mem_filter.mpr ⟨hu,by simpa using BX⟩)
end
noncomputable def wyL(other:LO)(A:Bc):List (Nat×Bf):=A.map λa=>(a,other.getD a C4)
theorem LH{other:LO}(A:Bc):(wyL other A).map Prod.fst=A:=by unfold wyL;rw[Q7];exact J6 A
section
variable{cs:C8}{ls:L3}{one other:LO}{old:Option LO}{ts:C8}
theorem Vt{ws:LO}{a:Nat}(h:a<ws.length):ws[a]?=O (ws.getD a C4):=by rw[Q2,Qb h];rfl
theorem RD(A:Bc):wyD other A=.list ((wyL other A).map U6):=by unfold wyD wyL;rw[Q7];rfl
theorem GT{qs:LP}{m:Nat}(hp:Rn cs.length m qs)(d1:TN cs qs m one)(d2:TN cs qs m other){A:Bc}{b:Nat}(hE:EndF (Kc (prL one other cs.length)) b A)(hA:∀a∈A,a∈mvL one other):WayQ cs qs one (wyL other A) where
 ne:=λe=>by have:=hE.wk.hd;rw[List.map_eq_nil_iff.mp e]at this;cases this
 mv:=λp h=>by obtain⟨a,ha,rfl⟩:=Qx.mp h;have hm:=YX.mp (hA a ha);refine⟨_,Vt hm.1,λe=>hm.2 e.symm,λt ht=>d2.wish a t ?_⟩;have:=Vt (ws:=other) (a:=a) (by have:=d1.len;have:=d2.len;omega);rw[this];exact JM O ht
 nd:=by rw[LH];exact TD V9 hE.wk
 lnk:=λk p q h1 h2=>by
  unfold wyL at h1 h2;rw[Qj]at h1 h2;cases e1:A[k]? with
  |none=>rw[e1]at h1;cases h1
  |some x=>
  cases e2:A[k+1]? with
  |none=>rw[e2]at h2;cases h2
  |some y=>
  rw[e1]at h1;rw[e2]at h2;cases h1;cases h2;obtain⟨_,hy,t,h1,h2⟩:=Vm (hE.wk.st k x y e1 e2);have:=Vt (YX.mp hy).1;refine⟨?_,?_⟩
  .show other.getD x C4≠C4
   rw[h1];exact λz=>by cases z
  .show one[y]?=O (other.getD x C4)
   rw[this,h1,h2]
 fin:=λp q h1 h2=>by
  unfold wyL at h1 h2;rw[List.head?_map,hE.wk.hd]at h1;cases h1;rw[List.getLast?_map]at h2;cases e:A.getLast? with
  |none=>rw[e]at h2;cases h2
  |some l=>
  rw[e]at h2;cases h2;have hl:=hA l (JQ e);rcases hE.fin l e with h|h
  .cases e3:other.getD l C4 with
   |none=>exact .inl e3
   |some t=>
    have hlo:l<other.length:=by have:=(YX.mp hl).1;have:=d1.len;have:=d2.len;omega
    have hq:=hp.lo _ (d2.wish l t (by rw[Vt hlo,e3]));have h3:0<=t:=hq.2.2.1;have h4:t<cs.length:=hq.2.2.2;obtain⟨n,rfl⟩:∃n:Nat,t=n:=⟨t.toNat,by omega⟩
    have hn:n<cs.length:=by omega
    have h5:=GU hn hl e3 h;have h6:=EO (one:=one) (other:=other) (by rw[d1.len,d2.len]) (n:Int);have h7:=d2.cop n _ (Qb hn);exact .inr (.inr ⟨n,e3,_,Qb hn,by omega⟩)
  .obtain⟨_,hb,t,h1,h2⟩:=Vm h
   refine .inr (.inl ?_);show one[b]?=O (other.getD l C4);rw[Vt (YX.mp hb).1,h1,h2]
end
section
variable{cs:C8}{ls:L3}{one other here:LO}
theorem GS{f:Nat->Bj}{As:List Bc}(hq:TM f (mvL one other) As)(h7:one.length<=7):As.length<=7:=by
 have key:∀(B:List Bc),(∀A∈B,A≠[])->B.length<=B.flatten.length:=by
  intro B;induction B with
  |nil=>intro _;exact Qo _
  |cons A B ih=>intro h;have h1:=ih λX hX=>h X (Qm _ hX);have h2:=JV.mpr (h A Qh);rw[QN,Qk,Qz];omega
 have h1:=key As λA hA e=>by obtain⟨b,hE⟩:=hq.each A hA;have:=hE.wk.hd;rw[e]at this;cases this
 have h2:=XE As.flatten (Uj one.length) hq.met.nd λa ha=>QX.mpr (YX.mp (hq.sub a ha)).1;rw[QW]at h2;omega
end
def Zq(n b:Nat)(d:D):Prop:=d.canLay0=C5/\d.leavesShort 8=C5/\d.showable=C5/\d.depth<=n/\d.bulk<=b/\Up d.shown=C5
theorem VE{n b m:Nat}{xs:C7}(h:∀x∈xs,Zq n b x)(hm:xs.length<=m):Zq (n+1) (m*(b+1)) (.list xs):=by
 refine⟨XB λx hx=>(h x hx).1,TF λx hx=>(h x hx).2.1,Tr λx hx=>(h x hx).2.2.1,Vp (XA λx hx=>(h x hx).2.2.2.1),?_,CS λx hx=>(h x hx).2.2.2.2.2⟩;have:=Tq (n:=b) (xs:=xs) λx hx=>(h x hx).2.2.2.2.1
 exact Qy this (Nat.mul_le_mul_right _ hm)
theorem SX{i:Int}(h:0<=i/\i<10):Zq 0 0 (.int i):=⟨rfl,(ten h).1,(ten h).2,by simp[Ur],Nat.le_refl 0,N3 h⟩
theorem OL{m:Nat}{xs:C8}(h:∀t∈xs,0<=t/\t<10)(hm:xs.length<=m):Zq 1 (m*1) (.list (xs.map int)):=VE (λx hx=>by obtain⟨t,ht,rfl⟩:=Qx.mp hx;exact SX (h t ht)) (by rw[Qd];exact hm)
theorem Pd{n b:Nat}{d:D}(h:Zq n b d)(hn:n<=50)(hb:b<=10000):YS [d]=O (.str d.shown):=by
 obtain⟨h1,h2,h3,h4,h5,h6⟩:=h;refine Ei ⟨h1,h3,PyData.hasDict_of_canLay _ h1,by lia,?_⟩;have:=PyData.shown_le_bulk 8 (by decide) _ h2
 lia
section
variable{cs:C8}{ls:L3}{ws:LO}
theorem OA(g:Good cs ls):Zq 5 10000 (Ky cs ls):=by
 have e1:Zq 1 (6*1) (.list (cs.map int)):=OL (λt ht=>by have:=g.c7 t ht;lia) g.c6
 have e2:Zq 3 (7*(5*(6*1+1)+1)) (.list (ls.map Kj)):=by
  refine VE (λx hx=>?_) (by rw[Qd];exact g.l7);obtain⟨rs,hrs,rfl⟩:=Qx.mp hx;have gr:=g.rk rs hrs;refine VE (λy hy=>?_) (by rw[Qd];exact gr.few);obtain⟨r,hr,rfl⟩:=Qx.mp hy;refine OL (λt ht=>by have:=gr.there r hr t ht;have:=g.c6;lia) ?_;have h1:r.length<=rs.flatten.length:=(List.sublist_flatten_of_mem hr).length_le;have h2:=Te gr;have:=g.c6
  lia
 have all:∀{P:D->Prop},P (.list (cs.map int))->P (.list (ls.map Kj))->∀x∈[Ul (cs.map int),.list (ls.map Kj)],P x:=λh1 h2 x hx=>by
  have hx:x=.list (cs.map int)∨x=.list (ls.map Kj):=by simpa using hx
  rcases hx with rfl|rfl
  .exact h1
  .exact h2
 obtain⟨a1,a2,a3,a4,a5,a6⟩:=e1;obtain⟨b1,b2,b3,b4,b5,b6⟩:=e2;refine⟨XB (all a1 b1),TF (all a2 b2),Tr (all a3 b3),?_,?_,?_⟩
 .have:=XA (n:=4) (all (P:=λx=>Ur x<=4) (by lia) (by lia))
  show(PyData.tuple _).depth<=5
  simp only[Ur]
  lia
 .have:=Tq (n:=300) (all (P:=λx=>PyData.bulk x<=300) (by lia) (by lia))
  exact Qy this (show 2*301<=10000 by decide)
 .show Up (("(" : Str)++(_ ++ ", " ++ _) ++ ")")=C5
  exact Yr (Yr (by decide +kernel) (Yr (Yr a6 (by decide +kernel)) b6)) (by decide +kernel)
theorem Deal.small(g:Good cs ls)(dl:Deal cs ls ws):∀t,O t∈ws->0<=t/\t<10:=λt ht=>by
 obtain⟨i,hi⟩:=Je.mp ht;have BR:i<ls.length:=by have:=(Qg.mp hi).1;have:=dl.len;lia
 have h:=dl.wish i t ls[i] hi (Qb BR);have:=(g.rk ls[i] (Jc BR)).flat t h;have:=g.c6
 lia
end
theorem EL:Zq 0 0 .none:=⟨rfl,by decide +kernel,by decide +kernel,by simp[Ur],by simp[PyData.bulk],by decide +kernel⟩
theorem Zq.mono{n b n' b':Nat}{d:D}(h:Zq n b d)(h1:n<=n')(h2:b<=b'):Zq n' b' d:=⟨h.1,h.2.1,h.2.2.1,Qy h.2.2.2.1 h1,Qy h.2.2.2.2.1 h2,h.2.2.2.2.2⟩
theorem D8{n b:Nat}{x y:D}(h1:Zq n b x)(h2:Zq n b y):Zq (n+1) (2*(b+1)) (.tuple [x,y]):=by
 have all:∀{P:D->Prop},P x->P y->∀z∈[x,y],P z:=λp1 p2 z hz=>by
  have hz:z=x∨z=y:=by simpa using hz
  rcases hz with rfl|rfl
  .exact p1
  .exact p2
 obtain⟨a1,a2,a3,a4,a5,a6⟩:=h1;obtain⟨b1,b2,b3,b4,b5,b6⟩:=h2;refine⟨XB (all a1 b1),TF (all a2 b2),Tr (all a3 b3),?_,?_,?_⟩
 .have:=XA (n:=n) (all (P:=λx=>Ur x<=n) a4 b4)
  show(PyData.tuple _).depth<=n+1
  simp only[Ur]
  lia
 .exact Tq (n:=b) (all (P:=λx=>PyData.bulk x<=b) a5 b5)
 .show Up (("(" : Str)++(_ ++ ", " ++ _) ++ ")")=C5
  exact Yr (Yr (by decide +kernel) (Yr (Yr a6 (by decide +kernel)) b6)) (by decide +kernel)
theorem smi2{a t:D}(h:t.canLay0=C5/\t.depth<=60):SmI (.tuple [a,t]):=λa' t' e=>by injection e with e;injection e with _ e;injection e with e;rw[←e];exact h
theorem smO(o:Bf):(UI o).canLay0=C5/\(UI o).depth<=60:=by cases o<;>exact⟨rfl,by simp[UI,Ur]⟩
theorem smW{V:List (Nat×Bf)}:∀x∈V.map U6,SmI x:=λx hx=>by obtain⟨p,_,rfl⟩:=Qx.mp hx;exact smi2 (smO p.2)
section
variable{cs:C8}{ls:L3}{one other:LO}
theorem EK(h:∀t,O t∈other->0<=t/\t<10){As:List Bc}(hA:As.length<=7)(hB:∀A∈As,A.length<=7)(hC:∀A∈As,∀a∈A,a<10):Zq 3 200 (.list (As.map (wyD other))):=by
 refine(VE (n:=2) (b:=7*3) (m:=7) (λx hx=>?_) (by rw[Qd];exact hA)).mono (Qo _) (by decide);obtain⟨A,AD,rfl⟩:=Qx.mp hx;refine VE (n:=1) (b:=2) (λy hy=>?_) (by rw[Qd];exact hB A AD);obtain⟨a,ha,rfl⟩:=Qx.mp hy;have h10:=hC A AD a ha;refine D8 (SX ⟨by lia,by lia⟩) ?_;cases e:other.getD a C4 with
 |none=>exact EL
 |some t=>
  refine SX (h t ?_);rw[Q2]at e;cases q:other[a]? with
  |none=>rw[q]at e;cases e
  |some o=>rw[q]at e;rw[←e];exact Qt q
theorem Pc{S0 S1 S3 S4 S5 S10 S11:Option Sl}:∀(A M:Bc)(x8 x9:Option Sl),(M++A).Nodup->(∀a∈A,a<other.length)->M.length+A.length<=100 ->
  ∃y8 y9,KJ 8 9 6 (mOr (Zs oIn (Uz 8) 6) (Kh oNe 9 (UJ 2 (Uz 8)))) (.bool C6) (A.map (tkA other)) [S0,S1,pb (UT other),S3,S4,S5,O (.own (ntD M)),C4,x8,x9,S10,S11]=.nx [S0,S1,pb (UT other),S3,S4,S5,O (.own (ntD (M++A))),C4,y8,y9,S10,S11]
 |[],M,x8,x9,_,_,_=>⟨x8,x9,by rw[J4,KJ,QS]⟩
 |a::A,M,x8,x9,hn,hA,hl=>by
  have ha:=hA a Qh;have ho:other[a]?=O (other[a]'ha):=Qb _;have hix:oIx (UT other) (.int ((a:Nat):Int))=O (UI (other.getD a C4)):=by rw[YY ho];exact Kv (by rw[Qj,ho];rfl)
  have hM:a∉M:=λh=>(Q1.mp hn).2.2 a h a Qh C3
  have hc:M.contains a=C6:=by
   cases z:M.contains a with
   |false=>rfl
   |true=>exact absurd (Jj.mp z) hM
  rw[Qz]at hl;obtain⟨y8,y9,ih⟩:=Pc A (M++[a]) (O (.pub (.int (a:Nat)))) (O (.pub (UI (other.getD a C4)))) (by rw[QY];exact hn) (λb hb=>hA b (Qm _ hb)) (by rw[Qk,Q4];lia);refine⟨y8,y9,?_⟩
  have ht:∀(s3 s4 s5 s10 s11 s0 s1:Option Sl),mOr (Zs oIn (Uz 8) 6) (Kh oNe 9 (UJ 2 (Uz 8))) [s0,s1,pb (UT other),s3,s4,s5,pb (.list (ntD M)),C4,pb (.int (a:Nat)),pb (UI (other.getD a C4)),s10,s11]=.ok C6 [s0,s1,pb (UT other),s3,s4,s5,pb (.list (ntD M)),C4,pb (.int (a:Nat)),pb (UI (other.getD a C4)),s10,s11]:=λs3 s4 s5 s10 s11 s0 s1=>
   K1 (Gv (UC C3) C3 (by rw[V8,hc])) (K8 C3 (Kl C3 (UC C3) hix) (by rw[V4,QU C3];rfl))
  rw[QC];show KJ 8 9 6 _ _ (.tuple [.int ((a:Nat):Int),UI (other.getD a C4)]::_) _=_;rw[KJ];have e1:=ht (U4 [S3] |>.getD 0 C4) (U4 [S4] |>.getD 0 C4) (U4 [S5] |>.getD 0 C4) (U4 [S10] |>.getD 0 C4) (U4 [S11] |>.getD 0 C4) (U4 [S0] |>.getD 0 C4) (U4 [S1] |>.getD 0 C4);have e2:mOr (Zs oIn (Uz 8) 6) (Kh oNe 9 (UJ 2 (Uz 8))) (U4 ((([S0,S1,pb (UT other),S3,S4,S5,O (.own (ntD M)),C4,x8,x9,S10,S11]:UA).set 8 (O (.pub (.int ((a:Nat):Int))))).set 9 (O (.pub (UI (other.getD a C4))))))=_:=e1;rw[e2];dsimp only
  show(if flat (.int ((a:Nat):Int))=C5/\(ntD M).length<1000000 then _ else _)=_
  rw[Qq ⟨rfl,by rw[X2];lia⟩];have e3:ntD M++[.int ((a:Nat):Int)]=ntD (M++[a]):=by rw[KP,KP,QK];rfl
  rw[e3];have e4:(M++[a])++A=M++a::A:=by rw[QY];rfl
  rw[e4]at ih;exact ih
theorem Pb(W:D){S3 S4 S10 S11:Option Sl}{dF:D}{pF:Pat}:∀(As:List Bc)(M:Bc)(x7 x8 x9:Option Sl),(M++As.flatten).Nodup->(∀a∈As.flatten,a<other.length)->M.length+As.flatten.length<=100->(∀A∈As,Zj [W,UT one,wyD other A]=O (.bool C5))->(As=[]->x7=C4) ->
  ∃y8 y9,KM 7 8 9 6 (U9 (KU (UQ 3 Zj (UG (Uz 0) (UG (Uz 1) (UG (Uz 7) (UB))))))) (mOr (Zs oIn (Uz 8) 6) (Kh oNe 9 (UJ 2 (Uz 8)))) (.bool C6) (As.map (wyD other)) [pb W,pb (UT one),pb (UT other),S3,S4,O (.deep pF dF),O (.own (ntD M)),x7,x8,x9,S10,S11]=.nx [pb W,pb (UT one),pb (UT other),S3,S4,O (.deep pF dF),O (.own (ntD (M++As.flatten))),C4,y8,y9,S10,S11]
 |[],M,x7,x8,x9,_,_,_,_,h7=>⟨x8,x9,by rw[h7 C3,J4,KM,List.flatten_nil,QS]⟩
 |A::As,M,x7,x8,x9,hn,hA,hl,hw,_=>by
  rw[QN]at hn hA hl;rw[Qk]at hl;obtain⟨z8,z9,h2⟩:=Pc (other:=other) (S0:=O (.pub W)) (S1:=O (.pub (UT one))) (S3:=S3) (S4:=S4) (S5:=O (.deep pF dF)) (S10:=S10) (S11:=S11) A M x8 x9 (List.Nodup.sublist (by rw[←QY];exact List.sublist_append_left _ _) hn) (λa ha=>hA a (QI _ ha)) (by lia);obtain⟨y8,y9,ih⟩:=Pb W (S3:=S3) (S4:=S4) (S10:=S10) (S11:=S11) (dF:=dF) (pF:=pF) As (M++A) C4 z8 z9 (by rw[QY];exact hn) (λa ha=>hA a (Qr _ ha)) (by rw[Qk];lia) (λB hB=>hw B (Qm _ hB)) λ_=>rfl
  refine⟨y8,y9,?_⟩;have hF:=hw A Qh;rw[QC];show KM 7 8 9 6 _ _ _ (.list (A.map (tkA other))::_) _=_;rw[KM]
  have e1:U9 (KU (UQ 3 Zj (UG (Uz 0) (UG (Uz 1) (UG (Uz 7) (UB)))))) ((U4 [pb W,pb (UT one),pb (UT other),S3,S4,O (.deep pF dF),O (.own (ntD M)),x7,x8,x9,S10,S11]).set 7 (O (.pub (.list (A.map (tkA other))))))=.ok C6 _:=
   Z0 (t:=C5) (Yp (Kn (UH (UC C3) (UH (UC C3) (UH (UC C3) UO))) C3 hF))
  rw[e1];dsimp only;have e2:KJ 8 9 6 (mOr (Zs oIn (Uz 8) 6) (Kh oNe 9 (UJ 2 (Uz 8)))) (.bool C6) (A.map (tkA other)) (([pb W,pb (UT one),pb (UT other),S3,S4,O (.deep pF dF),O (.own (ntD M)),x7,x8,x9,S10,S11]:UA).set 7 C4)=_:=h2;rw[e2];dsimp only;rw[ih,QN,QY]
theorem LG{f g:M D}{ρ ρ1 ρ2:UA}{u:Bool}(h1:f ρ=.ok (.bool C5) ρ1)(h2:g ρ1=.ok (.bool u) ρ2):YO f g ρ=.ok (.bool u) ρ2:=by unfold YO;exact Kb h1 h2
theorem EJ{xs ys:C8}(hp:xs.Perm ys)(hy:ys.Pairwise (· <= ·)):Zo xs=ys:=
 ((YL xs).trans hp).eq_of_pairwise (le:=(· <= ·)) (λa b _ _ h1 h2=>JY h1 h2) (Ow xs) hy
theorem Se(g:Good cs ls)(Af:Deal cs ls one)(AH:Deal cs ls other):YB [Ky cs ls,UT one,UT other]=O (.bool C5):=by
 have l7:=g.l7;have q1:=Oj Af;have q2:=Oj AH;have n1:=q1.len;have n2:=q2.len;obtain⟨r,Aj,As,rfl,hq,hm⟩:=C2 (one:=one) (other:=other) g (by lia) (by lia);have hAl:As.length<=7:=GS hq (by lia);have hlt:∀a∈As.flatten,a<one.length:=λa ha=>(YX.mp (hq.sub a ha)).1;have hin:∀A∈As,∀a∈A,a∈As.flatten:=λA hA a ha=>List.mem_flatten.mpr ⟨A,hA,ha⟩;have hfl:=XE As.flatten (Uj one.length) hq.met.nd λa ha=>QX.mpr (hlt a ha);rw[QW]at hfl
 have hA7:∀A∈As,A.length<=7:=λA hA=>by
  have:=(List.sublist_flatten_of_mem hA).length_le
  lia
 have hway:∀A∈As,Zj [Ky cs ls,UT one,wyD other A]=O (.bool C5):=λA hA=>by
  obtain⟨b,hE⟩:=hq.each A hA;have hW:=GT (D9 g) q1 q2 hE λa ha=>hq.sub a (hin A hA a ha)
  obtain⟨t,h1,h2⟩:=Cq (d:=wyD other A) g n1 λxs e=>by rw[RD]at e;cases e;exact⟨by rw[Qd];unfold wyL;rw[Qd];have:=hA7 A hA;lia,smW⟩
  rw[h2.mpr ⟨_,RD A,hW⟩]at h1;exact h1
 have ez:Zq 3 200 (.list (As.map (wyD other))):=EK (AH.small g) hAl hA7 λA hA a ha=>by have:=hlt a (hin A hA a ha);lia
 have rW:=Pd (OA g) (by decide) (by decide);have rA:=Pd ez (by decide) (by decide);have okW:=(OA g).2.2.2.2.2;have okA:=ez.2.2.2.2.2;have neW:oNe (.str (Ky cs ls).shown) (.str (Ky cs ls).shown)=O C6:=by rw[LX okW okW];simp
 have eqA:oEq (.str (Ul (As.map (wyD other))).shown) (.str (Ul (As.map (wyD other))).shown)=O C5:=by rw[LY okA okA];simp
 let S0:Option Sl:=O (.pub (Ky cs ls))
 let S1:Option Sl:=O (.pub (UT one))
 let S2:Option Sl:=O (.pub (UT other))
 let H:C7:=[UT one,UT other]
 let S3:Option Sl:=O (.own H)
 let S4:Option Sl:=O (.pub (.str (Ky cs ls).shown))
 let S5:Option Sl:=O (.deep (.lst (.lst .leaf)) (.list (As.map (wyD other))))
 refine Yi (ρ:=[S0,S1,S2,C4,C4,C4,C4,C4,C4,C4,C4,C4]) C3 ?_;unfold Wh;refine U1 (ρ1:=[S0,S1,S2,S3,C4,C4,C4,C4,C4,C4,C4,C4]) (Zc (Y1 (UH (K4 (SO C3 (show Yh [UT one]=O (one.map UI)from rfl))) (UH (K4 (SO C3 (show Yh [UT other]=O (other.map UI)from rfl))) UO)) (Qa C3)) (Qa C3) C3) ?_;refine U1 (ρ1:=[S0,S1,S2,S3,S4,C4,C4,C4,C4,C4,C4,C4]) (KQ (ZT (UH (UC C3) UO) rW) (Qa C3) C3) ?_;have i0:oIx (.list H) (.int 0)=O (UT one):=Kv (j:=0) C3;have i1:oIx (.list H) (.int 1)=O (UT other):=Kv (j:=1) C3;refine U1 (ρ1:=[S0,S1,S2,S3,S4,S5,C4,C4,C4,C4,C4,C4]) (So (Kn (UH (UC C3) (UH (T8 C3 UK C3 i0) (UH (T8 C3 UK C3 i1) UO))) C3 Aj) (Qa C3) C3) ?_
 have neH:oNe (.list H) (.list H)=O C6:=LZ (XB λx hx=>by
  have hx:x=UT one∨x=UT other:=by simpa[H]using hx
  rcases hx with rfl|rfl<;>exact PQ _) (Qy (Vp (n:=2) (XA λx hx=>by
  have hx:x=UT one∨x=UT other:=by simpa[H]using hx
  rcases hx with rfl|rfl<;>exact Et _)) (by decide))
 apply KD;refine Ko (b:=C6) (ρ1:=[S0,S1,S2,S3,S4,S5,C4,C4,C4,C4,C4,C4]) (Gr (K1 (ZU (UC C3) C3) (K1 (K8 C3 (ZS (UH (UC C3) (UH (UC C3) UO)) (Qa C3)) neH) (UU (ZT (UH (UC C3) UO) rW) (UC C3) neW)))) (λz=>by cases z) λ_=>KL (KG ?_)
 refine U1 (ρ1:=[S0,S1,S2,S3,S4,S5,O (.own (ntD [])),C4,C4,C4,C4,C4]) (Zc (Y1 UO (Qa C3)) (Qa C3) C3) ?_;obtain⟨y8,y9,Ap⟩:=Pb (one:=one) (other:=other) (Ky cs ls) (S3:=S3) (S4:=S4) (S10:=C4) (S11:=C4) (dF:=.list (As.map (wyD other))) (pF:=.lst (.lst .leaf)) As [] C4 C4 C4 (by rw[Jb];exact hq.met.nd) (λa ha=>by have:=hlt a ha;lia) (by rw[Q6];lia) hway λ_=>rfl
 rw[Jb]at Ap
 let S6:Option Sl:=O (.own (ntD As.flatten))
 refine U1 (ρ1:=[S0,S1,S2,S3,S4,S5,S6,C4,y8,y9,C4,C4]) (show WQ 5 7 8 9 6 _ _ _ _=_ from ?_) ?_
 .unfold WQ
  show(if _ then _ else _)=_
  rw[Qq ⟨by decide,Qa C3,Qa C3,Qa C3,rfl⟩];exact Ap
 have hlen:Ka [UT one]=O (.int (one.length:Nat)):=by unfold UT;rw[ZH,Qd]
 have hc:Kz (gN 12) (UF oNe (UJ 1 (Uz 12)) (UJ 2 (Uz 12))) (Uz 12) (KS 0 (one.length:Nat)) (U0 [S0,S1,S2,S3,S4,S5,S6,C4,y8,y9,C4,C4]++Uk 1 C4) []=O (ntD (mvL one other)):=by
  rw[Ep,YM (λd=>match d with | .int i=>!decide (one.getD i.toNat C4=other.getD i.toNat C4)|_=>C6) (λd=>d) (λρ=>∃(a b c d:Option Sl)(x e f:Option Sl),ρ=[S0,S1,S2,C4,S4,C4,C4,C4,a,b,C4,C4,x])]
  .rw[Jb,JD,J6,KP]
   rfl
  .rintro d hm ρ ⟨a,b,c,d',x,e,f,rfl⟩
   obtain⟨i,hi,rfl⟩:=Qx.mp hm;have hi:=QX.mp hi;have h1:one[i]?=O (one[i]'hi):=Qb _;have h2:other[i]?=O (other[i]'(by lia)):=Qb _;have x1:oIx (UT one) (.int ((i:Nat):Int))=O (UI (one.getD i C4)):=by rw[YY h1];exact Kv (by rw[Qj,h1];rfl)
   have x2:oIx (UT other) (.int ((i:Nat):Int))=O (UI (other.getD i C4)):=by rw[YY h2];exact Kv (by rw[Qj,h2];rfl)
   refine⟨_,UV (Qa C3) C3,?_,λ_=>UC C3,_,_,C4,C4,_,C4,C4,rfl⟩;show UF oNe (UJ 1 (Uz 12)) (UJ 2 (Uz 12)) _=.ok (!decide (one.getD ((i:Nat):Int).toNat C4=other.getD ((i:Nat):Int).toNat C4)) _;rw[Jf];exact UU (Kl C3 (UC C3) x1) (Kl C3 (UC C3) x2) V4
  .exact⟨_,_,C4,C4,C4,C4,C4,rfl⟩
  .rw[Qd,QW,Q6];lia
 let S10:Option Sl:=O (.own (ntD (mvL one other)))
 refine U1 (ρ1:=[S0,S1,S2,S3,S4,S5,S6,C4,y8,y9,S10,C4]) (Zc (Y0 (WS (UH (K9 C3 hlen) UO) (WO (by lia) (by lia))) hc) (Qa C3) C3) ?_
 let S11:Option Sl:=O (.pub (.str (Ul (As.map (wyD other))).shown))
 refine U1 (ρ1:=[S0,S1,S2,S3,S4,S5,S6,C4,y8,y9,S10,S11]) (KQ (Ea (ZT (UH (UC C3) UO) rA) C3) (Qa C3) C3) ?_;have Au:Kr 9 8 (.lst (.lst .leaf)) (.list (As.map (wyD other)))=C5:=by simp only[Kr,QQ,Jh,QZ,Qd];refine⟨by lia,λx hx=>?_⟩;obtain⟨A,hA,rfl⟩:=Qx.mp hx;have:=hA7 A hA;unfold wyD;simp only[Kr,QQ,Jh,QZ,Qd];exact⟨by lia,λ_ _=>trivial⟩
 refine U1 (Ex C3 C3 Au (by decide +kernel) (by simp) C3) ?_;have An:As.flatten.Perm (mvL one other):=(List.perm_ext_iff_of_nodup hq.met.nd Vv).mpr λa=>⟨hq.sub a,hm a⟩
 have hasc:((mvL one other).map λi:Nat=>(i:Int)).Pairwise (· <= ·):=by rw[List.pairwise_map];unfold mvL;exact(List.Pairwise.sublist List.filter_sublist List.pairwise_lt_range).imp λh=>by lia
 have Al:Wz [.list (ntD As.flatten)]=O (.list (ntD (mvL one other))):=by unfold ntD;rw[OP (by rw[Qd];lia),EJ (An.map _) hasc]
 have eqM:oEq (.list (ntD (mvL one other))) (.list (ntD (mvL one other)))=O C5:=LW (XB λx hx=>by rw[KP]at hx;obtain⟨i,_,rfl⟩:=List.mem_map.mp hx;rfl) (Nat.le_trans (Vp (n:=0) (XA λx hx=>by rw[KP]at hx;obtain⟨i,_,rfl⟩:=List.mem_map.mp hx;simp[Ur])) (by decide));exact Kx (LG (u:=C5) (K4 (Tg (ZT (UH (Yo C3 C3) UO) Al) C3 eqM)) (K4 (UU (ZT (UH (Kn (UH (UC C3) (UH (UC C3) (UH (UC C3) UO))) C3 Aj) UO) rA) (UC C3) eqA))) C3
theorem GR:∀ns:C8,ns.length<=63->Xf [.list (ns.map int)]=O (.bool C5):=by
 intro ns hns
 let S0:Option Sl:=O (.pub (.list (ns.map int)))
 refine Yi (ρ:=[S0,C4,C4,C4,C4,C4]) C3 ?_;unfold Wg;obtain⟨r,hr,cs,ls,rfl,g,_⟩:=CF 6 7 5 (ns:=ns) (by lia) 0;have l7:=g.l7
 let S1:Option Sl:=O (.pub (Ky cs ls))
 refine U1 (ρ1:=[S0,S1,C4,C4,C4,C4]) (KQ (Kn (UH (UC C3) (UH UK (UH UK (UH UK (UH UK UO))))) C3 hr) (Qa C3) C3) ?_;obtain⟨v8,hv8⟩:=TK ns 8 (by lia);apply KD;apply Yj (λ_ ρ=>∃x2 x3 x4 x5,ρ=[S0,S1,x2,x3,x4,x5])
 case h1=>exact V6 (UH (UU (ZS (UH (Kn (UH (UC C3) (UH UK UO)) C3 hv8) UO) (Qa C3)) (RI (UC C3) (Vs UK) (Vs UK) P6) (EQ (by lia))) UO) Th
 case h0=>exact⟨_,_,_,_,rfl⟩
 case hst=>
  rintro i d ρ hi ⟨x2,x3,x4,x5,rfl⟩;obtain⟨x,hx,rfl⟩:=Vx hi;obtain⟨c,rfl⟩:=ER hx;rw[JH];refine⟨_,Zv C3 (Kp (UV (Qa C3) C3) (Kp (UV (Qa C3) C3) Zw)),?_⟩;unfold RW
  let S2:Option Sl:=O (.pub (.int (i:Nat)))
  let S3:Option Sl:=O (.pub (.int c))
  obtain⟨r,hd0,one,rfl,Af⟩:=ON g c (30+(i:Nat))
  let S4:Option Sl:=O (.pub (UT one))
  refine U1 (ρ1:=[S0,S1,S2,S3,S4,x5]) (KQ (Kn (UH (UC C3) (UH (UC C3) (UH (UU UK (UC C3) ZJ) UO))) C3 hd0) (Qa C3) C3) ?_;obtain⟨v,hv⟩:=TK ns (31+i) (by lia);obtain⟨r,hd1,other,rfl,AH⟩:=ON g v (70+(i:Nat));have hv':Zl [.list (ns.map int),.int (31+(i:Nat))]=O (.int v):=hv;refine U1 (ρ1:=[S0,S1,S2,S3,S4,pb (UT other)]) (KQ (Kn (UH (UC C3) (UH (Kn (UH (UC C3) (UH (UU UK (UC C3) ZJ) UO)) C3 hv') (UH (UU UK (UC C3) ZJ) UO))) C3 hd1) (Qa C3) C3) ?_;obtain⟨r,hF,ds,rfl,hl,hd⟩:=TL c 50 (sizes:=[5]) (by decide) (by decide)
  obtain⟨k,rfl⟩:∃k,ds=[k]:=by
   match ds,hl with
   |[k],_=>exact⟨k,rfl⟩
  have hk:oIx (.list [.int k]) (.int 0)=O (.int k):=Kv (j:=0) C3;apply KD;apply Ko (ρ1:=[S0,S1,S2,S3,S4,pb (UT other)])
  case h1=>exact UU (UU (Kn (UH (UC C3) (UH UK (UH (ZS (UH UK UO) (Qa C3)) UO))) C3 hF) UK hk) UK Tb
  case h2=>intro _;refine ZX (show Km 5 (Xx 4) [S0,S1,S2,S3,S4,pb (UT other)]=.nx [S0,S1,S2,S3,S4,O (.own (one.map UI))]from Zc (SO C3 (show Yh [UT one]=O (one.map UI)from rfl)) (Qa C3) C3) (KG ?_);have hr:=Se g Af Af;exact Ko (b:=C6) (ρ1:=[S0,S1,S2,S3,S4,pb (UT one)]) (K1 (Z0 (t:=C5) (Yp (Kn (UH (UC C3) (UH (UC C3) (UH (Yo C3 C3) UO))) C3 hr))) (Z0 (t:=C5) (Yp (Kn (UH (UC C3) (UH (UC C3) (UH (UC C3) UO))) C3 hr)))) (λz=>by cases z) λ_=>KL (Zu ⟨_,_,_,_,rfl⟩)
  case h3=>intro _;refine KL (KG ?_);exact Ko (b:=C6) (ρ1:=[S0,S1,S2,S3,S4,pb (UT other)]) (K1 (Z0 (t:=C5) (Yp (Kn (UH (UC C3) (UH (UC C3) (UH (UC C3) UO))) C3 (Se g Af AH)))) (Z0 (t:=C5) (Yp (Kn (UH (UC C3) (UH (UC C3) (UH (UC C3) UO))) C3 (Se g AH Af))))) (λz=>by cases z) λ_=>KL (Zu ⟨_,_,_,_,rfl⟩)
 case hend=>rintro ρ ⟨x2,x3,x4,x5,rfl⟩;exact KG (Kx UK rfl)
end
end W
open PySem PySem.W PyProof.Rows
set_option maxRecDepth 100000 in
set_option maxHeartbeats 0 in
theorem PySem.Challenge.cw_wishdeal_k29_partings_holds : PySem.Challenge.rw_wishdeal_k29_partings.Holds := by
 w_on;o_law
 refine holds_open (q:=W.q0) (loose:=[]) (Xt:=λs=>xlAt W.q0 [] s&&recOk [] s) (XP:=XL W.q0 []) (Yf:=Hook.obs .none) (Ya:=Hook.val .none) (YP:=Hook.says .none) (N:=2396) (d:=W.d_at) (kwd:=[])
  W.NX (Hook.of .none) (Hook.keeps .none) (λs e=>xl_of s (Bool.and_eq_true_iff.mp e).1) XL.keeps (by rfl) (by rfl) (by rfl)
  (λs e=>recFacts_of (Bool.and_eq_true_iff.mp e).2) (by rfl) (by assumption) (by decide +kernel) ⟨rfl,rfl,rfl,rfl,rfl,by decide +kernel⟩ ?hw (W.walk W.GR)
 case hw=>w_witness2


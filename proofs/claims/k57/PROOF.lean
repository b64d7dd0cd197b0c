import PyProof.Rows.All
import Wide.All
import OpenK.AllK
import Wide.FinOn
import Lean
import PyProof.EqAt
import PyProof.EqKinds
import PyProof.TupleCall
import PyProof.EnumMake
import PyProof.ZipIter
import PyProof.ExcClass2
import PyProof.ExcInit
import PyProof.ExcBaseAll.ValueError
import PyProof.FString2
import PyProof.ExcArgsOwn
import PyProof.InstStoreFacts
import ObjForm.Fk.InstStore
import ObjForm.Fk.InstLoad
import PyProof.StationsW
import PyProof.RulesAs
import PyProof.NsDelKeeps
import OpenK.KMore
import PyProof.IsiBase
import OpenK.KNot
import PyProof.Rows.RuleN_isinstance
import PyProof.NeData
import PyProof.P3In
import PyProof.StrWalks
import PyProof.ConsumeWalk
import PyProof.SliceStr2
import PyProof.MeetsStr
import KE.KItem
import KE.KUnpack
import KE.KRevSl
import PyProof.Rows.SetFrom
import PyProof.SetRoads
import PyProof.Rows.Range3
import PyProof.CallType
import PyProof.Rows.CallKwBuiltin
import PyProof.Rows.MinMaxN
import PyProof.SumWalkG
import PyProof.Rows.SeqMore
import PyProof.Rows.SortWalk
import PyProof.Rows.SumAny
import PyProof.Rows.SeqMore2
import KE.KSortTup
import PyProof.Rows.SortShellK
import PyProof.ReprRoads
import PyProof.ReprBulk
import PyProof.CallFns
import PyProof.NeKinds
import PyProof.Rows.StrJoinMade
import PyProof.StrCalls
import KE.KIntText
import PyProof.ReprDict
import PyProof.DictIter
import PyProof.Rows.DictUnroll
import PyProof.MeetsStr2
import PyProof.Rows.StrNews
import PyProof.StrLawsChain
import PyProof.Rows.StrItems
import PyProof.SeqRoads2
import PyProof.Rows.StrNews2
import PyProof.Rows.StrLawsPart
import PyProof.Rows.StrFirst
import PySem.Challenge.RW_wishdeal_k57_whole_just_the_webs_dealing
set_option compiler.extract_closed false
set_option Elab.async false
set_option linter.all false
set_option maxRecDepth 100000
set_option maxHeartbeats 0
noncomputable section
open Option renaming some→zd,none→zj
open Bool renaming true→zk,false→zm
theorem zh.{u}{α:Sort u}{a:α}:a=a:=rfl
abbrev zo:=List Int
abbrev zx:=Option Int
abbrev zE:=Option Bool
def Qa:type_of% @of_decide_eq_true:=@of_decide_eq_true
def Qu:type_of% @if_pos:=@if_pos
def QH:type_of% @if_neg:=@if_neg
def QW:type_of% @decide_eq_true:=@decide_eq_true
def QZ:type_of% @decide_eq_false:=@decide_eq_false
def Q9:type_of% @of_decide_eq_false:=@of_decide_eq_false
def Jg:type_of% @decide_eq_true_eq:=@decide_eq_true_eq
def J5:type_of% @congrArg:=@congrArg
def Uj:type_of% @decide_eq_decide:=@decide_eq_decide
open List renaming length_map→Qb,getElem?_map→Qd,getElem?_eq_getElem→Qe,getElem?_eq_some_iff→Qg,length_append→Qi,mem_cons_of_mem→Qj,mem_cons_self→Ql,getD_eq_getElem?_getD→Qm,mem_map→Qo,mem_of_getElem?→Qq,getElem?_set_ne→Qr,length_range→Qs,length_nil→Qt,mem_singleton→Qv,getElem?_append_left→Qw,getElem?_append_right→Qx,nil_append→Qy,getElem?_replicate→Qz,map_append→QA,mem_cons→QB,map_cons→QC,length_replicate→QF,mem_append→QG,mem_append_right→QI,filter_eq_self→QJ,length_cons→QL,mem_range→QN,map_map→QO,getElem?_set_self→QQ,getElem?_range→QR,length_take→QT,length_singleton→QX,mem_append_left→Q0,all_eq_true→Q2,append_assoc→Q5,lookup_cons→Q6,length_filterMap_le→Q7,zip_cons_cons→Ja,length_set→Jc,append_nil→Jd,size_toArray→Jf,length_drop→Ji,mem_filter→Jl,take_length→Jm,mem_filterMap→Jn,getElem_mem→Jp,drop_eq_getElem_cons→Jr,flatten_cons→Js,foldl_cons→Ju,filterMap_cons→JB,getElem?_eq_none→JD,mem_of_mem_take→JG,any_eq_true→JK,pairwise_cons→JL,map_replicate→JM,take_succ→JN,length_zip→JP,getElem?_cons_succ→JX,mem_flatten→JY,getElem_map→JZ,length_pos_of_mem→J0,take_append_drop→J6,length_filter_le→J7,ext_getElem?→J8,any_map→J9,all_map→Ua,nodup_cons→Ud,count_cons→Uf,find?_eq_none→Ug,all_cons→Uk,range→Uw,replicate→Ux,Pairwise→UH
open PySem renaming wpAny_bind→Qf,wpAny_pure→Qn,wpAny_mono→QK,wpAny_truthy_bool→Q3,wpAny_loadPart_at→Q4,mem_of_lookup→Jh,wpAny_isSubtype_exc→Jq,wpAny_passesOwn→Jt,wpAny_pyIter_list→Jx,wpAny_standAt→JA,Value→Ul,Shared→Um,Program→Uo,Addr→Up,FuncData→Uq,Expr→Ur,sizeLine→Us,wpAny→Ut,starEach→Uu,compareOp→Uv,assignEach→UJ,foldedSetIterable→UK
open PySem.Heap renaming lt_size→Qh,get?_push_of_some→Qk,get?_push_size→QD,size_push→JF
open Nat renaming le_refl→Qp,lt_of_lt_of_le→QE,le_trans→QP,ne_of_lt→QS,zero_add→QU,not_lt_zero→Je,le_of_not_lt→Jj,succ_pos→Jk,lt_irrefl→Jo,ne_of_gt→JE,lt_succ_self→JJ,le_succ→JR,zero_le→JS,lt_succ_of_lt→JU,lt_succ_iff_lt_or_eq→JW,le_of_lt→Uh
open Bool renaming and_eq_true→QM,eq_iff_iff→JO,and_eq_true_iff→JV,false_eq_true→J4
open Int renaming toNat_natCast→QY,le_refl→Jb,zero_add→Jv,le_antisymm→JQ,le_trans→JT,mul_zero→Ub,not_lt→Ui
open Option.some renaming inj→Q8
open PySem.W.Fast renaming te1987589406359920131→Jw
open Array renaming getD_eq_getD_getElem?→Jy,length_toList→Uc
open Option renaming map_eq_some_iff→Jz
open PySem.W renaming kia_one→JC
open PyProof.Rows renaming callWith_type1→JH
open List.cons renaming inj→JI
open Array.Perm renaming refl→Ue
open PySem.PyData renaming list→Uy,bool→Uz,str→UA,strOk→UB,canLayAll0→UC,depth→UD,eqv→UE,shown→UI
open PySem.PassesOwn renaming never→UF
open PySem.Str renaming ofString→UG
abbrev zq:=List Ur
abbrev zr:=List Ul
abbrev zu:=List Up
abbrev zw:=Option Ul
abbrev zD:=Option Up
abbrev L3:=List (List zo)
abbrev LO:=List zx
abbrev zA:=List LO
abbrev zC:=Option LO
abbrev LP:=List (Int×Int)
open PySem.W (Frag)
open PySem.PyData (int)
open List (replicate)
namespace DL
open PySem PySem.Spec PySem.W PyProof.Rows
def topRunT(tb:String->Option Builtin)(p:Uo)(w:World)(m:Nat)(ann:zw):Nat->SharedT->Thread->Option SharedT
 |0,_,_=>zj
 |n+1,s,t=>match through t,stepOk m ann t with
  |true,_=>zd s
  |false,zm=>zj
  |false,zk=>match stepT (denote tb) p w s t with
   |some x=>topRunT tb p w m ann n x.1 x.2
   |none=>zj
theorem E4      : ∀{n}{s s'}{t},topRunT tb p w m ann n s t=zd s'->topRun tb p w m ann n s.abs t=zd s'.abs
 |0,_,_,_,h=>by cases h
 |n+1,s,s',t,h=>by
  rw[topRunT]at h;rw[topRun];cases ht:through t with
  |true=>simp_all
  |false=>
   rw[ht]at h;cases hk:stepOk m ann t with
   |false=>simp_all
   |true=>
    rw[hk]at h;dsimp only at h⊢;cases hs:stepT _ p w s t with
    |none=>rw[hs]at h;cases h
    |some x=>rw[hs]at h;rw[stepT_spec hs];exact E4 h
def btOf(l:List Obj):BT:=(l.foldl (λ(x:BT×Nat) o=>(x.1.ins x.2 o,x.2+1)) (.nil,0)).1
noncomputable def T0 (w:World) (os:OsState):SharedT:=⟨btOf (boot_heap w.params).objs.toList,11,(boot_heap w.params).life,#[],boot_drawn,boot_toks,os⟩
def jU(w)(os):(T0 w os).abs=⟨boot_heap w.params,#[],boot_drawn,boot_toks,os⟩:=by kernel_rfl
def wv(w:World):((boot_heap w.params).isNs mainGlobals&&(#[]:Array GenState).size==0,(boot_heap w.params).objs.size,(boot_heap w.params).nsMap mainGlobals "__annotations__")=(zk,11,zd (.ref 6)):=by kernel_rfl
noncomputable abbrev Bj (p q:Uo) (loose:List Str) (Xt:Um->Bool) (w:World) (t:SharedT):=
 ((staticsOk (importedModules p.main.body) (boot_heap w.params) t.abs.heap&&namesBound p t.abs.heap&&gensDone t.abs&&laidKept (boot_heap w.params) t.abs.heap),openSeen q loose (importedModules p.main.body) Xt zk t.abs)
def qd   {Xt}{N M:Nat}(e:opening p=plainProg p.main.scope.names)(hN:Nat.ble 600 N=zk)(f:∀s,fenceModules? p s=zd s)(le:Nat.ble M N=zk)
  (run:∀(w:World)(os:OsState),(topRunT treeTable p w 11 (zd (.ref 6)) M (T0 w os) (topStub p)).map (Bj p q loose Xt w)=zd (zk,openGood q loose)):LeftO p q loose Xt (Hook.obs .none) (Hook.val .none) N:=λw=>by
 obtain⟨⟨h,gs,d,k,os⟩,e0,e'⟩:=Option.map_eq_some_iff.mp (boot_open e hN f w);obtain⟨rfl,rfl,rfl,rfl⟩:h=boot_heap w.params/\gs=#[]/\d=boot_drawn/\k=boot_toks:=by simpa only[Prod.mk.injEq]using e'
 obtain⟨t,ht,l⟩:=Jz.mp (run w os);have hr:=E4 ht;rw[jU]at hr;have r:=topRun_mono (N-M) _ _ _ _ hr;rw[show M+(N-M)=N by have:=Nat.le_of_ble_eq_true le;lia]at r;obtain⟨l1,l2⟩:=Prod.mk.inj l;have z:=wv w;obtain⟨z1,z2,z3⟩:_/\_/\_:=by simpa only[Prod.mk.injEq]using z
 have tf:topFrom treeTable p w N ⟨boot_heap w.params,#[],boot_drawn,boot_toks,os⟩=zd t.abs:=by
  unfold topFrom;dsimp only;rw[z1,z2,z3,r]
  show(match staticsOk _ _ t.abs.heap&&namesBound p t.abs.heap&&gensDone t.abs&&laidKept _ t.abs.heap with|true=>zd t.abs|false=>zj)=_
  rw[l1]
 unfold openEnds;rw[e0]
 show(topFrom treeTable p w N _).map _=_
 rw[tf];exact J5 zd (Prod.ext l2 zh)
end DL
open PySem in
lay_quick PySem.Challenge.pw_wishdeal_k57_whole_just_the_webs_dealing DL.topRunT PySem.W.openGood PySem.W.staticsOk PySem.W.namesBound PySem.W.laidKept PySem.W.xlAt
namespace W
open PySem PySem.Spec DL
noncomputable abbrev p0:Uo:=PySem.Challenge.pw_wishdeal_k57_whole_just_the_webs_dealing
noncomputable def WE:List Nat:=[1,2,3,4,6,7,8,10,11,12,13,14,15,16,17,18,19,20,21,23,24,25,27,28,29,31,32,33,35,36,37,38,39,40,42,43,44,45,47,48,49,50,51,52,54,56,57,58,59,60,61,62,63,64,65,66,67,69,70,71,72,73,74,76,78,79,80,81,82,83,84,85,86,87,88,89,90,91,92,93,94]
noncomputable def ixL:List Nat:=[1,2,3,4,14,15,16,17,18,19,20,21,23,24,25,28,29,31,32,33,35,36,37,38,39,40,42,43,44,45,47,48,49,50,51,52,54,56,57,58,59,60,61,62,63,64,65,66,67,69,70,71,72,73,74,76,78,79,80,81,82,83,84,85,86,87,88,89,90,91,92,93,94]
abbrev q0:Uo:=PySem.W.view p0 WE
def Bh:∀(w:World)(os:OsState),(PySem.W.Fast.tw10708255244068714335 PySem.W.Fast.tw14364793385576792824 PySem.W.Fast.tw11961674112670077725 w 11 (zd (.ref 6)) 3213 (T0 w os) (PySem.W.topStub PySem.W.Fast.tw11961674112670077725)).map (λt=>((PySem.W.Fast.tw13471830651028734593 (PySem.W.Fast.tw5923862056798008813 (Program.main PySem.W.Fast.tw11961674112670077725).body) (PySem.W.boot_heap w.params) t.abs.heap&&PySem.W.Fast.tw4683006035507612052 PySem.W.Fast.tw11961674112670077725 t.abs.heap&&PySem.W.gensDone t.abs&&PySem.W.Fast.tw16898566250750103049 (PySem.W.boot_heap w.params) t.abs.heap),PySem.W.Fast.tw4187177175401517315 (PySem.W.view PySem.W.Fast.tw11961674112670077725 WE) [] (PySem.W.Fast.tw5923862056798008813 (Program.main PySem.W.Fast.tw11961674112670077725).body) (λs=>PySem.W.Fast.tw4757257242682413121 (PySem.W.view PySem.W.Fast.tw11961674112670077725 WE) [] s&&PySem.W.recOk [] s) zk t.abs))=zd (zk,PySem.W.Fast.tw3486900944545009338 (PySem.W.view PySem.W.Fast.tw11961674112670077725 WE) []):=by intro w os;kernel_rfl
def DW:PySem.W.LeftO p0 q0 [] (λs=>PySem.W.xlAt q0 [] s&&PySem.W.recOk [] s) (PySem.W.Hook.obs .none) (PySem.W.Hook.val .none) 6326:=by
 refine qd (M:=3213) (by kernel_rfl) zh (λs=>by kernel_rfl) zh λw os=>?_
 have h:=Bh w os;rw[←PySem.W.Fast.te10708255244068714335,←PySem.W.Fast.te14364793385576792824,←PySem.W.Fast.te4187177175401517315,←PySem.W.Fast.te5923862056798008813,←PySem.W.Fast.te13471830651028734593,←PySem.W.Fast.te4683006035507612052,←PySem.W.Fast.te16898566250750103049,←PySem.W.Fast.te4757257242682413121,←PySem.W.Fast.te3486900944545009338,←PySem.W.Fast.te11961674112670077725]at h;exact h
end W
namespace L2
open PySem PySem.Spec PyProof.Rows
abbrev Key:=Sum Int Str
abbrev zB:=List Key
noncomputable def Rv:Key->Ul->Bool
 |.inl k,v=>Value.isInt k v
 |.inr x,v=>Value.isStrOf x v
noncomputable def keyH(w:World):Key->Int
 |.inl k=>hashInt k
 |.inr x=>hashStr w x
def Vs:∀{k}{v},Rv k v=zk->(∃i t,k=Sum.inl i/\v=Value.int i t)∨(∃x t,k=Sum.inr x/\v=Value.str x t)
 |.inl i,v,h=>by obtain⟨t,e⟩:=Value.isInt_shape   h;exact .inl ⟨i,t,rfl,e⟩
 |.inr x,v,h=>by obtain⟨t,e⟩:=Value.isStrOf_shape   h;exact .inr ⟨x,t,rfl,e⟩
def wu(i:Int)(t:Tok):Rv (.inl i) (.int i t)=zk:=by simp[Rv,Value.isInt]
def wU(x:Str)(t:Tok):Rv (.inr x) (.str x t)=zk:=by simp[Rv,Value.isStrOf]
noncomputable def BC(a b):decide ((Sum.inl a:Key)=Sum.inl b)=(a==b):=by
 by_cases e:a=b
 .subst e;simp
 .simp_all
noncomputable def BB(a b):decide ((Sum.inr a:Key)=Sum.inr b)=decide (a=b):=by simp_all
noncomputable def BA(a)(b):decide ((Sum.inl a:Key)=Sum.inr b)=zm:=QZ (λq=>nomatch q)
noncomputable def Bz(a)(b):decide ((Sum.inr a:Key)=Sum.inl b)=zm:=QZ (λq=>nomatch q)
def Xy(prog:Uo)(w:World):PySem.KeyKind prog w Key where
 is:=Rv
 hash:=keyH w
 inj:=λv a b ha hb=>by
  rcases Vs ha with ⟨i,t,rfl,rfl⟩|⟨x,t,rfl,rfl⟩
  .rcases Vs hb with ⟨j,u,rfl,e⟩|⟨y,u,rfl,e⟩
   .injection e with e1 _;rw[e1]
   .exact nomatch e
  .rcases Vs hb with ⟨j,u,rfl,e⟩|⟨y,u,rfl,e⟩
   .exact nomatch e
   .injection e with e1 _;rw[e1]
 byValue:=λk v h=>by rcases Vs h with ⟨i,t,rfl,rfl⟩|⟨x,t,rfl,rfl⟩<;>rfl
 pyHash:=λhv h=>by
  rcases Vs hv with ⟨i,t,rfl,rfl⟩|⟨x,t,rfl,rfl⟩
  .exact wpAny_pyHash_int h
  .exact wpAny_pyHash_str h
 eqBool:=λhu hv h=>by
  rcases Vs hu with ⟨i,t,rfl,rfl⟩|⟨x,t,rfl,rfl⟩
  .rcases Vs hv with ⟨j,u,rfl,rfl⟩|⟨y,u,rfl,rfl⟩
   .rw[BC]at h;exact wpAny_eqBool_int h
   .rw[BA]at h;exact SeqAt.EqAt.int_str i t y u _ _ _ _ h
  .rcases Vs hv with ⟨j,u,rfl,rfl⟩|⟨y,u,rfl,rfl⟩
   .rw[Bz]at h;exact SeqAt.EqAt.str_int x t j u _ _ _ _ h
   .rw[BB]at h;exact wpAny_eqBool_str h
 «strs»:=λk x t v h=>by
  rcases Vs h with ⟨i,u,rfl,e⟩|⟨y,u,rfl,e⟩
  .exact nomatch e
  .injection e with e1 _
   subst e1;cases v<;>rfl
def w9(prog)(w)(i)(t):(Xy prog w).is (.inl i) (.int i t)=zk:=wu i t
def w8(prog)(w)(x)(t):(Xy prog w).is (.inr x) (.str x t)=zk:=wU x t
inductive V where
 |non|bl (b:Bool)|int (i:Int)|str (x:Str)|byt (b:Array UInt8)|flt (b:UInt64)|ref (a:Up)|ty (n:String)
 deriving DecidableEq
noncomputable def RelV:V->Ul->Prop
 |.non,u=>u=Value.none
 |.bl b,u=>u=Value.bool b
 |.int i,u=>∃t,u=Value.int i t
 |.str x,u=>∃t,u=Value.str x t
 |.byt b,u=>∃t,u=Value.bytes b t
 |.flt b,u=>∃t,u=Value.float b t
 |.ref a,u=>u=Value.ref a
 |.ty n,u=>u=Value.type n
abbrev Vals:List V->zr->Prop:=Paired RelV
def Vals.length{xs:List V}{us:zr}(r:Vals xs us):xs.length=us.length:=Paired.length r
def Vals.get:∀{xs}{us}{i:Nat}{x},Vals xs us->xs[i]?=zd x->∃u,us[i]?=zd u/\RelV x u
 |_,_,_,_,.nil,e=>by simp_all
 |_,_,0,_,.cons r _,e=>by simp at e;subst e;exact⟨_,rfl,r⟩
 |_,_,i+1,x,.cons _ t,e=>by obtain⟨u,h1,h2⟩:=Vals.get   t (by simpa using e);exact⟨u,by simpa using h1,h2⟩
def Vals.set   (r:RelV x u):∀{xs}{us}(i),Vals xs us->Vals (xs.set i x) (us.set i u)
 |_,_,_,.nil=>.nil
 |_,_,0,.cons _ t=>.cons r t
 |_,_,i+1,.cons q t=>.cons q (Vals.set r i t)
def Vals.append:∀{xs ys}{us ws},Vals xs us->Vals ys ws->Vals (xs++ys) (us++ws)
 |_,_,_,_,.nil,s=>s
 |_,_,_,_,.cons r t,s=>.cons r (Vals.append t s)
def Vals.take:∀{xs}{us}(n),Vals xs us->Vals (xs.take n) (us.take n)
 |_,_,0,_=>.nil
 |_,_,_+1,.nil=>.nil
 |_,_,n+1,.cons r t=>.cons r (Vals.take n t)
def Vals.drop:∀{xs}{us}(n),Vals xs us->Vals (xs.drop n) (us.drop n)
 |_,_,0,r=>r
 |_,_,_+1,.nil=>.nil
 |_,_,n+1,.cons _ t=>Vals.drop n t
def RelO:Option V->zw->Prop
 |some v,zd u=>RelV v u
 |none,zj=>True
 |_,_=>False
def KV{κ:Type}:List (κ×V)->List (κ×Ul)->Prop:=Paired λ(p:κ×V) (q:κ×Ul)=>p.1=q.1/\RelV p.2 q.2
noncomputable def kV:Key->V
 |.inl i=>.int i
 |.inr x=>.str x
inductive HO where
  |lst (xs:List V)
  |tup (xs:List V)
  |dK (kvs:List (Key×V))|dT (kvs:List (zB×V))
  |set (S:Int->Bool) (n:Nat)
  |ins (C dx:Up) (fs:List (Str×V))
  |own (x:Up)
  |xd (fs:List (Str×V))
  |met (f x:Up)
  |rng (lo hi:Int)
  |frz (o:Obj) (u:HO)
  |tbl (ps:Array Ul)
  |ext (φ:Heap->Prop)
abbrev Hp:=Up->Option HO
noncomputable def upd(H:Hp)(a:Up)(o:HO):Hp:=λb=>if b=a then zd o else H b
def Zp{H:Hp}{a:Up}{o:HO}:upd H a o a=zd o:=by unfold upd;rw[Qu zh]
def KP{H:Hp}{a b:Up}{o:HO}(h:b≠a):upd H a o b=H b:=by unfold upd;rw[QH h]
noncomputable def DV{H:Hp}{a b}{o u}(h:H a=zd o)(h':H b=zd u)(d:o≠u):a≠b:=by intro e;subst e;rw[h]at h';exact d (Q8 h')
noncomputable def YN{H:Hp}{a b}{o}(h:H a=zd o)(h':H b=zj):a≠b:=by
 lia
section
variable(P:Uo)(w:World)
def Yv(H:Hp)(h:Heap)(a:Up):HO->Prop
 |.lst xs=>xs.length<=Us/\∃(its:zr)(n:Nat),Vals xs its/\h.get? a=zd {cls:=.type "list", data:=.seq its.toArray n}
 |.tup xs=>xs.length<=Us/\∃its:zr,Vals xs its/\IsTup h a its.toArray
 |.dK kvs=>kvs.length<=Us/\(a==sysModules)=zm/\∃vs,KV kvs vs/\h.DictOf (Xy P w) a vs
 |.dT kvs=>kvs.length<=Us/\(a==sysModules)=zm/\∃xs:List (zB×Up×Ul),
   Paired (λ(p:zB×V) (q:zB×Up×Ul)=>p.1=q.1/\H q.2.1=zd (.tup (p.1.map kV))/\RelV p.2 q.2.2) kvs xs /\
   ∃o es ep,h.get? a=zd o/\o.ExactDict/\o.data=.dict es ep/\es.toList=xs.map (entryOfKey (tupleKind (Xy P w)))/\(xs.map (·.1)).Nodup
 |.set S n=>h.SetOf (intKind P w) a S n
 |.ins C dx fs=>H dx=zd (.own a)/\fs.length<=1000/\dx≠a/\h.get? a=zd (PySem.W.instObj C dx) /\
   ∃mA,h.Ns1 dx mA/\(∀f,RelO (fs.lookup f) (mA f))/\PySem.Within mA (fs.map (·.1))
 |.own _=>∃o,h.get? a=zd o
 |.xd fs=>∃mA,h.Ns1 a mA/\∀f,RelO (fs.lookup f) (mA f)
 |.rng lo hi=>∃t u v,h.get? a=zd {cls:=.type "range", data:=.fields #[.int lo t,.int hi u,.int 1 v]}
 |.frz o u=>h.get? a=zd o/\Yv H h a u
 |.tbl ps=>h.get? a=zd {cls:=.none,data:=.fields ps}
 |.met f x=>h.get? a=zd (PySem.W.methodObj (.ref f) (.ref x))
 |.ext φ=>φ h/\(∃o,h.get? a=zd o)/\∀h1 h2:Heap,φ h1->(∀o,h1.get? a=zd o->h2.get? a=zd o)->φ h2
def HOk(H:Hp)(h:Heap):Prop:=∀a o,H a=zd o->Yv P w H h a o
end
section
variable{P:Uo}{w:World}{H H':Hp}{h h':Heap}{a:Up}{o:HO}
def Yv.lt(x:Yv P w H h a o):a<h.objs.size:=by
 cases o with
 |lst xs=>obtain⟨_,_,_,_,e⟩:=x;exact Qh e
 |tup xs=>obtain⟨_,_,_,p⟩:=x;exact p.lt
 |dK kvs=>obtain⟨_,_,_,_,o,_,_,e,_⟩:=x;exact Qh e
 |dT kvs=>obtain⟨_,_,_,_,o,_,_,e,_⟩:=x;exact Qh e
 |set S n=>obtain⟨o,_,_,_,e,_⟩:=x;exact Qh e
 |ins C dx fs=>obtain⟨_,_,_,e,_⟩:=x;exact Qh e
 |own y=>obtain⟨_,e⟩:=x;exact Qh e
 |xd fs=>obtain⟨_,⟨_,_,_,e,_⟩,_⟩:=x;exact Qh e
 |rng lo hi=>obtain⟨_,_,_,e⟩:=x;exact Qh e
 |frz ob u=>obtain⟨e,_⟩:=x;exact Qh e
 |tbl ps=>exact Qh (x)
 |met f y=>exact Qh (x)
 |ext φ=>obtain⟨_,⟨_,e⟩,_⟩:=x;exact Qh e
noncomputable def Paired.mapP   : ∀{l₁:List α}{l₂:List β},Paired F l₁ l₂->(∀a b,F a b->G a b)->Paired G l₁ l₂
 |_,_,.nil,_=>.nil
 |_,_,.cons r t,f=>.cons (f _ _ r) (Paired.mapP t f)
def Yv.stay(x:Yv P w H h a o)(k:∀b u,(b=a∨H b=zd (.own a))->h.get? b=zd u->h'.get? b=zd u)
  (ho:∀b,H b=zd (.own a)->H' b=zd (.own a)) (ht:∀b xs,H b=zd (.tup xs)->H' b=zd (.tup xs)):Yv P w H' h' a o:=by
 induction o with
 |lst xs=>obtain⟨z,its,n,r,e⟩:=x;exact⟨z,its,n,r,k _ _ (.inl zh) e⟩
 |tup xs=>obtain⟨z,its,r,ob,e,c⟩:=x;exact⟨z,its,r,ob,k _ _ (.inl zh) e,c⟩
 |dK kvs=>obtain⟨z,y,vs,r,ob,es,ep,e,c⟩:=x;exact⟨z,y,vs,r,ob,es,ep,k _ _ (.inl zh) e,c⟩
 |dT kvs=>obtain⟨z,y,xs,r,ob,es,ep,e,c⟩:=x;exact⟨z,y,xs,Paired.mapP r λp q z=>⟨z.1,ht _ _ z.2.1,z.2.2⟩,ob,es,ep,k _ _ (.inl zh) e,c⟩
 |set S n=>obtain⟨ob,es,ep,t,e,c⟩:=x;exact⟨ob,es,ep,t,k _ _ (.inl zh) e,c⟩
 |ins C dx fs=>obtain⟨d,z,ne,e,mA,⟨od,es,ep,e2,c⟩,r⟩:=x;exact⟨ho _ d,z,ne,k _ _ (.inl zh) e,mA,⟨od,es,ep,k _ _ (.inr d) e2,c⟩,r⟩
 |own y=>obtain⟨ob,e⟩:=x;exact⟨ob,k _ _ (.inl zh) e⟩
 |xd fs=>obtain⟨mA,⟨od,es,ep,e,c⟩,r⟩:=x;exact⟨mA,⟨od,es,ep,k _ _ (.inl zh) e,c⟩,r⟩
 |rng lo hi=>obtain⟨t,u,v,e⟩:=x;exact⟨t,u,v,k _ _ (.inl zh) e⟩
 |frz ob u ih=>obtain⟨e,q⟩:=x;exact⟨k _ _ (.inl zh) e,ih q⟩
 |tbl ps=>have e   :=x;exact k a _ (.inl zh) e
 |met f y=>have e   :=x;exact k a _ (.inl zh) e
 |ext φ=>obtain⟨p,⟨o,e⟩,st⟩:=x;exact⟨st _ _ p λo q=>k _ _ (.inl zh) q,⟨o,k _ _ (.inl zh) e⟩,st⟩
noncomputable def HOk.lt(x:HOk P w H h)(e:H a=zd o):a<h.objs.size:=(x a o e).lt
def HOk.fresh(x:HOk P w H h)(e:h.objs.size<=a):H a=zj:=by
 cases q:H a with
 |none=>rfl
 |some u=>exact absurd (QE (x.lt q) e) (Jo _)
def HOk.kept(x:HOk P w H h)(k:∀b u,h.get? b=zd u->h'.get? b=zd u):HOk P w H h':=λa o e=>
 (x a o e).stay (λb u _ q=>k b u q) (λ_ q=>q) λ_ _ q=>q
def HOk.laid(x:HOk P w H h)(k:∀b u,h.get? b=zd u->h'.get? b=zd u)(hp:h.objs.size<=a)(new:Yv P w (upd H a o) h' a o):HOk P w (upd H a o) h':=λb u e=>by
 have hn:=x.fresh hp;by_cases hb:b=a
 .subst hb;rw[Zp]at e;simp_all
 .rw[KP hb]at e
  exact(x b u e).stay (λc v _ q=>k c v q) (λc q=>by rw[KP (YN q hn)];exact q) λc xs q=>by rw[KP (YN q hn)];exact q
end
def Rd(H:Hp)(a:Up)(u:HO):Prop:=H a=zd u ∨ ∃o,H a=zd (.frz o u)
def Rd.ok   {H}{h}{a}{u}(r:Rd H a u)(x:HOk P w H h):Yv P w H h a u:=by
 rcases r with r|⟨o,r⟩
 .exact x a u r
 .obtain⟨_,q⟩:=x a _ r
  exact q
def Mut:Option HO->Prop
 |some (.lst _)=>True
 |some (.dK _)=>True
 |some (.dT _)=>True
 |some (.set _ _)=>True
 |some (.ins _ _ _)=>True
 |some (.ext _)=>True
 |_=>False
section
variable{P:Uo}{w:World}{H:Hp}{h h':Heap}{x e:Up}{o':HO}
def HOk.write(ok:HOk P w H h)(mu:Mut (H x))(he:e=x∨H e=zd (.own x))(k:∀b u,b≠e->h.get? b=zd u->h'.get? b=zd u)(bK:∃u,h'.get? e=zd u)
  (new:Yv P w (upd H x o') h' x o'):HOk P w (upd H x o') h':=λb u q=>by
 have nown:∀c y,H c=zd (.own y)->c≠x:=λc y r z=>by subst z;rw[r]at mu;exact mu
 have ntup:∀c xs,H c=zd (.tup xs)->c≠x:=λc xs r z=>by subst z;rw[r]at mu;exact mu
 by_cases hb:b=x
 .subst hb;rw[Zp]at q;simp_all
 .rw[KP hb]at q
  by_cases zM:b=e
  .have q':H b=zd (.own x):=by
    rcases he with z|z
    .exact absurd (zM.trans z) hb
    .rw[zM];exact z
   rw[q]at q';cases q';obtain⟨v,hv⟩:=bK;exact⟨v,by simp_all⟩
  .refine(ok b u q).stay (λc v hc r=>k c v ?_ r) (λc r=>by rw[KP (nown c b r)];exact r) λc xs r=>by rw[KP (ntup c xs r)];exact r
   rcases hc with rfl|hc
   .exact zM
   grind
end
structure Un(fs ex:zu)(H H':Hp)(h h':Heap):Prop where
 keep:∀b o,h.get? b=zd o->H b=zj->b∉fs->b∉ex->h'.get? b=zd o
 slot:∀b o,h.get? b=zd o->H b=zj->b∈fs->b∉ex->∃sl,h'.get? b=zd {o with slots:=sl}
 free:∀b o,h.get? b=zd o->H b=zj->b∉ex->H' b=zj
 there:∀b o,h.get? b=zd o->b∉ex->∃o',h'.get? b=zd o'
 tups:∀b xs,H b=zd (.tup xs)->H' b=zd (.tup xs)
 frzs:∀b o u,H b=zd (.frz o u)->H' b=zd (.frz o u)
 tbls:∀b ps,H b=zd (.tbl ps)->∃more,H' b=zd (.tbl (ps++more))
section
variable{fs fs' ex ex':zu}{H H1 H2:Hp}{h h1 h2 h':Heap}{a x e:Up}{o:HO}
def Un.any(u:Un fs ex H H1 h h1){b}{ob}(q:h.get? b=zd ob)(n:H b=zj)(hx:b∉ex):∃sl,h1.get? b=zd {ob with slots:=sl}:=by
 by_cases hb:b∈fs
 .exact u.slot b ob q n hb hx
 .exact⟨ob.slots,u.keep b ob q n hb hx⟩
def Un.kept(k:∀b u,h.get? b=zd u->h'.get? b=zd u):Un fs ex H H h h':=
 ⟨λb ob q _ _ _=>k b ob q,λb ob q _ _ _=>⟨ob.slots,k b ob q⟩,λ_ _ _ n _=>n,λb ob q _=>⟨ob,k b ob q⟩,λ_ _ q=>q,λ_ _ _ q=>q,λ_ ps q=>⟨#[],by simp_all⟩⟩
def Un.refl:Un fs ex H H h h:=Un.kept λ_ _ q=>q
def Un.laid(k:∀b u,h.get? b=zd u->h'.get? b=zd u)(hp:h.objs.size<=a)(hn:H a=zj):Un fs ex H (upd H a o) h h' where
 keep:=λb u q _ _ _=>k b u q
 slot:=λb u q _ _ _=>⟨u.slots,k b u q⟩
 free:=λb u q n _=>by rw[KP (QS (QE (Qh q) hp))];exact n
 there:=λb u q _=>⟨u,k b u q⟩
 tups:=λb xs q=>by rw[KP (YN q hn)];exact q
 frzs:=λb u xs q=>by rw[KP (YN q hn)];exact q
 tbls:=λb ps q=>⟨#[],by rw[KP (YN q hn),q];simp⟩
def Un.write(mu:Mut (H x))(he:e=x∨H e=zd (.own x))(k:∀b u,b≠e->h.get? b=zd u->h'.get? b=zd u)(bK:∃u,h'.get? e=zd u):Un fs ex H (upd H x o) h h':=by
 have hx:∀b,H b=zj->b≠x:=λb n z=>by subst z;rw[n]at mu;exact mu
 have hb:∀b,H b=zj->b≠e:=λb n z=>by simp_all
 have hm:∀b u,H b=zd u->¬Mut (zd u)->b≠x:=λb u q nm z=>by simp_all
 refine⟨λb u q n _ _=>k b u (hb b n) q,λb u q n _ _=>⟨u.slots,k b u (hb b n) q⟩,λb u q n _=>by rw[KP (hx b n)];exact n,λb u q _=>?_,
  λb xs q=>by rw[KP (hm b _ q λz=>z)];exact q,λb u xs q=>by rw[KP (hm b _ q λz=>z)];exact q,λb ps q=>⟨#[],by rw[KP (hm b _ q λz=>z),q];simp⟩⟩
 by_cases zM:b=e
 .simp_all
 .exact⟨u,k b u zM q⟩
end
noncomputable def trk(h:Heap)(H:Hp):zu:=(Uw h.objs.size).filter λa=>(H a).isSome
def Y5(h:Heap)(H:Hp):Heap:=PySem.W.hideAll h (trk h H)
def wT(h:Heap)(H:Hp):(Y5 h H).objs.size=h.objs.size:=PySem.W.hideAll_size _ _
def jT  {H}{b}{o}(e:h.get? b=zd o)(n:H b=zj):(Y5 h H).get? b=zd o:=
 PySem.W.hideAll_get _ e λhm=>by have q   :=(Jl.mp hm).2;simp_all
def qE     (e:(Y5 h H).get? b=zd o):h.get? b=zd o/\H b=zj:=by
 have e'   :=PySem.W.of_hideAll _ e;refine⟨e',?_⟩;cases q:H b with
 |none=>rfl
 |some x=>have hm:b∈trk h H:=List.mem_filter.mpr ⟨List.mem_range.mpr (Heap.lt_size e'),by simp_all⟩;have z:(Y5 h H).get? b=zj:=PySem.W.hideAll_none _ hm;simp_all
structure Mod(K:Frag)(mg:Str->zw)(base:Heap):Prop where
 kin:K.In base
 glob:base.Ns mainGlobals mg
 blt:∃mb,base.Ns builtinsNs mb/\∀x:Str,x ≠ "__name__" -> mb x=bootBuiltins x
 nolimit:base.NoLimit
structure Cx where
 prog:Uo
 w:World
 K:Frag
 mg:Str->zw
 base:Heap
 A:Around
 N:List Str
 s₀:Um
 H₀:Hp
 env:Env
 outer:List Env
 stack:List Env
 ex:zu
 fn:Str->Bool
 calm:Bool
 pn:List (Up×Obj)
 xe:Ul->Um->Prop
noncomputable def frs(l:List Env):zu:=l.filterMap (·.frame)
abbrev Cx.fs(X:Cx):zu:=frs X.outer
def Vis(sc:Scope)(x:Str):Prop:=sc.names.lookup x=zd .local∨sc.names.lookup x=zd .cell∨sc.names.lookup x=zd .free
def Loc(sc:Scope)(x:Str):Prop:=sc.names.lookup x=zd .local∨sc.names.lookup x=zd .cell
def Look(env:Env)(h:Heap)(m:Str->zw)(x:Str)(u:Ul):Prop:=
 (env.kindOf x=zd .local/\m x=zd u)∨((env.kindOf x=zd .cell∨env.kindOf x=zd .free)/\∃c,env.cells.lookup x=zd c/\h.IsCell c (zd u))
structure Cx.Ok(X:Cx):Prop where
 mod:Mod X.K X.mg X.base
 kind:X.env.scope.kind=.function
 glob:X.env.globals=mainGlobals
 blt:X.env.builtins=builtinsNs
 above:X.s₀.heap.objs.size<=X.env.locals
 inj:∀x y c,X.env.cells.lookup x=zd c->X.env.cells.lookup y=zd c->x=y
 has:∀x,(X.env.kindOf x=zd .cell∨X.env.kindOf x=zd .free)->∃c,X.env.cells.lookup x=zd c
 cab:∀x c,X.fn x=zk->X.env.cells.lookup x=zd c->X.s₀.heap.objs.size<=c
 hd:X.calm=zk->X.A.handled=zj
 frames:X.A.frames=zd X.stack
 stk:X.stack=X.outer∨(X.stack=X.env::X.outer/\X.env.frame=zd X.env.locals)
 exf:∀b∈X.ex,b≠X.env.locals/\∀x c,X.env.cells.lookup x=zd c->c≠b
 bs:∀b o,X.base.get? b=zd o->X.s₀.heap.get? b=zd o/\X.H₀ b=zj
 bsz:X.base.objs.size<=X.s₀.heap.objs.size
 noex:∀b o,X.base.get? b=zd o->b∉X.ex
 exfs:∀b∈X.ex,b∉X.fs
 funs:X.s₀.heap.FunFrames X.base X.outer
 frf:∀b∈X.fs,X.H₀ b=zj
structure Inv(X:Cx)(pins:List (Up×Obj))(σ:List (Option V))(H:Hp)(s:Um):Prop where
 ok:X.Ok
 os:s.os=X.s₀.os
 bare:AllBare s.gens
 base:Un X.fs X.ex X.H₀ H X.s₀.heap s.heap
 loc:∃m,s.heap.Ns X.env.locals m/\∀(i:Nat)(x:Str)(v:V),X.N[i]?=zd x->σ[i]?=zd (zd v)->Vis X.env.scope x->∃u,RelV v u/\Look X.env s.heap m x u
 cell:∀x c,X.env.cells.lookup x=zd c->∃v,s.heap.IsCell c v
 free:H X.env.locals=zj
 freeC:∀x c,X.env.cells.lookup x=zd c->H c=zj
 pin:∀p∈X.pn++pins,s.heap.get? p.1=zd p.2/\H p.1=zj/\p.1≠X.env.locals/\p.1∉X.fs/\∀v,p.2.data≠.cell v
 hok:HOk X.prog X.w H s.heap
 len:σ.length=X.N.length
section
variable{X:Cx}{pins:List (Up×Obj)}{σ:List (Option V)}{H H':Hp}{s:Um}{h':Heap}
def Cx.Ok.nofr(ok:X.Ok){b}{o}(e:X.base.get? b=zd o):b∉X.fs:=λhb=>by
 have:=(ok.funs.mem hb).1
 lia
def Inv.bs(I:Inv X pins σ H s):∀b o,X.base.get? b=zd o->s.heap.get? b=zd o/\H b=zj:=λb o e=>
 ⟨I.base.keep b o (I.ok.bs b o e).1 (I.ok.bs b o e).2 (I.ok.nofr e) (I.ok.noex b o e),I.base.free b o (I.ok.bs b o e).1 (I.ok.bs b o e).2 (I.ok.noex b o e)⟩
def Inv.bk(I:Inv X pins σ H s):∀b o,X.base.get? b=zd o->s.heap.get? b=zd o:=λb o e=>(I.bs b o e).1
def Inv.mod(I:Inv X pins σ H s):Mod X.K X.mg X.base:=I.ok.mod
def Inv.kIn(I:Inv X pins σ H s):X.K.In s.heap:=I.ok.mod.kin.keeps I.bk
noncomputable def Inv.lt(I:Inv X pins σ H s):X.env.locals<s.heap.objs.size:=let ⟨_,hn,_⟩:=I.loc;hn.lt
def Inv.sz(I:Inv X pins σ H s):X.s₀.heap.objs.size<=s.heap.objs.size:=QP I.ok.above (Uh I.lt)
def Inv.nofs(I:Inv X pins σ H s){a:Up}(h:s.heap.objs.size<=a):a∉X.fs:=λhb=>by obtain⟨_,o,ho,_⟩:=I.ok.funs.mem hb;exact absurd (QE (Qh ho) (QP I.sz h)) (Jo _)
noncomputable def Inv.cne(I:Inv X pins σ H s):∀x c,X.env.cells.lookup x=zd c->c≠X.env.locals:=λx c e z=>by
 obtain⟨v,o,ho,hd⟩:=I.cell x c e;obtain⟨m,⟨o',es,ep,ho',hd',_⟩,_⟩:=I.loc
 lia
def Inv.funs(I:Inv X pins σ H s):s.heap.FunFrames X.base X.outer:=by
 have all:∀(l:List Env),(∀b∈frs l,b∈X.fs)->X.s₀.heap.FunFrames X.base l->s.heap.FunFrames X.base l:=by
  intro l;induction l with
  |nil=>intro _ _;trivial
  |cons env r ih=>
   intro hs hl;obtain⟨hk,⟨L,o,hf,hn,ho,hd⟩,hr⟩:=hl;have hL   :=hs L (by unfold frs;rw[JB,hf];exact Ql);obtain⟨sl,e⟩:=I.base.slot L o ho (I.ok.frf L hL) hL λz=>I.ok.exfs L z hL
   exact⟨hk,⟨L,_,hf,hn,e,hd⟩,ih (λb hb=>hs b (by unfold frs;rw[JB,hf];exact Qj _ hb)) hr⟩
 exact all X.outer (λ_ hb=>hb) I.ok.funs
def Inv.stack(I:Inv X pins σ H s):s.heap.FunFrames X.base X.stack:=by
 rcases I.ok.stk with e|⟨e,hf⟩
 .rw[e];exact I.funs
 .rw[e]
  obtain⟨m,hn,_⟩:=I.loc;refine .cons (by rw[I.ok.kind];decide) hf hn ?_ I.funs;exact Heap.get?_none_of_le (QP I.ok.bsz I.ok.above)
def Inv.stkSub(I:Inv X pins σ H s):∀b∈frs X.stack,b∈X.env.locals::X.fs:=λb hb=>by
 rcases I.ok.stk with e|⟨e,hf⟩
 .rw[e]at hb;exact Qj _ hb
 .rw[e]at hb
  unfold frs at hb;rw[JB,hf]at hb;exact hb
def Inv.stkFree(I:Inv X pins σ H s):∀b∈frs X.stack,H b=zj:=λb hb=>by
 rcases QB.mp (I.stkSub b hb)with e|hb
 .rw[e];exact I.free
 .obtain⟨_,o,ho,_⟩:=I.ok.funs.mem hb
  exact I.base.free b o ho (I.ok.frf b hb) λz=>I.ok.exfs b z hb
def Inv.step  {t':Nat}{d':Drawn}{ch:zu}(I:Inv X pins σ H s)
  (hch:∀b∈ch,(b∈X.ex∨X.s₀.heap.objs.size<=b)/\b≠X.env.locals/\(∀x c,X.env.cells.lookup x=zd c->c≠b)/\∀p∈X.pn++pins,p.1≠b)
  (keep:∀b o,b≠X.env.locals->b∉X.fs->b∉ch->s.heap.get? b=zd o->H b=zj->h'.get? b=zd o)
  (slot:∀b o,b≠X.env.locals->b∈X.fs->b∉ch->s.heap.get? b=zd o->H b=zj->∃sl,h'.get? b=zd {o with slots:=sl}) (free:∀b o,b∉ch->s.heap.get? b=zd o->H b=zj->H' b=zj)
  (there:∀b o,b∉ch->s.heap.get? b=zd o->∃o',h'.get? b=zd o')
  (tups:∀b xs,H b=zd (.tup xs)->H' b=zd (.tup xs)) (frzs:∀b o u,H b=zd (.frz o u)->H' b=zd (.frz o u)) (tbls:∀b ps,H b=zd (.tbl ps)->∃more,H' b=zd (.tbl (ps++more)))
  (ns:∀m,s.heap.Ns X.env.locals m->h'.Ns X.env.locals m) (hok:HOk X.prog X.w H' h') (hg:AllBare g') :
  Inv X pins σ H' {s with heap:=h',gens:=g',drawn:=d',toks:=t'}:=by
 have neL:∀b o,X.s₀.heap.get? b=zd o->b≠X.env.locals:=λb o e=>QS (QE (Qh e) I.ok.above)
 have neC:∀b o,X.s₀.heap.get? b=zd o->b∉X.ex->b∉ch:=λb o e hx hb=>by
  rcases(hch b hb).1 with z|z
  .exact hx z
  .exact absurd (QE (Qh e) z) (Jo _)
 have cellK:∀x c,X.env.cells.lookup x=zd c->∀v,s.heap.IsCell c v->h'.IsCell c v:=λx c e v ⟨o,ho,hd⟩=>by
  have nch:c∉ch:=λz=>(hch c z).2.2.1 x c e zh
  by_cases hc:c∈X.fs
  .obtain⟨sl,q⟩:=slot c o (I.cne x c e) hc nch ho (I.freeC x c e)
   exact⟨_,q,hd⟩
  .exact⟨o,keep c o (I.cne x c e) hc nch ho (I.freeC x c e),hd⟩
 refine⟨I.ok,I.os,hg,⟨λb o e n hb hx=>?_,λb o e n hb hx=>?_,λb o e n hx=>?_,λb o e hx=>?_,λb xs e=>tups b xs (I.base.tups b xs e),λb o xs e=>frzs b o xs (I.base.frzs b o xs e),λb ps e=>?_⟩,?_,λx c e=>?_,?_,λx c e=>?_,λp hp=>?_,hok,I.len⟩
 .exact keep b o (neL b o e) hb (neC b o e hx) (I.base.keep b o e n hb hx) (I.base.free b o e n hx)
 .obtain⟨sl,e1⟩:=I.base.slot b o e n hb hx
  obtain⟨zS,e2⟩:=slot b _ (neL b o e) hb (neC b o e hx) e1 (I.base.free b o e n hx);exact⟨zS,e2⟩
 .obtain⟨o',e1⟩:=I.base.there b o e hx
  exact free b o' (neC b o e hx) e1 (I.base.free b o e n hx)
 .obtain⟨o',e1⟩:=I.base.there b o e hx
  exact there b o' (neC b o e hx) e1
 .obtain⟨m1,e1⟩:=I.base.tbls b ps e
  obtain⟨m2,e2⟩:=tbls b _ e1;exact⟨m1++m2,by rw[e2,Array.append_assoc]⟩
 .obtain⟨m,hn,hl⟩:=I.loc
  refine⟨m,ns m hn,λi x v e1 e2 e3=>?_⟩;obtain⟨u,r,l⟩:=hl i x v e1 e2 e3;refine⟨u,r,?_⟩;rcases l with l|⟨k,c,e,z⟩
  .exact .inl l
  .exact .inr ⟨k,c,e,cellK x c e _ z⟩
 .obtain⟨v,z⟩:=I.cell x c e
  exact⟨v,cellK x c e v z⟩
 .obtain⟨m,⟨o,_,_,ho,_⟩,_⟩:=I.loc
  exact free _ o (λz=>(hch _ z).2.1 zh) ho I.free
 .obtain⟨v,o,ho,hd⟩:=I.cell x c e
  exact free c o (λz=>(hch c z).2.2.1 x c e zh) ho (I.freeC x c e)
 .obtain⟨e,n,ne,nf,d⟩:=I.pin p hp
  have nch:p.1∉ch:=λz=>(hch p.1 z).2.2.2 p hp zh
  exact⟨keep p.1 p.2 ne nf nch e n,free p.1 p.2 nch e n,ne,nf,d⟩
def Inv.un  (I:Inv X pins σ H s)(u:Un X.fs [] H H' s.heap h')(hok:HOk X.prog X.w H' h'):Inv X pins σ H' {s with heap:=h',toks:=t'}:=by obtain⟨m,⟨o,es,ep,ho,r⟩,_⟩:=id I.loc;obtain⟨sl,hL⟩:=u.any ho I.free (by simp);exact I.step   (ch:=[]) (λ_ z=>nomatch z) (λb o _ hb _ e n=>u.keep b o e n hb (by simp)) (λb o _ hb _ e n=>u.slot b o e n hb (by simp)) (λb o _ e n=>u.free b o e n (by simp)) (λb o _ e=>u.there b o e (by simp)) u.tups u.frzs u.tbls (λm' hm=>by obtain⟨o',es',ep',ho',r'⟩:=hm;rw[ho]at ho';cases ho';exact⟨_,es',ep',hL,r'⟩) hok I.bare
def Inv.call   {d'}{ch}(I:Inv X pins σ H s)(u:Un (frs X.stack) ch H H' s.heap h')(hok:HOk X.prog X.w H' h')(hg:AllBare g')
  (hch:∀b∈ch,(b∈X.ex∨X.s₀.heap.objs.size<=b)/\b≠X.env.locals/\(∀x c,X.env.cells.lookup x=zd c->c≠b)/\∀p∈X.pn++pins,p.1≠b) :
  Inv X pins σ H' {s with heap:=h',gens:=g',drawn:=d',toks:=t'}:=by
 obtain⟨m,⟨o,es,ep,ho,r⟩,_⟩:=id I.loc;obtain⟨sl,hL⟩:=u.any ho I.free λz=>(hch _ z).2.1 zh
 exact I.step  hch (λb o hL hb hc e n=>u.keep b o e n (λz=>(QB.mp (I.stkSub b z)).elim hL hb) hc) (λb o _ _ hc e n=>u.any e n hc) (λb o hc e n=>u.free b o e n hc) (λb o hc e=>u.there b o e hc) u.tups u.frzs u.tbls (λm' hm=>by obtain⟨o',es',ep',ho',r'⟩:=hm;rw[ho]at ho';cases ho';exact⟨_,es',ep',hL,r'⟩) hok hg
def Inv.turned  {it}(I:Inv X pins σ H s)(k:∀b o,b≠it->s.heap.get? b=zd o->h'.get? b=zd o)(hn:H it=zj)(hL:it≠X.env.locals)
  (h1:it∈X.ex∨X.s₀.heap.objs.size<=it) (h2:∀x c,X.env.cells.lookup x=zd c->c≠it) (h3:∀p∈X.pn++pins,p.1≠it):Inv X pins σ H {s with heap:=h',toks:=t'}:=by
 have nit:∀b u,H b=zd u->b≠it:=λb u e z=>by rw[z,hn]at e;cases e
 refine I.step   (ch:=[it]) (λb hb=>?_) (λb o _ _ hc e _=>k b o (λz=>hc (by simp[z])) e) (λb o _ _ hc e _=>⟨o.slots,k b o (λz=>hc (by simp[z])) e⟩) (λ_ _ _ _ n=>n)
  (λb o hc e=>⟨o,k b o (λz=>hc (by simp[z])) e⟩) (λ_ _ e=>e) (λ_ _ _ e=>e) (λb ps e=>⟨#[],by rw[e];simp⟩) (λm hm=>?_) (λb u e=>?_) I.bare
 .have e   :=by simpa using hb
  subst e;exact⟨h1,hL,h2,h3⟩
 .obtain⟨o,es,ep,ho,r⟩:=hm
  exact⟨o,es,ep,k _ o (Ne.symm hL) ho,r⟩
 .refine(I.hok b u e).stay (λc v hc q=>k c v ?_ q) (λ_ q=>q) λ_ _ q=>q
  rcases hc with z|z
  .rw[z];exact nit b u e
  .exact nit c _ z
def Inv.tok(I:Inv X pins σ H s)(t):Inv X pins σ H {s with toks:=t}:=I.un   Un.refl I.hok
def Inv.kept  (I:Inv X pins σ H s)(k:∀b u,s.heap.get? b=zd u->h'.get? b=zd u):Inv X pins σ H {s with heap:=h',toks:=t'}:=I.un (Un.kept k) (I.hok.kept k)
def Inv.laid{a:Up}{o}{t'}(I:Inv X pins σ H s)(k:∀b u,s.heap.get? b=zd u->h'.get? b=zd u)(hp:s.heap.objs.size<=a)(new:Yv X.prog X.w (upd H a o) h' a o) :
  Inv X pins σ (upd H a o) {s with heap:=h',toks:=t'}:=I.un (Un.laid k hp (I.hok.fresh hp)) (I.hok.laid k hp new)
def Inv.write    (I:Inv X pins σ H s)(mu:Mut (H x))(he:e=x∨H e=zd (.own x))(k:∀b u,b≠e->s.heap.get? b=zd u->h'.get? b=zd u)(bK:∃u,h'.get? e=zd u)
  (new:Yv X.prog X.w (upd H x o) h' x o):Inv X pins σ (upd H x o) {s with heap:=h',toks:=t'}:=I.un (Un.write mu he k bK) (I.hok.write mu he k bK new)
def Inv.pins_of  (I:Inv X pins σ H s)(h:∀p∈pins',s.heap.get? p.1=zd p.2/\H p.1=zj/\p.1≠X.env.locals/\p.1∉X.fs/\∀v,p.2.data≠.cell v):Inv X pins' σ H s:=
 ⟨I.ok,I.os,I.bare,I.base,I.loc,I.cell,I.free,I.freeC,λp hp=>(QG.mp hp).elim (λz=>I.pin p (Q0 _ z)) (h p),I.hok,I.len⟩
noncomputable def Fg{N:List Str}(hN:N.Nodup){i j:Nat}{x}(a:N[i]?=zd x)(b:N[j]?=zd x):i=j:=by obtain⟨h1,e1⟩:=Qg.mp a;obtain⟨h2,e2⟩:=Qg.mp b;exact(List.getElem_inj hN).mp (e1.trans e2.symm)
def Lc{M:Model}{A:Around}{E:Ul->Um->Prop}{i:Nat}{x:Str}{v:V}{u:Ul}{Q:Unit->Um->Prop}(I:Inv X pins σ H s)(hN:X.N.Nodup)(hi:X.N[i]?=zd x)(hx:Loc X.env.scope x)(r:RelV v u)
  (h:∀s',Inv X pins (σ.set i (zd v)) H s'->(∃a,Heap.SameBut a s.heap s'.heap/\(a=X.env.locals∨X.env.cells.lookup x=zd a))->Q () s') (hf:X.fn x=zk∨X.env.scope.names.lookup x=zd .local:=by first|exact .inl rfl|exact .inr rfl|assumption):Ut M A (storeName X.env x u) Q E s:=by
 obtain⟨m,hn,hl⟩:=id I.loc;have hcls:(X.env.scope.kind==.class || (X.env.scope.kind==.module&&X.env.locals != X.env.globals))=zm:=by rw[I.ok.kind];rfl
 have hiσ:i<σ.length:=by rw[I.len];exact(Qg.mp hi).1
 have cne:=I.cne
 have tracked:∀{a:Up}{h':Heap},(∃o,s.heap.get? a=zd o/\H a=zj)->Heap.SameBut a s.heap h'->HOk X.prog X.w H h':=λ{a h'} ha hs b ob e=>by
  obtain⟨_,_,hfree⟩:=ha;refine(I.hok b ob e).stay (λc w' hc q=>(hs.2 c ?_).trans q) (λ_ q=>q) λ_ _ q=>q
  rintro rfl;rcases hc with rfl|hc
  .rw[hfree]at e;cases e
  .rw[hfree]at hc;cases hc
 rcases hx with hk|hk
 .refine wpAny_storeName_local hk hn (λh' hn' hs=>?_) hcls
  obtain⟨oL,_,_,hoL,_⟩:=id hn;refine h _ ⟨I.ok,I.os,I.bare,⟨λb o e n hb hx=>?_,λb o e n hb hx=>?_,I.base.free,λb o e hx=>?_,I.base.tups,I.base.frzs,I.base.tbls⟩,⟨_,hn',λj y v' e1 e2 e3=>?_⟩,λy c e=>?_,I.free,I.freeC,λp hp=>?_,tracked ⟨oL,hoL,I.free⟩ hs,by simpa using I.len⟩ ⟨_,hs,.inl zh⟩
  .exact(hs.2 b (QS (QE (Qh e) I.ok.above))).trans (I.base.keep b o e n hb hx)
  .obtain⟨sl,e1⟩:=I.base.slot b o e n hb hx
   exact⟨sl,(hs.2 b (QS (QE (Qh e) I.ok.above))).trans e1⟩
  .obtain⟨o',e1⟩:=I.base.there b o e hx
   exact⟨o',(hs.2 b (QS (QE (Qh e) I.ok.above))).trans e1⟩
  .by_cases hj:j=i
   .subst hj
    rw[hi]at e1;cases e1;rw[QQ hiσ]at e2;cases e2;exact⟨u,r,.inl ⟨hk,by simp⟩⟩
   .rw[Qr (Ne.symm hj)]at e2
    obtain⟨u',r',q⟩:=hl j y v' e1 e2 e3;refine⟨u',r',?_⟩;rcases q with ⟨k,e⟩|⟨k,c,e,z⟩
    .refine .inl ⟨k,?_⟩
     have:y≠x:=λe=>hj (Fg hN e1 (e ▸ hi))
     simp[this,e]
    .exact .inr ⟨k,c,e,z.sameBut hs (cne y c e)⟩
  .obtain⟨w',z⟩:=I.cell y c e
   exact⟨w',z.sameBut hs (cne y c e)⟩
  .obtain⟨e,n,ne,nf,d⟩:=I.pin p hp
   exact⟨(hs.2 p.1 ne).trans e,n,ne,nf,d⟩
 .have hfn:X.fn x=zk:=by
   rcases hf with z|z
   .exact z
   .rw[z]at hk;cases hk
  obtain⟨c,hc⟩:=I.ok.has x (.inl hk);obtain⟨w',z⟩:=I.cell x c hc;refine wpAny_storeName_cell I.ok.kind hk hc z (λh' hc' hs=>?_);obtain⟨oc,hoc,hocd⟩:=id z;refine h {s with heap:=h'} ⟨I.ok,I.os,I.bare,⟨λb o e n hb hx=>?_,λb o e n hb hx=>?_,I.base.free,λb o e hx=>?_,I.base.tups,I.base.frzs,I.base.tbls⟩,⟨m,hn.sameBut hs (Ne.symm (cne x c hc)),λj y v' e1 e2 e3=>?_⟩,λy c' e=>?_,I.free,I.freeC,λp hp=>?_,tracked ⟨oc,hoc,I.freeC x c hc⟩ hs,by simpa using I.len⟩ ⟨c,hs,.inr hc⟩
  .exact(hs.2 b (QS (QE (Qh e) (I.ok.cab x c hfn hc)))).trans (I.base.keep b o e n hb hx)
  .obtain⟨sl,e1⟩:=I.base.slot b o e n hb hx
   exact⟨sl,(hs.2 b (QS (QE (Qh e) (I.ok.cab x c hfn hc)))).trans e1⟩
  .obtain⟨o',e1⟩:=I.base.there b o e hx
   exact⟨o',(hs.2 b (QS (QE (Qh e) (I.ok.cab x c hfn hc)))).trans e1⟩
  .by_cases hj:j=i
   .subst hj
    rw[hi]at e1;cases e1;rw[QQ hiσ]at e2;cases e2;exact⟨u,r,.inr ⟨.inl hk,c,hc,hc'⟩⟩
   .rw[Qr (Ne.symm hj)]at e2
    obtain⟨u',r',q⟩:=hl j y v' e1 e2 e3;refine⟨u',r',?_⟩;rcases q with q|⟨k,c',e,z'⟩
    .exact .inl q
    .refine .inr ⟨k,c',e,z'.sameBut hs ?_⟩
     rintro rfl;exact hj (Fg hN e1 (I.ok.inj _ _ _ e hc ▸ hi))
  .by_cases hcc:c'=c
   .subst hcc;exact⟨_,hc'⟩
   .obtain⟨w2,z2⟩:=I.cell y c' e
    exact⟨w2,z2.sameBut hs hcc⟩
  .obtain⟨e,n,ne,nf,d⟩:=I.pin p hp
   refine⟨(hs.2 p.1 ?_).trans e,n,ne,nf,d⟩;intro q;rw[q,hoc]at e;have q':oc=p.2:=Q8 e;exact d w' (by rw[←q'];exact hocd)
def MX    {i}{x}{v}{u}{Q}(I:Inv X pins σ H s)(hN:X.N.Nodup)(hi:X.N[i]?=zd x)(hx:Loc X.env.scope x)(r:RelV v u)
  (h:∀s',Inv X pins (σ.set i (zd v)) H s'->Q () s') (hf:X.fn x=zk∨X.env.scope.names.lookup x=zd .local:=by first|exact .inl rfl|exact .inr rfl|assumption):Ut M A (storeName X.env x u) Q E s:=
 Lc I hN hi hx r (λs' I' _=>h s' I') hf
def Inv.call'  {ch}(I:Inv X pins σ H s)(ho:s'.os=s.os)(u:Un (frs X.stack) ch H H' s.heap s'.heap)(hok:HOk X.prog X.w H' s'.heap)(hg:AllBare s'.gens)
  (hch:∀b∈ch,(b∈X.ex∨X.s₀.heap.objs.size<=b)/\b≠X.env.locals/\(∀x c,X.env.cells.lookup x=zd c->c≠b)/\∀p∈X.pn++pins,p.1≠b):Inv X pins σ H' s':=by
 obtain⟨h',g',d',t',o'⟩:=s';have e   :=ho;subst e;exact I.call    u hok hg hch
end
abbrev XK:=Ul->zD->Hp->Prop
abbrev St:=List (Option V)
abbrev VK:=V->Hp->Prop
abbrev TE:=St->Hp->VK->Prop
abbrev TT:=St->Hp->(Bool->Hp->Prop)->Prop
abbrev TA:=St->Hp->(List V->Hp->Prop)->Prop
structure Ends where
 nx:St->Hp->Prop
 rt:VK
 bk:St->Hp->Prop:=λ_ _=>False
 ct:St->Hp->Prop:=λ_ _=>False
abbrev TS:=Ends->St->Hp->Prop
def EP(X:Cx)(pins:List (Up×Obj))(σ:St)(Q:VK)(u:Ul)(s':Um):Prop:=∃v H',Inv X pins σ H' s'/\RelV v u/\Q v H'
def TP(X:Cx)(pins:List (Up×Obj))(σ:St)(Q:Bool->Hp->Prop)(b:Bool)(s':Um):Prop:=∃H',Inv X pins σ H' s'/\Q b H'
def AP(X:Cx)(pins:List (Up×Obj))(σ:St)(Q:List V->Hp->Prop)(us:zr)(s':Um):Prop:=∃vs H',Inv X pins σ H' s'/\Vals vs us/\Q vs H'
def SP(X:Cx)(pins:List (Up×Obj))(D:Ends)(f:Flow)(s':Um):Prop:=
 match f with
 |.next=>∃σ' H',Inv X pins σ' H' s'/\D.nx σ' H'
 |.brk=>∃σ' H',Inv X pins σ' H' s'/\D.bk σ' H'
 |.cont=>∃σ' H',Inv X pins σ' H' s'/\D.ct σ' H'
 |.ret u=>∃v σ' H',Inv X pins σ' H' s'/\RelV v u/\D.rt v H'
def PE(X:Cx)(e:Ur)(t:TE):Prop:=
 ∀(pins:List (Up×Obj))(s:Um)(σ:St)(H:Hp)(Q:VK),Inv X pins σ H s->t σ H Q->Ut (model X.prog X.w) X.A (eval e X.env) (EP X pins σ Q) X.xe s
def PT(X:Cx)(e:Ur)(t:TT):Prop:=
 ∀(pins:List (Up×Obj))(s:Um)(σ:St)(H:Hp)(Q:Bool->Hp->Prop),Inv X pins σ H s->t σ H Q->Ut (model X.prog X.w) X.A (isTrue e X.env (eval e X.env)) (TP X pins σ Q) X.xe s
def PW(X:Cx)(e:Ur)(t:TT):Prop:=
 ∀(whole:Sem Ul)(pins:List (Up×Obj))(s:Um)(σ:St)(H:Hp)(Q:Bool->Hp->Prop),Inv X pins σ H s->t σ H Q->Ut (model X.prog X.w) X.A (isTrue e X.env whole) (TP X pins σ Q) X.xe s
noncomputable def PW.pt{X:Cx}{e:Ur}{t:TT}(h:PW X e t):PT X e t:=h _
def PA(X:Cx)(es:zq)(t:TA):Prop:=
 ∀(pos:Pos)(pins:List (Up×Obj))(s:Um)(σ:St)(H:Hp)(Q:List V->Hp->Prop),Inv X pins σ H s->t σ H Q->Ut (model X.prog X.w) X.A (spliced (backTo pos (Uu es X.env))) (AP X pins σ Q) X.xe s
def PS(X:Cx)(st:Stmt)(t:TS):Prop:=
 ∀(pins:List (Up×Obj))(s:Um)(σ:St)(H:Hp)(D:Ends),Inv X pins σ H s->t D σ H->Ut (model X.prog X.w) X.A (exec st X.env) (SP X pins D) X.xe s
def PSs(X:Cx)(st:List Stmt)(t:TS):Prop:=
 ∀(pins:List (Up×Obj))(s:Um)(σ:St)(H:Hp)(D:Ends),Inv X pins σ H s->t D σ H->Ut (model X.prog X.w) X.A (execs st X.env) (SP X pins D) X.xe s
noncomputable def thn  {t:Sem α}{Q Q'}{M}{A}{E}{s}(h:Ut M A t Q E s)(hQ:∀a s,Q a s->Q' a s):Ut M A t Q' E s:=QK h hQ λ_ _ x=>x
section
variable{X:Cx}
noncomputable def Zm(i:Nat):TE:=λσ H Q=>∃v,σ[i]?=zd (zd v)/\Q v H
noncomputable def tC(v:V):TE:=λ_ H Q=>Q v H
def Hm   {pos}(hN:X.N[i]?=zd x)(hv:Vis X.env.scope x)(hd:(x==("__debug__" : Str))=zm:=by decide)(hcd:(x==("__classdict__" : Str))=zm:=by decide):PE X (.Name x pos) (Zm i):=by
 intro pins s σ H Q I h;obtain⟨v,e,h⟩:=h;obtain⟨m,hn,hl⟩:=I.loc;obtain⟨u,r,l⟩:=hl i x v hN e hv;have fin:EP X pins σ Q u s:=⟨v,H,I,r,h⟩;rcases l with ⟨hk,hm⟩|⟨hk,c,hc,hcell⟩
 .exact wpAny_Name (wpAny_loadName_local I.ok.kind hk hn hm fin) hd
 .rcases hk with hk|hk
  .exact wpAny_Name (wpAny_loadName_cell I.ok.kind hk hc hcell fin) hd
  .exact wpAny_Name (wpAny_loadName_free I.ok.kind hk hc hcell fin hcd) hd
def By  : PE X (.Constant (.int i) j pos) (tC (.int i)):=λ_ _ _ H _ I h=>wpAny_Constant_int ⟨.int i,H,I.tok _,⟨_,rfl⟩,h⟩
def DU  : PE X (.Constant (.bool b) j pos) (tC (.bl b)):=λ_ _ _ H _ I h=>Constant_bool ⟨.bl b,H,I,rfl,h⟩
def Bx  : PE X (.Constant .none j pos) (tC .non):=λ_ _ _ H _ I h=>Constant_none ⟨.non,H,I,rfl,h⟩
def Bw  : PE X (.Constant (.str x) j pos) (tC (.str x)):=λ_ _ _ H _ I h=>Calls.Constant_str ⟨.str x,H,I.tok _,⟨_,rfl⟩,h⟩
def Gl(X:Cx)(x:Str):Prop:=X.env.kindOf x=zd .globalImplicit
def GW  {pins}{s}{σ:St}{H}{x}{u}{pos}{Q}(I:Inv X pins σ H s)(hg:Gl X x)(hm:X.mg x=zd u)(h:Q u s)
  (hd:(x==("__debug__" : Str))=zm:=by decide):Ut (model X.prog X.w) X.A (eval (.Name x pos) X.env) Q E s:=
 Calls.Name_function_global I.ok.kind hg (Calls.loadGlobal_global (by rw[I.ok.glob];exact I.mod.glob.keeps I.bk) hm h) hd
def Tz{E}{pins}{s}{σ:St}{H}{x}{u}{pos}{Q}(I:Inv X pins σ H s)(hg:Gl X x)(hm:X.mg x=zj)(hv:bootBuiltins x=zd u)(h:Q u s)
  (hn:x ≠ "__name__" :=by decide) (hd:(x==("__debug__" : Str))=zm:=by decide):Ut (model X.prog X.w) X.A (eval (.Name x pos) X.env) Q E s:=by
 obtain⟨mb,h1,h2⟩:=I.mod.blt;exact Calls.Name_function_global I.ok.kind hg (Calls.loadGlobal_builtin (by rw[I.ok.glob];exact I.mod.glob.keeps I.bk) hm (by rw[I.ok.blt];exact h1.keeps I.bk) ((h2 x hn).trans hv) h) hd
def GV   {u}{pos}(hg:Gl X x)(hm:X.mg x=zd u)(r:RelV v u)(hd:(x==("__debug__" : Str))=zm:=by decide):PE X (.Name x pos) (tC v):=
 λ_ _ _ H _ I h=>GW I hg hm ⟨v,H,I,r,h⟩ hd
def qD   {u}{pos}(hg:Gl X x)(hm:X.mg x=zj)(hv:bootBuiltins x=zd u)(r:RelV v u)(hn:x ≠ "__name__" :=by decide)(hd:(x==("__debug__" : Str))=zm:=by decide):PE X (.Name x pos) (tC v):=
 λ_ _ _ H _ I h=>Tz I hg hm hv ⟨v,H,I,r,h⟩ hn hd
variable{a b:Ur}{ta tb:TE}{pos:Pos}
def PC(X:Cx)(op:CmpOp)(a b:Ur)(t:TE):Prop:=
 ∀(pins:List (Up×Obj))(s:Um)(σ:St)(H:Hp)(Q:VK),Inv X pins σ H s->t σ H Q ->
  Ut (model X.prog X.w) X.A (eval a X.env) (λv s₁=>Ut (model X.prog X.w) X.A (eval b X.env) (λu s₂=>Ut (model X.prog X.w) X.A (Uv op v u) (EP X pins σ Q) X.xe s₂) X.xe s₁) X.xe s
noncomputable def O0(b){op}(h:op≠.In)(h2:op≠.NotIn):behindInMarks op b=zm:=by
 have e1:(op==CmpOp.In)=zm:=by lia
 have e2:(op==CmpOp.NotIn)=zm:=by lia
 cases b<;>simp[behindInMarks,e1,e2]
noncomputable def tIsN(ta:TE):TE:=λσ H Q=>ta σ H λx H1=>Q (.bl (decide (x=.non))) H1
noncomputable def DT(ta:TE):TE:=λσ H Q=>ta σ H λx H1=>Q (.bl (!decide (x=.non))) H1
def RelV.none_iff   (r:RelV x v):(v==Value.none)=decide (x=.non):=by
 cases x with
 |non=>cases r;rfl
 |bl _=>cases r;rfl
 |int _=>obtain⟨t,rfl⟩:=r;rfl
 |str _=>obtain⟨t,rfl⟩:=r;rfl
 |byt _=>obtain⟨t,rfl⟩:=r;rfl
 |flt _=>obtain⟨t,rfl⟩:=r;rfl
 |ref _=>cases r;rfl
 |ty _=>cases r;rfl
def Hl  (ha:PE X a ta):PC X .Is a (.Constant .none j pos') (tIsN ta):=by intro pins s σ H Q I h;refine thn (ha pins s σ H _ I h) λv s1 ⟨x,H1,I1,r1,q1⟩=>?_;exact Constant_none (is_none_gen ⟨.bl _,H1,I1,by rw[r1.none_iff];rfl,q1⟩)
def qC  (ha:PE X a ta):PC X .IsNot a (.Constant .none j pos') (DT ta):=by intro pins s σ H Q I h;refine thn (ha pins s σ H _ I h) λv s1 ⟨x,H1,I1,r1,q1⟩=>?_;exact Constant_none (isnot_none_gen ⟨.bl _,H1,I1,by rw[r1.none_iff];rfl,q1⟩)
noncomputable def tB(t:TE):TT:=λσ H Q=>t σ H λx H1=>∃c,x=.bl c/\Q c H1
def Bv   (h:PC X op a b t)(h1:behindInMarks op b=zm:=by first|exact O0 _ (by decide) (by decide)|rfl):PE X (.Compare a [op] [b] pos) t:=λpins s σ H Q I hw=>wpAny_Compare1 (h pins s σ H Q I hw) h1
def Ot   (h:PC X op a b t)(h1:behindInMarks op b=zm:=by first|exact O0 _ (by decide) (by decide)|rfl):PT X (.Compare a [op] [b] pos) (tB t):=by intro pins s σ H Q I hw;refine wpAny_isTrue_Compare1 (thn (h pins s σ H _ I hw) λv s1 h1=>thn h1 λu s2 h2=>thn h2 λc s3 ⟨x,H1,I1,r1,q1⟩=>?_) h1;obtain⟨d,rfl,q⟩:=q1;cases r1;exact Q3 ⟨H1,I1,q⟩
def Bu   (h:PE X e t)(he:∀whole,isTrue e X.env whole=(do let v ←whole;standAt e.pos;holding [v] (truthy v)):=by intro _;rfl):PT X e (tB t):=by intro pins s σ H Q I hw;refine isTrue_plain (thn (h pins s σ H _ I hw) λv s1 ⟨x,H1,I1,r1,q1⟩=>?_) (he _);obtain⟨d,rfl,q⟩:=q1;cases r1;exact Q3 ⟨H1,I1,q⟩
variable{tA tB':TT}{rest:zq}
noncomputable def tAnd(t u:TT):TT:=λσ H Q=>t σ H λc H1=>if c=zk then u σ H1 Q else Q zm H1
noncomputable def tOr(t u:TT):TT:=λσ H Q=>t σ H λc H1=>if c=zk then Q zk H1 else u σ H1 Q
noncomputable def tNot(t:TT):TT:=λσ H Q=>t σ H λc H1=>Q (!c) H1
def qB(ha:PT X a tA):PW X (.BoolOp .And [a] pos) tA:=by
 intro wh pins s σ H Q I h;refine isTrue_and (thn (ha pins s σ H Q I h) λc s1 e=>?_);cases c with
 |true=>exact isTrue_and_nil e
 |false=>exact e
def Bt(ha:PT X a tA):PW X (.BoolOp .Or [a] pos) tA:=by
 intro wh pins s σ H Q I h;refine isTrue_or (thn (ha pins s σ H Q I h) λc s1 e=>?_);cases c with
 |false=>exact isTrue_or_nil e
 |true=>exact e
def Br(ha:PT X a tA)(hb:PW X (.BoolOp .And (b::rest) pos) tB'):PW X (.BoolOp .And (a::b::rest) pos) (tAnd tA tB'):=by
 intro wh pins s σ H Q I h;refine isTrue_and (thn (ha pins s σ H _ I h) λc s1 ⟨H1,I1,q1⟩=>?_);cases c with
 |true=>exact hb wh pins s1 σ H1 Q I1 q1
 |false=>exact⟨H1,I1,q1⟩
def DS(ha:PT X a tA)(hb:PW X (.BoolOp .Or (b::rest) pos) tB'):PW X (.BoolOp .Or (a::b::rest) pos) (tOr tA tB'):=by
 intro wh pins s σ H Q I h;refine isTrue_or (thn (ha pins s σ H _ I h) λc s1 ⟨H1,I1,q1⟩=>?_);cases c with
 |true=>exact⟨H1,I1,q1⟩
 |false=>exact hb wh pins s1 σ H1 Q I1 q1
def Bq(ha:PT X a tA):PT X (.UnaryOp .Not a pos) (tNot tA):=by intro pins s σ H Q I h;exact isTrue_not (ha pins s σ H _ I h)
noncomputable def DR(ta tb:TE):TE:=λσ H Q=>ta σ H λx H1=>∃c,x=.bl c/\if c=zk then tb σ H1 Q else Q (.bl zm) H1
noncomputable def tOrV(ta tb:TE):TE:=λσ H Q=>ta σ H λx H1=>∃c,x=.bl c/\if c=zk then Q (.bl zk) H1 else tb σ H1 Q
noncomputable def DQ(ta:TE):TE:=λσ H Q=>ta σ H λx H1=>∃c,x=.bl c/\Q (.bl (!c)) H1
noncomputable def Bp  {t}(h:PE X a t):PE X (.BoolOp op [a] pos) t:=λpins s σ H Q I hw=>BoolOp_one (h pins s σ H Q I hw)
def Ac(ha:PE X a ta)(hb:PE X (.BoolOp .And (b::rest) pos) tb):PE X (.BoolOp .And (a::b::rest) pos) (DR ta tb):=by
 intro pins s σ H Q I h;refine BoolOp_and (thn (ha pins s σ H _ I h) λv s1 ⟨x,H1,I1,r1,q1⟩=>?_);obtain⟨c,rfl,q1⟩:=q1;cases r1;refine Q3 ?_;cases c with
 |true=>exact hb pins s1 σ H1 Q I1 q1
 |false=>exact⟨.bl zm,H1,I1,rfl,q1⟩
def DP(ha:PE X a ta)(hb:PE X (.BoolOp .Or (b::rest) pos) tb):PE X (.BoolOp .Or (a::b::rest) pos) (tOrV ta tb):=by
 intro pins s σ H Q I h;refine BoolOp_or (thn (ha pins s σ H _ I h) λv s1 ⟨x,H1,I1,r1,q1⟩=>?_);obtain⟨c,rfl,q1⟩:=q1;cases r1;refine Q3 ?_;cases c with
 |false=>exact hb pins s1 σ H1 Q I1 q1
 |true=>exact⟨.bl zk,H1,I1,rfl,q1⟩
def Ab(ha:PE X a ta):PE X (.UnaryOp .Not a pos) (DQ ta):=by intro pins s σ H Q I h;refine UnaryOp_ (thn (ha pins s σ H _ I h) λv s1 ⟨x,H1,I1,r1,q1⟩=>?_);obtain⟨c,rfl,q1⟩:=q1;cases r1;exact not_of (Q3 ⟨.bl _,H1,I1,rfl,q1⟩)
noncomputable def tIf(t:TT)(ta tb:TE):TE:=λσ H Q=>t σ H λc H1=>if c=zk then ta σ H1 Q else tb σ H1 Q
def jS  (hc:PT X c tA)(ha:PE X a ta)(hb:PE X b tb):PE X (.IfExp c a b pos) (tIf tA ta tb):=by
 intro pins s σ H Q I h;refine wpAny_IfExp (thn (hc pins s σ H _ I h) λd s1 ⟨H1,I1,q1⟩=>?_);cases d with
 |true=>exact ha pins s1 σ H1 Q I1 q1
 |false=>exact hb pins s1 σ H1 Q I1 q1
end
def SqL(K:Frag)(H:Hp)(a:Up)(xs:List V):Prop:=
 Rd H a (.lst xs) ∨
  ∃(o:Obj)(its:Array Ul)(n:Nat),K.lookup a=zd o/\o.cls=.type "list" /\ o.dict=zj/\o.data=.seq its n/\its.size<=Us/\Vals xs its.toList
def SqT(K:Frag)(H:Hp)(a:Up)(xs:List V):Prop:=
 Rd H a (.tup xs) ∨
  ∃(o:Obj)(its:Array Ul)(n:Nat),K.lookup a=zd o/\o.cls=.type "tuple" /\ o.data=.seq its n/\its.size<=Us/\Vals xs its.toList
noncomputable def absV:Ul->Option V
 |.none=>zd .non
 |.bool b=>zd (.bl b)
 |.int i _=>zd (.int i)
 |.str x _=>zd (.str x)
 |.bytes b _=>zd (.byt b)
 |.float b _=>zd (.flt b)
 |.ref a=>zd (.ref a)
 |.type n=>zd (.ty n)
 |_=>zj
def RelV.abs   (r:RelV x u):absV u=zd x:=by
 cases x with
 |non=>cases r;rfl
 |bl _=>cases r;rfl
 |int _=>obtain⟨t,rfl⟩:=r;rfl
 |str _=>obtain⟨t,rfl⟩:=r;rfl
 |byt _=>obtain⟨t,rfl⟩:=r;rfl
 |flt _=>obtain⟨t,rfl⟩:=r;rfl
 |ref _=>cases r;rfl
 |ty _=>cases r;rfl
def RelV.inj  {u}(r:RelV x u)(q:RelV y u):x=y:=Q8 (r.abs.symm.trans q.abs)
def Vals.inj:∀{xs ys}{us},Vals xs us->Vals ys us->xs=ys
 |_,_,_,.nil,.nil=>rfl
 |_,_,_,.cons r t,.cons r' t'=>by rw[r.inj r',Vals.inj t t']
section
variable{X:Cx}{pins:List (Up×Obj)}{σ:St}{H:Hp}{s:Um}{a:Up}{xs ys:List V}
noncomputable def SqL.of{K:Frag}(h:H a=zd (.lst xs)):SqL K H a xs:=.inl (.inl h)
noncomputable def SqT.of{K:Frag}(h:H a=zd (.tup xs)):SqT K H a xs:=.inl (.inl h)
def Inv.list(I:Inv X pins σ H s)(h:SqL X.K H a xs):∃its:zr,Vals xs its/\PlainL s.heap a its.toArray/\xs.length<=Us:=by
 rcases h with h|⟨o,its,n,hk,hc,hd,hs,hz,r⟩
 .obtain⟨z,its,n,r,e⟩:=h.ok I.hok
  exact⟨its,r,⟨_,n,e,rfl,rfl,rfl⟩,z⟩
 .refine⟨its.toList,r,⟨o,n,I.kIn a o hk,hc,hd,by simpa using hs⟩,?_⟩
  have e:=r.length
  grind
def Inv.tuple(I:Inv X pins σ H s)(h:SqT X.K H a xs):∃its:zr,Vals xs its/\IsTup s.heap a its.toArray/\xs.length<=Us:=by
 rcases h with h|⟨o,its,n,hk,hc,hs,hz,r⟩
 .obtain⟨z,its,r,p⟩:=h.ok I.hok
  exact⟨its,r,p,z⟩
 .refine⟨its.toList,r,⟨o,I.kIn a o hk,hc,n,by simpa using hs⟩,?_⟩
  have e:=r.length;simp_all
def Inv.list_inj(I:Inv X pins σ H s)(h:SqL X.K H a xs)(h':SqL X.K H a ys):xs=ys:=by
 obtain⟨its,r,⟨o,n,e,_,_,d⟩,_⟩:=I.list h;obtain⟨its',r',⟨o',n',e',_,_,d'⟩,_⟩:=I.list h';rw[e]at e';cases e';rw[d]at d';injection d' with d1 _;have   :=by simpa using congrArg Array.toList d1
 subst this;exact r.inj r'
def Inv.tuple_inj(I:Inv X pins σ H s)(h:SqT X.K H a xs)(h':SqT X.K H a ys):xs=ys:=by
 obtain⟨its,r,⟨o,e,_,n,d⟩,_⟩:=I.tuple h;obtain⟨its',r',⟨o',e',_,n',d'⟩,_⟩:=I.tuple h';rw[e]at e';cases e';rw[d]at d';injection d' with d1 _;have   :=by simpa using congrArg Array.toList d1
 subst this;exact r.inj r'
end
noncomputable abbrev Cx.wish(X:Cx)(E:Ul->Um->Prop):Cx:={X with xe:=E}
abbrev Cx.nox(X:Cx):Cx:=X.wish λ_ _=>False
def Cx.Ok.wish{X:Cx}(ok:X.Ok)(E):(X.wish E).Ok:=
 ⟨ok.mod,ok.kind,ok.glob,ok.blt,ok.above,ok.inj,ok.has,ok.cab,ok.hd,ok.frames,ok.stk,ok.exf,ok.bs,ok.bsz,ok.noex,ok.exfs,ok.funs,ok.frf⟩
def Cx.Ok.unwish{X:Cx}{E}(ok:(X.wish E).Ok):X.Ok:=
 ⟨ok.mod,ok.kind,ok.glob,ok.blt,ok.above,ok.inj,ok.has,ok.cab,ok.hd,ok.frames,ok.stk,ok.exf,ok.bs,ok.bsz,ok.noex,ok.exfs,ok.funs,ok.frf⟩
section
variable{X:Cx}{pins:List (Up×Obj)}{σ:St}{H:Hp}{s:Um}{E:Ul->Um->Prop}
def Inv.wish(I:Inv X pins σ H s)(E):Inv (X.wish E) pins σ H s:=⟨I.ok.wish E,I.os,I.bare,I.base,I.loc,I.cell,I.free,I.freeC,I.pin,I.hok,I.len⟩
def Inv.unwish(I:Inv (X.wish E) pins σ H s):Inv X pins σ H s:=⟨I.ok.unwish,I.os,I.bare,I.base,I.loc,I.cell,I.free,I.freeC,I.pin,I.hok,I.len⟩
def SP.unwish    (h:SP (X.wish E) pins D f s'):SP X pins D f s':=by
 cases f with
 |next=>obtain⟨σ',H',I,q⟩:=h;exact⟨σ',H',I.unwish,q⟩
 |brk=>obtain⟨σ',H',I,q⟩:=h;exact⟨σ',H',I.unwish,q⟩
 |cont=>obtain⟨σ',H',I,q⟩:=h;exact⟨σ',H',I.unwish,q⟩
 |ret u=>obtain⟨v,σ',H',I,r,q⟩:=h;exact⟨v,σ',H',I.unwish,r,q⟩
def PSs.nox{st}{t}(h:PSs X.nox st t):PSs X st t:=λpins s σ H D I hw=>
 QK (h pins s σ H D (I.wish _) hw) (λ_ _ q=>q.unwish) λ_ _ z=>False.elim z
end
section
variable{X:Cx}{st:Stmt}{rest:List Stmt}{t u:TS}{e:Ur}{te:TE}{pos:Pos}
noncomputable def DO:TS:=λD σ H=>D.nx σ H
noncomputable def tSeq(t u:TS):TS:=λD σ H=>t {D with nx:=u D} σ H
def qA:PSs X [] DO:=λ_ _ σ H _ I h=>wpAny_execs_nil ⟨σ,H,I,h⟩
def jR(h1:PS X st t)(h2:PSs X rest u):PSs X (st::rest) (tSeq t u):=by
 intro pins s σ H D I h;refine wpAny_execs_cons (thn (h1 pins s σ H {D with nx:=u D} I h) λf s1 q=>?_);cases f with
 |next=>obtain⟨σ',H',I',q⟩:=q;exact h2 pins s1 σ' H' D I' q
 |ret v=>exact q
 |brk=>exact q
 |cont=>exact q
def qz(h1:PS X st t):PSs X [st] t:=by
 intro pins s σ H D I h;refine wpAny_execs_cons (thn (h1 pins s σ H D I h) λf s1 q=>?_);cases f with
 |next=>exact wpAny_execs_nil q
 |ret v=>exact q
 |brk=>exact q
 |cont=>exact q
def Inv.quiet  {σ:St}{H}{s}(I:Inv X pins σ H s):interactive X.env=zm:=by simp[interactive,I.ok.kind]
noncomputable def DN(te:TE):TS:=λD σ H=>te σ H λ_ H1=>D.nx σ H1
def GU(he:PE X e te)(hs:swapsWith e zj pos.line X.env=pure zm:=by rfl):PS X (.Expr e pos) (DN te):=by intro pins s σ H D I h;exact wpAny_Expr_any (thn (he pins s σ H _ I h) λv s1 ⟨x,H1,I1,r1,q1⟩=>⟨σ,H1,I1,q1⟩) I.quiet hs
noncomputable def tRet(te:TE):TS:=λD σ H=>te σ H D.rt
def Aa(he:PE X e te):PS X (.Return (zd e) pos) (tRet te):=by intro pins s σ H D I h;exact wpAny_Return_some (thn (he pins s σ H _ I h) λv s1 ⟨x,H1,I1,r1,q1⟩=>⟨x,σ,H1,I1,r1,q1⟩)
noncomputable def tIfS(c:TT)(t u:TS):TS:=λD σ H=>c σ H λb H1=>if b=zk then t D σ H1 else u D σ H1
def DM   {tc}(hc:PT X c tc)(ha:PSs X a t)(hb:PSs X b u):PS X (.If c a b pos) (tIfS tc t u):=by
 intro pins s σ H D I h;refine wpAny_If (thn (hc pins s σ H _ I h) λd s1 ⟨H1,I1,q1⟩=>?_);cases d with
 |true=>exact ha pins s1 σ H1 D I1 q1
 |false=>exact hb pins s1 σ H1 D I1 q1
end
abbrev TG:=V->St->Hp->(St->Hp->Prop)->Prop
abbrev TGs:=List V->St->Hp->(St->Hp->Prop)->Prop
def PG(X:Cx)(target:Ur)(t:TG):Prop:=
 ∀(pins:List (Up×Obj))(s:Um)(σ:St)(H:Hp)(v:V)(u:Ul)(Q:St->Hp->Prop),Inv X pins σ H s->RelV v u->t v σ H Q ->
  Ut (model X.prog X.w) X.A (assign target X.env u) (λ_ s'=>∃σ' H',Inv X pins σ' H' s'/\Q σ' H') X.xe s
def PGs(X:Cx)(ts:zq)(t:TGs):Prop:=
 ∀(pins:List (Up×Obj))(s:Um)(σ:St)(H:Hp)(vs:List V)(us:zr)(Q:St->Hp->Prop),Inv X pins σ H s->Vals vs us->t vs σ H Q ->
  Ut (model X.prog X.w) X.A (assignInOrder ((UJ ts X.env).map (·.2)) us) (λ_ s'=>∃σ' H',Inv X pins σ' H' s'/\Q σ' H') X.xe s
abbrev TIp:=V->V->Hp->VK->Prop
def PIp(X:Cx)(op:Operator)(t:TIp):Prop:=
 ∀(pins:List (Up×Obj))(s:Um)(σ:St)(H:Hp)(x y:V)(v u:Ul)(Q:VK),Inv X pins σ H s->RelV x v->RelV y u->t x y H Q ->
  Ut (model X.prog X.w) X.A (inplaceOp op v u) (EP X pins σ Q) X.xe s
section
variable{X:Cx}{pos:Pos}
def Nz(i:Nat):TG:=λv σ H Q=>Q (σ.set i (zd v)) H
def Ve   (hN:X.N.Nodup)(hi:X.N[i]?=zd x)(hx:Loc X.env.scope x)(hf:X.fn x=zk∨X.env.scope.names.lookup x=zd .local:=by first|exact .inl rfl|exact .inr rfl|assumption):PG X (.Name x pos) (Nz i):=by intro pins s σ H v u Q I r h;exact wpAny_assign_Name (MX I hN hi hx r (λs' I'=>⟨_,H,I',h⟩) hf)
noncomputable def gNil:TGs:=λvs σ H Q=>vs=[]/\Q σ H
noncomputable def DK(t:TG)(u:TGs):TGs:=λvs σ H Q=>∃v r,vs=v::r/\t v σ H λσ' H'=>u r σ' H' Q
def qy:PGs X [] gNil:=by intro pins s σ H vs us Q I r h;obtain⟨e,h⟩:=h;exact assignInOrder_nil ⟨σ,H,I,h⟩
def kI   {t}{u}(h1:PG X e t)(h2:PGs X es u)
  (hs:(UJ (e::es) X.env).map (·.2)=assign e X.env::(UJ es X.env).map (·.2):=by rfl):PGs X (e::es) (DK t u):=by
 intro pins s σ H vs us Q I r h;obtain⟨v,vr,e1,h⟩:=h;subst e1;cases r with
 |cons r rr=>rw[hs];refine assignInOrder_cons (thn (h1 pins s σ H _ _ _ I r h) λ_ s1 ⟨σ1,H1,I1,q1⟩=>?_);exact h2 pins s1 σ1 H1 _ _ Q I1 rr q1
def gTup(K:Frag)(n:Nat)(t:TGs):TG:=λv σ H Q=>∃a xs,v=.ref a/\SqT K H a xs/\xs.length=n/\t xs σ H Q
def B9  {k}{t}{n}(hc:X.calm=zk)(h:PGs X es t)
  (hn:(UJ es X.env).length=n:=by rfl) (hst:(UJ es X.env).findIdx? (·.1)=zj:=by rfl):PG X (.Tuple es k pos) (gTup X.K n t):=by
 intro pins s σ H v u Q I r hw;obtain⟨a,xs,e1,hq,hl,hw⟩:=hw;subst e1;cases r;obtain⟨its,rv,ht,hz⟩:=I.tuple hq;refine assign_Tuple_tuple (I.ok.hd hc) ht (by simp[hn,←hl,rv.length]) hst λh' hx=>?_
 have I1   :=I.kept (t':=s.toks) λb o e=>hx b o (QS (Qh e)) e;exact h pins _ σ H xs _ Q I1 (by simpa using rv) hw
noncomputable def tAsg(te:TE)(g:TG):TS:=λD σ H=>te σ H λx H1=>g x σ H1 D.nx
def B8{tg e}{te}{g}(he:PE X e te)(hg:PG X tg g)(hs:swapsWithSole [tg] e pos.line X.env=pure zm:=by rfl)(hw:swappedStores [tg] e X.env=pure zj:=by rfl)
  (h1:(UJ [tg] X.env).map (·.2)=[assign tg X.env]:=by rfl):PS X (.Assign [tg] e pos) (tAsg te g):=by
 intro pins s σ H D I h;refine wpAny_Assign_stores (thn (he pins s σ H _ I h) λv s1 ⟨x,H1,I1,r1,q1⟩=>?_) hs hw;rw[h1];exact thn (hg pins s1 σ H1 x v _ I1 r1 q1) λ_ s2 q=>q
def NT      (hN:X.N.Nodup)(hi:X.N[i]?=zd x)(hx:Loc X.env.scope x)(he:PE X e te)(hs:swapsWith e (zd (.Name x pos')) pos.line X.env=pure zm:=by rfl)(hf:X.fn x=zk∨X.env.scope.names.lookup x=zd .local:=by first|exact .inl rfl|exact .inr rfl|assumption) :
  PS X (.Assign [.Name x pos'] e pos) (tAsg te (Nz i)):=by
 intro pins s σ H D I h;refine wpAny_Assign_Name (thn (he pins s σ H _ I h) λv s1 ⟨y,H1,I1,r1,q1⟩=>?_) hs;exact MX I1 hN hi hx r1 (λs2 I2=>⟨_,H1,I2,q1⟩) hf
def tAug(i:Nat)(te:TE)(ti:TIp):TS:=λD σ H=>∃x,σ[i]?=zd (zd x)/\te σ H λy H1=>ti x y H1 λz H2=>D.nx (σ.set i (zd z)) H2
def B7  {x:Str}{e:Ur}{te:TE}{op}{ti:TIp}{pos':Pos}(hN:X.N.Nodup)(hi:X.N[i]?=zd x)(hx:Loc X.env.scope x)(he:PE X e te)(ho:PIp X op ti)(hf:X.fn x=zk∨X.env.scope.names.lookup x=zd .local:=by first|exact .inl rfl|exact .inr rfl|assumption) :
  PS X (.AugAssign (.Name x pos') op e pos) (tAug i te ti):=by
 intro pins s σ H D I h;obtain⟨v,e1,h⟩:=h;obtain⟨m,hn,hl⟩:=I.loc;have vis:Vis X.env.scope x:=by rcases hx with k|k;exact .inl k;exact .inr (.inl k)
 obtain⟨u,r,l⟩:=hl i x v hi e1 vis;refine wpAny_AugAssign_Name ?_;have go:Ut (model X.prog X.w) X.A (eval e X.env) (λw s₂=>Ut (model X.prog X.w) X.A (inplaceOp op u w) (λr s₃=>Ut (model X.prog X.w) X.A (storeName X.env x r) (λ_=>SP X pins D .next) X.xe s₃) X.xe s₂) X.xe s:=by refine thn (he pins s σ H _ I h) λw s1 ⟨y,H1,I1,r1,q1⟩=>?_;refine thn (ho pins s1 σ H1 v y u w _ I1 r r1 q1) λz s2 ⟨zv,H2,I2,r2,q2⟩=>?_;exact MX I2 hN hi hx r2 (λs3 I3=>⟨_,H2,I3,q2⟩) hf
 rcases l with ⟨hk,hm⟩|⟨hk,c,hc,hcell⟩
 .exact wpAny_loadName_local I.ok.kind hk hn hm go
 .rcases hk with hk|hk
  .exact wpAny_loadName_cell I.ok.kind hk hc hcell go
  .rcases hx with k|k
   .have:X.env.scope.names.lookup x=zd .free:=hk
    rw[k]at this;cases this
   .have:X.env.scope.names.lookup x=zd .free:=hk
    rw[k]at this;cases this
end
section
variable{X:Cx}{pos:Pos}
def B6(c:TT)(tb:TS):TS:=λD σ H=>∃W:Nat->St->Hp->Prop,(∃m,W m σ H)/\∀m σ H,W m σ H ->
 c σ H λb H1=>if b=zk then ∃N:St->Hp->Prop,(∀σ' H',N σ' H'->∃m',m'<m/\W m' σ' H')/\tb {D with nx:=N,ct:=N,bk:=D.nx} σ H1 else D.nx σ H1
def kH   {tc}{tb}(hp:PassesOwn (model X.prog X.w) X.A X.env X.xe)(hc:PT X c tc)(hb:PSs X body tb):PS X (.While c body [] pos) (B6 tc tb):=by
 intro pins s σ H D I h;obtain⟨W,⟨m0,w0⟩,turn⟩:=h;refine wpAny_While (codeAny_whileLoop (λn s'=>∃σ' H',Inv X pins σ' H' s'/\W n σ' H') ?_ m0 ⟨σ,H,I,w0⟩);rintro n s1 ⟨σ1,H1,I1,w1⟩;refine Jt hp (thn (hc pins s1 σ1 H1 _ I1 (turn n σ1 H1 w1)) λb s2 ⟨H2,I2,q2⟩=>?_);cases b with
 |true=>
  obtain⟨N,hN,q2⟩:=q2;refine Jt hp (thn (hb pins s2 σ1 H2 _ I2 q2) λf s3 q3=>?_);cases f with
  |next=>obtain⟨σ3,H3,I3,n3⟩:=q3;obtain⟨m',hm,w3⟩:=hN σ3 H3 n3;exact⟨m',hm,σ3,H3,I3,w3⟩
  |cont=>obtain⟨σ3,H3,I3,n3⟩:=q3;obtain⟨m',hm,w3⟩:=hN σ3 H3 n3;exact⟨m',hm,σ3,H3,I3,w3⟩
  |brk=>exact q3
  |ret v=>exact q3
 |false=>exact wpAny_execs_nil ⟨σ1,H2,I2,q2⟩
end
structure It where
 go:Nat->Hp->Prop
 yld:Nat->Hp->V->Hp->Prop
 stop:Nat->Hp->Prop
def ZY(X:Cx)(pins:List (Up×Obj))(H:Hp)(b:Up):Prop:=
 H b=zj/\b≠X.env.locals/\b∉X.fs/\(b∈X.ex∨X.s₀.heap.objs.size<=b)/\(∀x c,X.env.cells.lookup x=zd c->c≠b)/\∀p∈X.pn++pins,p.1≠b
def Inv.fpOk   {σ:St}{H H'}{s}{b:Up}(I:Inv X pins σ H s)(hb:s.heap.objs.size<=b)(hn:H' b=zj):ZY X pins H' b:=by
 refine⟨hn,JE (QE I.lt hb),I.nofs hb,.inr (QP I.sz hb),λx c e z=>?_,λp hp z=>?_⟩
 .obtain⟨v,q⟩:=I.cell x c e
  exact absurd (QE q.lt (by rw[z];exact hb)) (Jo _)
 .exact absurd (QE (Qh (I.pin p hp).1) (by rw[z];exact hb)) (Jo _)
structure Turn(P:Uo)(w:World)(K:Frag)(tg:Ur)(J:It)(fp:zu)(it:Up)(tn:Nat->Heap->Prop):Prop where
 mem:it∈fp
 obj:∀i h,tn i h->∀b∈fp,∃o,h.get? b=zd o/\∀v,o.data≠.cell v
 keep:∀i h h',tn i h->(∀b∈fp,∀o,h.get? b=zd o->h'.get? b=zd o)->tn i h'
 item:∀(X:Cx),X.prog=P->X.w=w->X.K=K->X.calm=zk->∀(i:Nat)(pins:List (Up×Obj))(s:Um)(σ:St)(H:Hp)(E:Ul->Um->Prop),Inv X pins σ H s->(∀b∈fp,ZY X pins H b)->tn i s.heap->J.go i H ->
  Ut (model P w) X.A (pyNext (.ref it)) (λr s1=>∃u,r=zd u /\
   Ut (model P w) X.A (letOwnedTupleGo tg (.ref it) u) (λ_ s2=>∃x H',Inv X pins σ H' s2/\RelV x u/\J.yld i H x H'/\tn (i+1) s2.heap/\∀b∈fp,H' b=zj) E s1) E s
 done:∀(X:Cx),X.prog=P->X.w=w->X.K=K->X.calm=zk->∀(i:Nat)(pins:List (Up×Obj))(s:Um)(σ:St)(H:Hp)(E:Ul->Um->Prop),Inv X pins σ H s->(∀b∈fp,ZY X pins H b)->tn i s.heap->J.stop i H ->
  Ut (model P w) X.A (pyNext (.ref it)) (λr s1=>r=zj/\Inv X pins σ H s1) E s
 self:∀(A:Around)(i:Nat)(s:Um)(Q:Ul->Um->Prop)(E:Ul->Um->Prop),tn i s.heap->Q (.ref it) s->Ut (model P w) A (pyIter (.ref it)) Q E s
abbrev TI:=St->Hp->(It->Hp->Prop)->Prop
def PIE(X:Cx)(pins:List (Up×Obj))(σ:St)(tg:Ur)(R:It->Hp->Prop)(itv:Ul)(s2:Um):Prop:=
 ∃(it:Up)(fp:zu)(tn:Nat->Heap->Prop)(J:It)(H':Hp),itv=.ref it/\Inv X pins σ H' s2/\Turn X.prog X.w X.K tg J fp it tn/\tn 0 s2.heap/\(∀b∈fp,ZY X pins H' b)/\R J H'
def PI(X:Cx)(tg iter:Ur)(wi:TI):Prop:=
 ∀(pins:List (Up×Obj))(s:Um)(σ:St)(H:Hp)(R:It->Hp->Prop),Inv X pins σ H s->wi σ H R ->
  Ut (model X.prog X.w) X.A (eval iter X.env) (λv s1=>Ut (model X.prog X.w) X.A (pyIter v) (PIE X pins σ tg R) X.xe s1) X.xe s
def Oi  {A:Around}{E}{s:Um}{tg:Ur}{it:Up}{u:Ul}{o:Obj}{n:String}{vs}{Q}(ho:s.heap.get? it=zd o)(hc:o.cls=.type n)(hd:o.data=.fields vs)
  (hn:["enumerate", "zip", "dict_itemiterator", "dict_reverseitemiterator", "odict_iterator", "itertools.zip_longest", "itertools.pairwise"].contains n=zm) (hQ:Q () s):Ut M A (letOwnedTupleGo tg (.ref it) u) Q E s:=by
 cases tg<;>first
  |exact Qn hQ
  |(cases u<;>first
    |exact Qn hQ
    |(
      refine Qf (wpAny_load ho ?_);rw[hc,hd];show Ut M A (if _=zk then _ else _) Q E s;rw[QH (by intro h;rw[hn]at h;cases h)];exact Qn hQ))
noncomputable def Itl(K:Frag)(a:Up):It:=
 ⟨λi H=>∃xs x,SqL K H a xs/\xs[i]?=zd x,λi H x H'=>H'=H/\∀xs,SqL K H a xs->xs[i]?=zd x,λi H=>∃xs,SqL K H a xs/\xs.length<=i⟩
noncomputable def Itt(K:Frag)(a:Up):It:=
 ⟨λi H=>∃xs x,SqT K H a xs/\xs[i]?=zd x,λi H x H'=>H'=H/\∀xs,SqT K H a xs->xs[i]?=zd x,λi H=>∃xs,SqT K H a xs/\xs.length<=i⟩
noncomputable def Itr(lo:Int)(n:Nat):It:=⟨λi _=>i<n,λi H x H'=>H'=H/\x=.int (lo+i),λi _=>n<=i⟩
def wS{P:Uo}{w:World}{K}{tg:Ur}(a it:Up):Turn P w K tg (Itl K a) [it] it (λi h=>h.IsListIter it a i) where
 mem:=by simp
 obj:=λi h st b hb=>by
  have e:b=it:=by simpa using hb
  subst e;obtain⟨o,e,c,d⟩:=st;exact⟨o,e,λv z=>by rw[d]at z;cases z⟩
 keep:=λi h h' st k=>st.at λo e=>k it (by simp) o e
 item:=by
  intro X hP hw hK hc i pins s σ H E I hf st hg;subst hP hw hK;obtain⟨xs,x,hq,hx⟩:=hg;obtain⟨its,rv,p,hz⟩:=I.list hq;obtain⟨u,hu,ru⟩:=rv.get hx;obtain⟨f0,f1,f2,f3,f4,f5⟩:=hf it (by simp);refine wpAny_pyNext_list_item st p.isList (x:=u) (by simpa using hu) λh' st' sb=>?_
  have I1   :=I.turned (t':=s.toks) (λb o hb e=>(sb.2 b hb).trans e) f0 f1 f3 f4 f5;obtain⟨o,e,c,d⟩:=id st';exact⟨u,rfl,Oi  e c d (by decide) ⟨x,H,I1,ru,⟨rfl,λys hy=>by rw[I.list_inj hy hq];exact hx⟩,st',λb hb=>(hf b hb).1⟩⟩
 done:=by intro X hP hw hK hc i pins s σ H E I hf st hg;subst hP hw hK;obtain⟨xs,hq,hx⟩:=hg;obtain⟨its,rv,p,hz⟩:=I.list hq;obtain⟨f0,f1,f2,f3,f4,f5⟩:=hf it (by simp);have hl:=rv.length;exact wpAny_pyNext_list_end (I.ok.hd hc) st p.isList (by simp;omega) λh' eb=>⟨rfl,I.turned (t':=s.toks) (λb o hb e=>eb b o hb e) f0 f1 f3 f4 f5⟩
 self:=λ_ _ _ _ _ st h=>wpAny_pyIter_listiter st h
def wt{P:Uo}{w:World}{K:Frag}{tg:Ur}(a it:Up):Turn P w K tg (Itt K a) [it] it (λi h=>h.IsTupleIter it a i) where
 mem:=by simp
 obj:=λi h st b hb=>by
  have e:b=it:=by simpa using hb
  subst e;obtain⟨o,e,c,d⟩:=st;exact⟨o,e,λv z=>by rw[d]at z;cases z⟩
 keep:=λi h h' st k=>st.at λo e=>k it (by simp) o e
 item:=by
  intro X hP hw hK hc i pins s σ H E I hf st hg;subst hP hw hK;obtain⟨xs,x,hq,hx⟩:=hg;obtain⟨its,rv,p,hz⟩:=I.tuple hq;obtain⟨u,hu,ru⟩:=rv.get hx;obtain⟨f0,f1,f2,f3,f4,f5⟩:=hf it (by simp);refine wpAny_pyNext_tuple_item st (p) (x:=u) (by simpa using hu) λh' st' sb=>?_
  have I1   :=I.turned (t':=s.toks) (λb o hb e=>(sb.2 b hb).trans e) f0 f1 f3 f4 f5;obtain⟨o,e,c,d⟩:=id st';exact⟨u,rfl,Oi  e c d (by decide) ⟨x,H,I1,ru,⟨rfl,λys hy=>by rw[I.tuple_inj hy hq];exact hx⟩,st',λb hb=>(hf b hb).1⟩⟩
 done:=by intro X hP hw hK hc i pins s σ H E I hf st hg;subst hP hw hK;obtain⟨xs,hq,hx⟩:=hg;obtain⟨its,rv,p,hz⟩:=I.tuple hq;obtain⟨f0,f1,f2,f3,f4,f5⟩:=hf it (by simp);have hl:=rv.length;exact wpAny_pyNext_tuple_end (I.ok.hd hc) st (p) (by simp;omega) λh' eb=>⟨rfl,I.turned (t':=s.toks) (λb o hb e=>eb b o hb e) f0 f1 f3 f4 f5⟩
 self:=λ_ _ _ _ _ st h=>wpAny_pyIter_tupleiter st h
def wp{P:Uo}{w:World}{K:Frag}{tg:Ur}(it:Up)(lo:Int)(n:Nat):Turn P w K tg (Itr lo n) [it] it (λi h=>IsRangeIter h it (lo+(i:Nat)*1) ((n:Int)-(i:Nat)) 1) where
 mem:=by simp
 obj:=λi h st b hb=>by
  have e:b=it:=by simpa using hb
  subst e;exact⟨_,st,λv z=>by have z'   :=z;cases z'⟩
 keep:=λi h h' st k=>k it (by simp) _ st
 item:=by
  intro X hP hw hK hc i pins s σ H E I hf st hg;subst hP hw hK;obtain⟨f0,f1,f2,f3,f4,f5⟩:=hf it (by simp);have W:=Walks.range (prog:=X.prog) (w:=X.w) (I.ok.hd hc) it lo 1 n;refine W.item i s _ _ hg st λv h' tk hv st' kk=>?_
  obtain⟨t,rfl⟩:=hv;have I1:Inv X pins σ H {s with heap:=h',toks:=tk}:=I.turned (λb o hb e=>kk b o (by simpa using hb) e) f0 f1 f3 f4 f5;refine⟨_,rfl,Oi   st' zh zh (by decide) ⟨.int (lo+i),H,I1,⟨t,?_⟩,⟨rfl,rfl⟩,st',λb hb=>(hf b hb).1⟩⟩;rw[Int.mul_one]
 done:=by intro X hP hw hK hc i pins s σ H E I hf st hg;obtain⟨f0,f1,f2,f3,f4,f5⟩:=hf it (by simp);exact wpAny_pyNext_range_end (I.ok.hd hc) st (by have:n<=i:=hg;omega) λh' eb=>⟨rfl,I.turned (t':=s.toks) (λb o hb e=>eb b o hb e) f0 f1 f3 f4 f5⟩
 self:=λ_ _ _ _ _ st h=>wpAny_pyIter_rangeiter st h
section
variable{X:Cx}{tg:Ur}
def Ff  {σ:St}{H:Hp}{s}{R}{E}{lo hi:Int}{t u v:Tok}{tk:Nat}(I:Inv X pins σ H s)(h1 : -(2 ^ 62)<=lo)(h2:lo<2 ^ 62)(h3 : -(2 ^ 62)<=hi)(h4:hi<2 ^ 62)
  (q:R (Itr lo (hi-lo).toNat) H):Ut (model X.prog X.w) X.A (pyIter (.ref s.heap.objs.size)) (PIE X pins σ tg R) E {s with heap:=s.heap.push {cls:=.type "range", data:=.fields #[.int lo t,.int hi u,.int 1 v]},toks:=tk}:=by
 refine wpAny_pyIter_range (IsRange.new ..) (small_one h1 h2 h3 h4) ?_;have I1:Inv X pins σ H {s with heap:=s.heap.push {cls:=.type "range", data:=.fields #[.int lo t,.int hi u,.int 1 v]},toks:=tk}:=I.kept λb o e=>Qk _ e
 refine⟨(s.heap.push {cls:=.type "range", data:=.fields #[.int lo t,.int hi u,.int 1 v]}).objs.size,[(s.heap.push {cls:=.type "range", data:=.fields #[.int lo t,.int hi u,.int 1 v]}).objs.size],_,_,H,rfl,
  I1.kept  λb o e=>Qk _ e,wp _ lo (hi-lo).toNat,?_,λb hb=>?_,q⟩
 .have e1:lo+((0:Nat):Int)*1=lo:=by simp
  have e2:(((hi-lo).toNat:Nat):Int)-((0:Nat):Int)=Builtin.Range.rangeSize lo hi 1:=by rw[rangeSize_one];split<;>omega
  rw[e1,e2];exact QD _ zh
 .have e:b=(s.heap.push {cls:=.type "range", data:=.fields #[.int lo t,.int hi u,.int 1 v]}).objs.size:=by simpa using hb
  subst e;exact I1.fpOk (Qp _) (I1.hok.fresh (Qp _))
def DJ(ta:TA):TI:=λσ H R=>ta σ H λvs H1=>∃j:Int,vs=[.int j] /\ -(2 ^ 62)<=j/\j<2 ^ 62/\R (Itr 0 j.toNat) H1
def DI(ta:TA):TI:=λσ H R=>ta σ H λvs H1=>∃i j:Int,vs=[.int i,.int j]/\(-(2 ^ 62)<=i/\i<2 ^ 62 /\ -(2 ^ 62)<=j/\j<2 ^ 62)/\R (Itr i (j-i).toNat) H1
def wR    (hg:Gl X "range")(hm:X.mg "range" = zj)(ha:PA X [a] ta)(hs:Uu [a] X.env=[(zm,eval a X.env)]:=by rfl):PI X tg (.Call (.Name "range" p) [a] [] pos) (DJ ta):=by
 intro pins s σ H R I h;refine Call_ (Tz I hg hm boot_range (JH (thn (ha pos pins s σ H _ I h) λus s1 ⟨vs,H1,I1,r1,q1⟩=>?_) hs zh));obtain⟨j,e,q1,q2,q⟩:=q1;subst e;cases r1 with
 |cons r rr=>cases rr;obtain⟨t,rfl⟩:=r;exact call_range_1 (Ff I1 (by omega) (by omega) q1 q2 (by simp_all))
def wQ   {p pos}(hg:Gl X "range")(hm:X.mg "range" = zj)(ha:PA X [a,b] ta)(hs:Uu [a,b] X.env=[(zm,eval a X.env),(zm,eval b X.env)]:=by rfl)(hs2:Uu [b] X.env=[(zm,eval b X.env)]:=by rfl) :
  PI X tg (.Call (.Name "range" p) [a,b] [] pos) (DI ta):=by
 intro pins s σ H R I h;refine Call_ (Tz I hg hm boot_range (PyProof.Rows.callWith_type1 (thn (ha pos pins s σ H _ I h) λus s1 ⟨vs,H1,I1,r1,q1⟩=>?_) (by simp_all) (by rw[hs2];rfl)));obtain⟨i,j,e,⟨q1,q2,q3,q4⟩,q⟩:=q1;subst e;cases r1 with
 |cons r rr=>
  cases rr with
  |cons r' rr=>cases rr;obtain⟨t,rfl⟩:=r;obtain⟨t',rfl⟩:=r';exact call_range_2 (Ff I1 q1 q2 q3 q4 q)
def tFor(wi:TI)(g:TG)(tb:TS):TS:=λD σ H=>wi σ H λJ H1=>∃W:Nat->Nat->St->Hp->Prop,(∃m,W 0 m σ H1)/\∀i m σ H,W i m σ H ->
 (J.stop i H/\D.nx σ H)∨(J.go i H/\∃N:St->Hp->Prop,(∀σ' H',N σ' H'->∃m',m'<m/\W (i+1) m' σ' H')/\∀x H',J.yld i H x H'->g x σ H' λσ2 H2=>tb {D with nx:=N,ct:=N,bk:=D.nx} σ2 H2)
noncomputable def Oq(fp:zu)(h:Heap):List (Up×Obj):=fp.filterMap λb=>(h.get? b).map λo=>(b,o)
def O6   {b}{o}(hb:b∈fp)(e:h.get? b=zd o):(b,o)∈Oq fp h:=List.mem_filterMap.mpr ⟨b,hb,by simp_all⟩
def wP    (hp:p∈Oq fp h):p.1∈fp/\h.get? p.1=zd p.2:=by
 obtain⟨b,hb,e⟩:=Jn.mp hp;cases q:h.get? b with
 |none=>simp_all
 |some o=>rw[q]at e;have e'   :=Q8 e;subst e';exact⟨hb,q⟩
def Inv.pinned  {σ:St}{H}{s}{fp}(I:Inv X pins σ H s)(hf:∀b∈fp,ZY X pins H b)(ho:∀b∈fp,∃o,s.heap.get? b=zd o/\∀v,o.data≠.cell v):Inv X (pins++Oq fp s.heap) σ H s:=
 I.pins_of λp hp=>(QG.mp hp).elim (λz=>I.pin p (QI _ z)) λz=>by obtain⟨hb,e⟩:=wP z;obtain⟨f0,f1,f2,_⟩:=hf p.1 hb;obtain⟨o,e',d⟩:=ho p.1 hb;rw[e]at e';cases e';exact⟨e,f0,f1,f2,d⟩
def Inv.unpinned  {σ:St}{H}{s}(I:Inv X (pins++pl) σ H s):Inv X pins σ H s:=I.pins_of λp hp=>I.pin p (QI _ (Q0 _ hp))
def B5{iter:Ur}{body:List Stmt}{wi:TI}{g:TG}{tb:TS}{pos:Pos}(hp:PassesOwn (model X.prog X.w) X.A X.env X.xe)(hc:X.calm=zk)(hi:PI X tg iter wi)(hg:PG X tg g)(hb:PSs X body tb)
  (hs:∀x,UK iter X.env x=pure x:=by intro _;rfl):PS X (.For tg iter body [] pos) (tFor wi g tb):=by
 intro pins s σ H D I h;refine wpAny_For (thn (hi pins s σ H _ I h) λv s1 h1=>thn h1 λitv s2 h2=>?_) hs;obtain⟨it,fp,tn,J,H2,e,I2,T,st2,f2,W,⟨m0,w0⟩,turn⟩:=h2;subst e;have stat:∀{H':Hp},(∀b∈fp,H' b=zj)->∀b∈fp,ZY X pins H' b:=λhn b hb=>⟨hn b hb,(f2 b hb).2⟩;refine codeAny_forLoop_any (λn s'=>∃i σ' H',Inv X pins σ' H' s'/\tn i s'.heap/\(∀b∈fp,H' b=zj)/\W i n σ' H') ?_ m0 ⟨0,σ,H2,I2,st2,λb hb=>(f2 b hb).1,w0⟩;rintro n s3 ⟨i,σ3,H3,I3,st3,fr3,w3⟩;rcases turn i n σ3 H3 w3 with ⟨stop,qn⟩|⟨go,N,hN,step⟩
 .refine Jt hp (thn (T.done X zh zh zh hc i pins s3 σ3 H3 X.xe I3 (stat fr3) st3 stop) λr s4 ⟨hr,I4⟩=>?_)
  subst hr;exact wpAny_execs_nil ⟨σ3,H3,I4,qn⟩
 .refine Jt hp (thn (T.item X zh zh zh hc i pins s3 σ3 H3 X.xe I3 (stat fr3) st3 go) λr s4 ⟨u,hr,h4⟩=>?_)
  subst hr;refine Jt hp (thn h4 λ_ s5 ⟨x,H5,I5,r5,y5,zY,fr5⟩=>?_);have I5':=I5.pinned (stat fr5) (T.obj _ _ zY);refine Jt hp (thn (hg _ s5 σ3 H5 x u _ I5' r5 (step x H5 y5)) λ_ s6 ⟨σ6,H6,I6,q6⟩=>?_);refine Jt hp (thn (hb _ s6 σ6 H6 _ I6 q6) λf s7 q7=>?_);have again:∀{σ7:St}{H7:Hp},Inv X _ σ7 H7 s7->N σ7 H7->∃m,m<n/\∃i σ' H',Inv X pins σ' H' s7/\tn i s7.heap/\(∀b∈fp,H' b=zj)/\W i m σ' H':=λ{σ7 H7} I7 n7=>by obtain⟨m',hm,w7⟩:=hN σ7 H7 n7;refine⟨m',hm,i+1,σ7,H7,I7.unpinned,T.keep _ _ _ zY λb hb o e=>(I7.pin (b,o) (QI _ (QI _ (O6 hb e)))).1,λb hb=>?_,w7⟩;obtain⟨o,e,d⟩:=T.obj _ _ zY b hb;exact(I7.pin (b,o) (QI _ (QI _ (O6 hb e)))).2.1
  cases f with
  |next=>obtain⟨σ7,H7,I7,n7⟩:=q7;exact again I7 n7
  |cont=>obtain⟨σ7,H7,I7,n7⟩:=q7;exact again I7 n7
  |brk=>obtain⟨σ7,H7,I7,q7⟩:=q7;exact⟨σ7,H7,I7.unpinned,q7⟩
  |ret v=>obtain⟨x7,σ7,H7,I7,r7,q7⟩:=q7;exact⟨x7,σ7,H7,I7.unpinned,r7,q7⟩
end
abbrev R2:=V->V->Hp->VK->Prop
def OpR(X:Cx)(f:Ul->Ul->Sem Ul)(r:R2):Prop:=
 ∀(pins:List (Up×Obj))(s:Um)(σ:St)(H:Hp)(x y:V)(v u:Ul)(Q:VK),Inv X pins σ H s->RelV x v->RelV y u->r x y H Q ->
  Ut (model X.prog X.w) X.A (f v u) (EP X pins σ Q) X.xe s
def UnR(X:Cx)(f:Ul->Sem Ul)(r:V->Hp->VK->Prop):Prop:=
 ∀(pins:List (Up×Obj))(s:Um)(σ:St)(H:Hp)(x:V)(v:Ul)(Q:VK),Inv X pins σ H s->RelV x v->r x H Q ->
  Ut (model X.prog X.w) X.A (f v) (EP X pins σ Q) X.xe s
def YS(X:Cx)(f:Ul)(r:List V->Hp->VK->Prop):Prop:=
 ∀(pins:List (Up×Obj))(s:Um)(σ:St)(H:Hp)(xs:List V)(us:zr)(Q:VK),Inv X pins σ H s->Vals xs us->r xs H Q ->
  Ut (model X.prog X.w) X.A (call f us) (EP X pins σ Q) X.xe s
def TruR(X:Cx)(r:V->Hp->(Bool->Hp->Prop)->Prop):Prop:=
 ∀(pins:List (Up×Obj))(s:Um)(σ:St)(H:Hp)(x:V)(v:Ul)(Q:Bool->Hp->Prop),Inv X pins σ H s->RelV x v->r x H Q ->
  Ut (model X.prog X.w) X.A (truthy v) (TP X pins σ Q) X.xe s
noncomputable def tOp(r:R2)(ta tb:TE):TE:=λσ H Q=>ta σ H λx H1=>tb σ H1 λy H2=>r x y H2 Q
noncomputable def tUn(r:V->Hp->VK->Prop)(ta:TE):TE:=λσ H Q=>ta σ H λx H1=>r x H1 Q
noncomputable def rI(C:Int->Int->Prop)(g:Int->Int->V):R2:=λx y H Q=>∃i j,x=.int i/\y=.int j/\C i j/\Q (g i j) H
noncomputable def rI0(g:Int->Int->V):R2:=λx y H Q=>∃i j,x=.int i/\y=.int j/\Q (g i j) H
noncomputable def rU(g:Int->V):V->Hp->VK->Prop:=λx H Q=>∃i,x=.int i/\Q (g i) H
section
variable{X:Cx}{a b c:Ur}{ta tb tc:TE}{pos:Pos}
def Ro(ha:PE X a ta)(hb:PE X b tb){pins}{s}{σ:St}{H}{R:V->V->Hp->Prop}(I:Inv X pins σ H s)
  (h:ta σ H λx H1=>tb σ H1 λy H2=>R x y H2) {Q} {f:Ul->Ul->Sem Ul}
  (hf:∀v u s2 x y H2,Inv X pins σ H2 s2->RelV x v->RelV y u->R x y H2->Ut (model X.prog X.w) X.A (f v u) Q X.xe s2) :
  Ut (model X.prog X.w) X.A (eval a X.env) (λv s₁=>Ut (model X.prog X.w) X.A (eval b X.env) (λu s₂=>Ut (model X.prog X.w) X.A (f v u) Q X.xe s₂) X.xe s₁) X.xe s:=by
 refine thn (ha pins s σ H _ I h) λv s1 ⟨x,H1,I1,r1,q1⟩=>?_;refine thn (hb pins s1 σ H1 _ I1 q1) λu s2 ⟨y,H2,I2,r2,q2⟩=>?_;exact hf v u s2 x y H2 I2 r1 r2 q2
def Ny   (ho:OpR X (binaryOp op) r)(ha:PE X a ta)(hb:PE X b tb):PE X (.BinOp a op b pos) (tOp r ta tb):=by intro pins s σ H Q I h;exact wpAny_BinOp (Ro ha hb I h λv u s2 x y H2 I2 rx ry q=>ho pins s2 σ H2 x y v u Q I2 rx ry q)
def DH   (ho:UnR X (unaryOp op) r)(ha:PE X a ta):PE X (.UnaryOp op a pos) (tUn r ta):=by intro pins s σ H Q I h;exact UnaryOp_ (thn (ha pins s σ H _ I h) λv s1 ⟨x,H1,I1,r1,q1⟩=>ho pins s1 σ H1 x v Q I1 r1 q1)
def opI  {C}{g:Int->Int->Int}
  (rule:∀(i j)(t u)(s)(Q)(E),C i j->Q (.int (g i j) s.toks) {s with toks:=s.toks+1}->Ut (model X.prog X.w) X.A (f (.int i t) (.int j u)) Q E s) :
  OpR X f (rI C λi j=>.int (g i j)):=by
 intro pins s σ H x y v u Q I rx ry h;obtain⟨i,j,rfl,rfl,hc,q⟩:=h;obtain⟨t,rfl⟩:=rx;obtain⟨t',rfl⟩:=ry;exact rule i j t t' s _ _ hc ⟨.int _,H,I.tok _,⟨_,rfl⟩,q⟩
def opI0  {g:Int->Int->Int}
  (rule:∀(i j)(t u)(s)(Q)(E),Q (.int (g i j) s.toks) {s with toks:=s.toks+1}->Ut (model X.prog X.w) X.A (f (.int i t) (.int j u)) Q E s) :
  OpR X f (rI0 λi j=>.int (g i j)):=by
 intro pins s σ H x y v u Q I rx ry h;obtain⟨i,j,rfl,rfl,q⟩:=h;obtain⟨t,rfl⟩:=rx;obtain⟨t',rfl⟩:=ry;exact rule i j t t' s _ _ ⟨.int _,H,I.tok _,⟨_,rfl⟩,q⟩
def Vz  {g:Int->Int->Bool}
  (rule:∀(i j)(t u)(s)(Q)(E),Q (.bool (g i j)) s->Ut (model X.prog X.w) X.A (f (.int i t) (.int j u)) Q E s) :
  OpR X f (rI0 λi j=>.bl (g i j)):=by
 intro pins s σ H x y v u Q I rx ry h;obtain⟨i,j,rfl,rfl,q⟩:=h;obtain⟨t,rfl⟩:=rx;obtain⟨t',rfl⟩:=ry;exact rule i j t t' s _ _ ⟨.bl _,H,I,rfl,q⟩
def CPow(i j:Int):Prop:=0<=j/\j<=1000000/\i.natAbs<2 ^ 64
def CMul(i j:Int):Prop:=(-(2 ^ 64)<i/\i<2 ^ 64)∨(-(2 ^ 64)<j/\j<2 ^ 64)
noncomputable def CMul.ok  (h:CMul i j):IntMulOk i j:=by
 rcases h with ⟨h1,h2⟩|⟨h1,h2⟩
 .exact .of_left (intBits_le_64 h1 h2)
 .exact .of_right (intBits_le_64 h1 h2)
def B4:OpR X (binaryOp .Add) (rI0 λi j=>.int (i+j)):=opI0 λ_ _ _ _ _ _ _ q=>add_int q
def B3:OpR X (binaryOp .Sub) (rI0 λi j=>.int (i-j)):=opI0 λ_ _ _ _ _ _ _ q=>sub_int q
def B2:OpR X (binaryOp .Mult) (rI CMul λi j=>.int (i*j)):=opI λ_ _ _ _ _ _ _ hc q=>mul_int q hc.ok
def B0:OpR X (binaryOp .Mod) (rI (λ_ j=>0<j) λi j=>.int (i % j)):=opI λi j _ _ _ _ _ hc q=>by exact mod_int' (by omega) (by rw[Int.fmod_eq_emod_of_nonneg i (by omega)];exact q)
def BZ:OpR X (binaryOp .Pow) (rI CPow λi j=>.int (i ^ j.toNat)):=opI λ_ _ _ _ _ _ _ hc q=>pow_int_small hc.1 hc.2.1 hc.2.2 q
def qx:OpR X (inplaceOp .Mult) (rI CMul λi j=>.int (i*j)):=opI λ_ _ _ _ _ _ _ hc q=>imul_int q hc.ok
def unI  {g:Int->Int}
  (rule:∀(i)(t)(s)(Q)(E),Q (.int (g i) s.toks) {s with toks:=s.toks+1}->Ut (model X.prog X.w) X.A (f (.int i t)) Q E s) :
  UnR X f (rU λi=>.int (g i)):=by
 intro pins s σ H x v Q I rx h;obtain⟨i,rfl,q⟩:=h;obtain⟨t,rfl⟩:=rx;exact rule i t s _ _ ⟨.int _,H,I.tok _,⟨_,rfl⟩,q⟩
def BY:UnR X (unaryOp .USub) (rU λi=>.int (-i)):=unI λ_ _ _ _ _ q=>neg_int q
end
section
variable{X:Cx}{a b c:Ur}{ta tb tc:TE}{pos:Pos}
noncomputable def NP  {σ:St}{H}{s}{Q}{k k'}(I:Inv X pins σ H s)(q:Q (.bl k) H)(e:k=k'):EP X pins σ Q (.bool k') s:=by subst e;exact⟨.bl k,H,I,rfl,q⟩
def DG:OpR X (Uv .Lt) (rI0 λi j=>.bl (decide (i<j))):=Vz λ_ _ _ _ _ _ _ q=>lt_int q
def DF:OpR X (Uv .LtE) (rI0 λi j=>.bl (decide (i<=j))):=Vz λ_ _ _ _ _ _ _ q=>le_int q
def DE:OpR X (Uv .Gt) (rI0 λi j=>.bl (decide (j<i))):=Vz λ_ _ _ _ _ _ _ q=>gt_int q
def DD:OpR X (Uv .GtE) (rI0 λi j=>.bl (decide (j<=i))):=Vz λ_ _ _ _ _ _ _ q=>ge_int q
def vA:OpR X (Uv .In) (λx y H Q=>∃i j,x=.str i/\y=.str j/\Q (.bl (!(Builtin.Str.occurrences j i 0 j.length 1).isEmpty)) H):=by intro pins s σ H x y v u Q I rx ry h;obtain⟨i,j,rfl,rfl,q⟩:=h;obtain⟨t,rfl⟩:=rx;obtain⟨t',rfl⟩:=ry;exact in_str (NP I q zh)
def yF:OpR X (Uv .NotIn) (λx y H Q=>∃i j,x=.str i/\y=.str j/\Q (.bl (!(!(Builtin.Str.occurrences j i 0 j.length 1).isEmpty))) H):=by intro pins s σ H x y v u Q I rx ry h;obtain⟨i,j,rfl,rfl,q⟩:=h;obtain⟨t,rfl⟩:=rx;obtain⟨t',rfl⟩:=ry;exact notIn_str (NP I q zh)
noncomputable def OpR.or   (h:OpR X f r)(h':OpR X f r'):OpR X f (λx y H Q=>r x y H Q∨r' x y H Q):=by
 intro pins s σ H x y v u Q I rx ry q;rcases q with q|q
 .exact h pins s σ H x y v u Q I rx ry q
 .exact h' pins s σ H x y v u Q I rx ry q
noncomputable def NO(b){op}(h:op≠.In:=by decide)(h2:op≠.NotIn:=by decide):behindInMarks op b=zm:=by
 have e1:(op==CmpOp.In)=zm:=by lia
 have e2:(op==CmpOp.NotIn)=zm:=by lia
 cases b<;>simp[behindInMarks,e1,e2]
def GM   (ho:OpR X (Uv op) r)(ha:PE X a ta)(hb:PE X b tb)(hm:behindInMarks op b=zm):PE X (.Compare a [op] [b] pos) (tOp r ta tb):=by intro pins s σ H Q I h;exact wpAny_Compare1 (Ro ha hb I h λv u s2 x y H2 I2 rx ry q=>ho pins s2 σ H2 x y v u Q I2 rx ry q) hm
noncomputable def LI(t:TE):TT:=λσ H Q=>t σ H λx H'=>∃k,x=.bl k/\Q k H'
def Ma   (ho:OpR X (Uv op) r)(ha:PE X a ta)(hb:PE X b tb)(hm:behindInMarks op b=zm):PT X (.Compare a [op] [b] pos) (LI (tOp r ta tb)):=by
 intro pins s σ H Q I h
 refine wpAny_isTrue_Compare1 (thn (ha pins s σ H _ I h) λv s1 ⟨x,H1,I1,r1,q1⟩=>thn (hb pins s1 σ H1 _ I1 q1) λu s2 ⟨y,H2,I2,r2,q2⟩=>
  thn (ho pins s2 σ H2 x y v u _ I2 r1 r2 q2) λc s3 ⟨z,H3,I3,r3,k,e,q3⟩=>?_) hm
 subst e;cases r3;exact Q3 ⟨H3,I3,q3⟩
noncomputable def Hk(r r':R2)(ta tb tc:TE):TE:=λσ H Q=>ta σ H λx H1=>tb σ H1 λy H2=>r x y H2 λz H3=>∃k,z=.bl k /\
 (if k=zk then tc σ H3 λw' H4=>r' y w' H4 Q else Q (.bl zm) H3)
def kG  {r r'}(ho:OpR X (Uv op) r)(ho':OpR X (Uv op') r')(ha:PE X a ta)(hb:PE X b tb)(hc:PE X c tc)
  (hm:lastMarks [op,op'] [b,c]=zm:=by with_unfolding_all rfl):PE X (.Compare a [op,op'] [b,c] pos) (Hk r r' ta tb tc):=by
 intro pins s σ H Q I h
 refine Compare_chain (thn (ha pins s σ H _ I h) λv s1 ⟨x,H1,I1,r1,q1⟩=>chain_link (thn (hb pins s1 σ H1 _ I1 q1) λu s2 ⟨y,H2,I2,r2,q2⟩=>
  thn (ho pins s2 σ H2 x y v u _ I2 r1 r2 q2) λd s3 ⟨z,H3,I3,r3,k,e,q3⟩=>?_)) hm
 subst e;cases r3;refine Q3 ?_;cases k with
 |false=>exact ite_ff ⟨.bl zm,H3,I3,rfl,q3⟩
 |true=>exact ite_tt (chain_last (thn (hc pins s3 σ H3 _ I3 q3) λw' s4 ⟨z',H4,I4,r4,q4⟩=>ho' pins s4 σ H4 y z' u w' Q I4 r2 r4 q4))
def kF  {r r'}(ho:OpR X (Uv op) r)(ho':OpR X (Uv op') r')(ha:PE X a ta)(hb:PE X b tb)(hc:PE X c tc)
  (hm:lastMarks [op,op'] [b,c]=zm:=by with_unfolding_all rfl):PT X (.Compare a [op,op'] [b,c] pos) (LI (Hk r r' ta tb tc)):=by
 intro pins s σ H Q I h
 refine isTrue_chain (thn (ha pins s σ H _ I h) λv s1 ⟨x,H1,I1,r1,q1⟩=>test_link (thn (hb pins s1 σ H1 _ I1 q1) λu s2 ⟨y,H2,I2,r2,q2⟩=>
  thn (ho pins s2 σ H2 x y v u _ I2 r1 r2 q2) λd s3 ⟨z,H3,I3,r3,k,e,q3⟩=>?_)) hm
 subst e;cases r3;refine Q3 ?_;cases k with
 |false=>obtain⟨k',e',q'⟩:=q3;cases e';exact ite_ff ⟨H3,I3,q'⟩
 |true=>refine ite_tt (test_last (thn (hc pins s3 σ H3 _ I3 q3) λw' s4 ⟨z',H4,I4,r4,q4⟩=>thn (ho' pins s4 σ H4 y z' u w' _ I4 r2 r4 q4) λd' s5 ⟨z2,H5,I5,r5,k2,e2,q5⟩=>?_));subst e2;cases r5;exact Q3 ⟨H5,I5,q5⟩
def TruV(K:Frag)(x:V)(H:Hp)(k:Bool):Prop:=
 match x with
 |.non=>k=zm
 |.bl b=>k=b
 |.int i=>k=(i != 0)
 |.str y=>y.length<=Us/\k=((y.length:Int) != 0)
 |.byt y=>y.size<=Us/\k=((y.size:Int) != 0)
 |.ref p=>(∃xs,SqL K H p xs/\k = !xs.isEmpty)∨(∃xs,SqT K H p xs/\k = !xs.isEmpty) ∨ ∃kvs,H p=zd (.dK kvs)/\k = !kvs.isEmpty
 |_=>False
def wo  {kvs:List (κ×V)}{vs}(r:KV kvs vs):(!vs.isEmpty) = !kvs.isEmpty:=by cases r<;>rfl
def Ez   (r:Vals xs its):(!its.toArray.isEmpty) = !xs.isEmpty:=by cases r<;>simp
noncomputable def Op:(Us:Nat)<2 ^ 63:=by rw[sizeLine_eq];decide
def BX:TruR X (λx H Q=>∃k,TruV X.K x H k/\Q k H):=by
 intro pins s σ H x v Q I rx h;obtain⟨k,e,q⟩:=h;have hl:=Op;have hs:Us=16777216:=sizeLine_eq;cases x with
 |non=>cases rx;have e':k=zm:=e;subst e';exact truthy_none ⟨H,I,q⟩
 |bl b=>cases rx;have e':k=b:=e;subst e';exact Q3 ⟨H,I,q⟩
 |int i=>obtain⟨t,rfl⟩:=rx;have e':k=(i != 0):=e;subst e';exact PySem.P.truthy_int ⟨H,I,q⟩
 |str y=>obtain⟨t,rfl⟩:=rx;obtain⟨hy,e'⟩:y.length<=Us/\k=((y.length:Int) != 0):=e;subst e';exact PySem.P.truthy_str (by omega) ⟨H,I.tok _,q⟩
 |byt y=>obtain⟨t,rfl⟩:=rx;obtain⟨hy,e'⟩:y.size<=Us/\k=((y.size:Int) != 0):=e;subst e';exact PySem.W.truthy_bytes (by omega) ⟨H,I.tok _,q⟩
 |ref p=>
  cases rx;have e'   :=e;rcases e' with ⟨xs,hx,e'⟩|⟨xs,hx,e'⟩|⟨kvs,hx,e'⟩
  .subst e'
   obtain⟨its,r,pl,hz⟩:=I.list hx;have hlen:=r.length;exact wpAny_truthy_list pl.isList (by simp only[Jf];omega) ⟨H,I.tok _,by rw[Ez r];exact q⟩
  .subst e'
   obtain⟨its,r,pl,hz⟩:=I.tuple hx;have hlen:=r.length;exact truthy_tuple pl (by simp only[Jf];omega) ⟨H,I.tok _,by rw[Ez r];exact q⟩
  .subst e'
   obtain⟨hz,hS,vs,r,m⟩:kvs.length<=Us/\(p==sysModules)=zm/\∃vs,KV kvs vs/\s.heap.DictOf (Xy X.prog X.w) p vs:=I.hok p _ hx;have hlen:kvs.length=vs.length:=Paired.length r;exact wpAny_truthy_dict hS m (by omega) ⟨H,I.tok _,by rw[wo r];exact q⟩
 |_=>exact(show False from e).elim
def kE(ha:PE X a ta)(he:∀whole,isTrue a X.env whole=(do let v ←whole;standAt a.pos;holding [v] (truthy v))) :
  PT X a (λσ H Q=>ta σ H λx H'=>∃k,TruV X.K x H' k/\Q k H'):=by
 intro pins s σ H Q I h;exact isTrue_plain (thn (ha pins s σ H _ I h) λv s1 ⟨x,H1,I1,r1,q1⟩=>BX pins s1 σ H1 x v Q I1 r1 q1) (he _)
def wn:OpR X (binaryOp .Add) (λx y H Q=>∃i j,x=.str i/\y=.str j/\i.length+j.length<=Us/\Q (.str (i++j)) H):=by intro pins s σ H x y v u Q I rx ry h;obtain⟨i,j,rfl,rfl,hz,q⟩:=h;obtain⟨t,rfl⟩:=rx;obtain⟨t',rfl⟩:=ry;exact add_str (λt' tk=>⟨.str _,H,I.tok _,⟨_,rfl⟩,q⟩) hz
def Pk   (r:Vals [x] us):∃u,us=[u]/\RelV x u:=by
 cases r with
 |cons r1 r2=>cases r2;exact⟨_,rfl,r1⟩
def Oh   (r:Vals [x,y] us):∃u w',us=[u,w']/\RelV x u/\RelV y w':=by
 cases r with
 |cons r1 r2=>
  cases r2 with
  |cons r3 r4=>cases r4;exact⟨_,_,rfl,r1,r3⟩
def vz(hc:X.calm=zk):YS X (.builtin "max") (λxs H Q=>∃i j,xs=[.int i,.int j]/\Q (.int (if j > i then j else i)) H):=by
 intro pins s σ H xs us Q I r h;obtain⟨i,j,rfl,q⟩:=h;obtain⟨u,w',rfl,⟨t,rfl⟩,⟨t',rfl⟩⟩:=Oh r;refine max_two_ints (I.ok.hd hc) λh' tk k=>⟨_,H,I.kept k,?_,q⟩
 by_cases hj:j > i
 .rw[Qu hj,Qu hj];exact⟨_,rfl⟩
 .rw[QH hj,QH hj];exact⟨_,rfl⟩
def vy(hc:X.calm=zk):YS X (.builtin "min") (λxs H Q=>∃i j,xs=[.int i,.int j]/\Q (.int (if j<i then j else i)) H):=by
 intro pins s σ H xs us Q I r h;obtain⟨i,j,rfl,q⟩:=h;obtain⟨u,w',rfl,⟨t,rfl⟩,⟨t',rfl⟩⟩:=Oh r;refine min_two_ints (I.ok.hd hc) λh' tk k=>⟨_,H,I.kept k,?_,q⟩
 by_cases hj:j<i
 .rw[Qu hj,Qu hj];exact⟨_,rfl⟩
 .rw[QH hj,QH hj];exact⟨_,rfl⟩
def vw:YS X (.type "int") (λxs H Q=>(∃i,xs=[.int i]/\Q (.int i) H) ∨ ∃k,xs=[.bl k]/\Q (.int (if k then 1 else 0)) H):=by
 intro pins s σ H xs us Q I r h;rcases h with ⟨i,rfl,q⟩|⟨k,rfl,q⟩
 .obtain⟨u,rfl,t,rfl⟩:=Pk r
  exact call_int_int ⟨.int i,H,I,⟨_,rfl⟩,q⟩
 .obtain⟨u,rfl,r1⟩:=Pk r
  cases r1;exact call_int_bool ⟨.int _,H,I.tok _,⟨_,rfl⟩,q⟩
def LenV(K:Frag)(x:V)(H:Hp)(n:Nat):Prop:=
 match x with
 |.str y=>y.length<=Us/\n=y.length
 |.byt y=>y.size<=Us/\n=y.size
 |.ref p=>(∃xs,SqL K H p xs/\n=xs.length) ∨ ∃xs,SqT K H p xs/\n=xs.length
 |_=>False
def Fe:YS X (.builtin "len") (λxs H Q=>∃x n,xs=[x]/\LenV X.K x H n/\Q (.int n) H):=by
 intro pins s σ H xs us Q I r h;obtain⟨x,n,rfl,e,q⟩:=h;obtain⟨u,rfl,rx⟩:=Pk r;have hs   :=sizeLine_eq;cases x with
 |str y=>obtain⟨t,rfl⟩:=rx;obtain⟨hy,e'⟩:y.length<=Us/\n=y.length:=e;subst e';exact len_str (by omega) ⟨.int _,H,I.tok _,⟨_,rfl⟩,q⟩
 |byt y=>obtain⟨t,rfl⟩:=rx;obtain⟨hy,e'⟩:y.size<=Us/\n=y.size:=e;subst e';exact PySem.W.len_bytes (by omega) ⟨.int _,H,I.tok _,⟨_,rfl⟩,q⟩
 |ref p=>
  cases rx;have e'   :=e;rcases e' with ⟨xs,hx,e'⟩|⟨xs,hx,e'⟩
  .subst e'
   obtain⟨its,r',pl,hz⟩:=I.list hx;have hlen:=r'.length;exact Calls.call_len_list pl.isList (by simp only[Jf];omega) ⟨.int xs.length,H,I.tok _,⟨_,by simp only[Jf];rw[hlen]⟩,q⟩
  .subst e'
   obtain⟨its,r',pl,hz⟩:=I.tuple hx;have hlen:=r'.length;exact len_tuple pl (by simp only[Jf];omega) ⟨.int xs.length,H,I.tok _,⟨_,by simp only[Jf];rw[hlen]⟩,q⟩
 |_=>exact(e).elim
end
def RelO.some_of   (r:RelO (zd v) o):∃u,o=zd u/\RelV v u:=by
 cases o with
 |none=>exact(r).elim
 |some u=>exact⟨u,rfl,r⟩
structure Room(k:Nat)(A:Around):Prop where
 hd:A.handled=zj
 dp:A.depth+3*k+5<recursionLimit
 un:A.units+16*k+200<cLine
 gd:A.guards=zd []
def Room.mono{j k}{A}(r:Room k A)(h:j<=k):Room j A:=⟨r.hd,by have:=r.dp;omega,by have:=r.un;omega,r.gd⟩
def Room.deeper   (r:Room (k+1) A)(env):Room k (A.deeper env):=
 ⟨r.hd,by have:=r.dp;show A.depth+1+3*k+5<_;omega,by have:=r.un;show A.units+3+16*k+200<_;omega,r.gd⟩
noncomputable def Room.depth{k:Nat}{A:Around}(r:Room k A):A.depth<recursionLimit:=by have:=r.dp;omega
def Room.units{k:Nat}{A:Around}(r:Room k A):A.units+64<cLine:=by have:=r.un;omega
noncomputable def tNil:TA:=λ_ H Q=>Q [] H
noncomputable def DC(ta:TE)(tr:TA):TA:=λσ H Q=>ta σ H λx H1=>tr σ H1 λxs H2=>Q (x::xs) H2
section
variable{X:Cx}{e:Ur}{es:zq}{te:TE}{t:TA}{pos:Pos}
def RC:PA X [] tNil:=λ_ _ _ _ H Q I h=>Calls.spliced_nil ⟨[],H,I,.nil,h⟩
def T4(ha:PE X e te)(hr:PA X es t)(hs:Uu (e::es) X.env=(zm,eval e X.env)::Uu es X.env:=by rfl):PA X (e::es) (DC te t):=by intro pos pins s σ H Q I h;rw[hs];refine Calls.spliced_cons (thn (ha pins s σ H _ I h) λu s1 ⟨x,H1,I1,r1,q1⟩=>?_);exact thn (hr pos pins s1 σ H1 _ I1 q1) λus s2 ⟨xs,H2,I2,r2,q2⟩=>⟨x::xs,H2,I2,.cons r1 r2,q2⟩
def tTup(t:TA):TE:=λσ H Q=>t σ H λxs H1=>xs.length<=Us/\∀p,H1 p=zj->Q (.ref p) (upd H1 p (.tup xs))
def tLst(t:TA):TE:=λσ H Q=>t σ H λxs H1=>xs.length<=Us/\∀p,H1 p=zj->Q (.ref p) (upd H1 p (.lst xs))
def BW  (h:PA X es t):PE X (.Tuple es x1 pos) (tTup t):=by intro pins s σ H Q I hq;refine wpAny_Tuple_spliced (thn (h pos pins s σ H _ I hq) λus s1 ⟨xs,H1,I1,r,z,q⟩=>⟨by rw[←r.length];exact z,?_⟩);have hf   :=I1.hok.fresh (Qp _);refine⟨.ref s1.heap.objs.size,upd H1 s1.heap.objs.size _,I1.laid  (λb u e=>Qk _ e) (Qp _) ?_,rfl,q _ hf⟩;exact⟨z,us,r,⟨_,QD _ zh,rfl,_,rfl⟩⟩
def Hj(h:PA X es t):PE X (.List es pos) (tLst t):=by intro pins s σ H Q I hq;refine wpAny_List_spliced (thn (h pos pins s σ H _ I hq) λus s1 ⟨xs,H1,I1,r,z,q⟩=>⟨by rw[←r.length];exact z,?_⟩);have hf   :=I1.hok.fresh (Qp _);refine⟨.ref s1.heap.objs.size,upd H1 s1.heap.objs.size _,I1.laid  (λb u e=>Qk _ e) (Qp _) ?_,rfl,q _ hf⟩;exact⟨z,us,0,r,QD _ zh⟩
end
abbrev Sp:=List V->Hp->VK->XK->Prop
abbrev CXT:=List Env->Hp->Um->XK->Ul->Um->Prop
structure Env0(P:Uo)(w:World)(K:Frag)(mg:Str->zw)(base:Heap)(A:Around)(outer:List Env)(s:Um)(H:Hp):Prop where
 frames:A.frames=zd outer
 mod:Mod K mg base
 bs:∀b o,base.get? b=zd o->s.heap.get? b=zd o/\H b=zj
 bsz:base.objs.size<=s.heap.objs.size
 funs:s.heap.FunFrames base outer
 frf:∀b∈frs outer,H b=zj
 hok:HOk P w H s.heap
 bare:AllBare s.gens
def CE(outer:List Env)(P:Uo)(w:World)(H:Hp)(s:Um)(Q:VK)(u:Ul)(s':Um):Prop:=
 ∃v H',s'.os=s.os/\AllBare s'.gens/\Un (frs outer) [] H H' s.heap s'.heap/\HOk P w H' s'.heap/\RelV v u/\Q v H'
def CR(CX:CXT)(outer:List Env)(P:Uo)(w:World)(H:Hp)(s:Um)(Q:VK)(E:XK)(r:Result)(s':Um):Prop:=
 match r with
 |.ok (.ret u)=>CE outer P w H s Q u s'
 |.ok _=>False
 |.error e=>CX outer H s E e s'
structure FnOk(P:Uo)(w:World)(K:Frag)(mg:Str->zw)(base:Heap)(CX:CXT)(k:Nat)(f:Up)(fd:Uq)(ps:List Str)(sp:Sp):Prop where
 len:∀vs H Q E,sp vs H Q E->vs.length=ps.length
 run:∀(A:Around)(outer:List Env)(s:Um)(H:Hp)(args:Args)(us:zr)(vs:List V)(Q:VK)(E:XK),Room k A->Env0 P w K mg base A outer s H->BindsTo s fd args (ps.zip us)->Vals vs us->sp vs H Q E ->
  codeAny (model P w) A (.call (.ref f) args) (CR CX outer P w H s Q E) s
section
variable{X:Cx}{pins:List (Up×Obj)}{σ:St}{H:Hp}{s s':Um}
def Inv.env0(I:Inv X pins σ H s):Env0 X.prog X.w X.K X.mg X.base X.A X.stack s H:=
 ⟨I.ok.frames,I.ok.mod,I.bs,QP I.ok.bsz I.sz,I.stack,I.stkFree,I.hok,I.bare⟩
def Inv.after   (I:Inv X pins σ H s)(h:CE X.stack X.prog X.w H s Q u s'):EP X pins σ Q u s':=by obtain⟨v,H',os,bare,un,hok,r,q⟩:=h;obtain⟨hh,g,d,t,os'⟩:=s';obtain rfl:os'=s.os:=os;exact⟨v,H',I.call      un hok bare (λb z=>absurd z (by simp)),r,q⟩
end
noncomputable def DB(sp:Sp)(dvs:List V)(E:XK)(t:TA):TE:=λσ H Q=>t σ H λvs H1=>sp (vs++dvs) H1 Q E
def Tu(K:Frag)(fd:Uq)(ps:List Str)(ds:zr):Prop:=
 ∀(s:Um)(us:zr),K.In s.heap->(us++ds).length=ps.length->BindsTo s fd ⟨us,[]⟩ (ps.zip (us++ds))
def Tu.all{K}{fd}{ps}(h:∀us:zr,us.length=ps.length->bindArgs fd ⟨us,[]⟩=pure (ps.zip us)):Tu K fd ps []:=λs us _ hl=>by rw[Jd]at hl⊢;exact .of_eq (h us hl)
def NN(CX:CXT)(X:Cx)(E:XK):Prop:=∀(pins:List (Up×Obj))(σ:St)(H:Hp)(s:Um)(e:Ul)(s':Um),Inv X pins σ H s->CX X.stack H s E e s'->X.xe e s'
section
variable{X:Cx}{CX:CXT}{k:Nat}{f C:Up}{fd:Uq}{ps:List Str}{sp:Sp}{dvs:List V}{ds:zr}{E:XK}{x m:Str}{p pos apos:Pos}{e o:Ur}{es:zq}{ta:TE}{t:TA}
def BV  {σ:St}{H:Hp}{s:Um}{Q:VK}{us}{vs}(F:FnOk X.prog X.w X.K X.mg X.base CX k f fd ps sp)(hr:Room k X.A)(hb:Tu X.K fd ps ds)(hd:Vals dvs ds)(hx:NN CX X E)
  (I:Inv X pins σ H s) (r:Vals vs us) (h:sp (vs++dvs) H Q E):Ut (model X.prog X.w) X.A (call (.ref f) us) (EP X pins σ Q) X.xe s:=by
 have r2   :=r.append hd;have hl:(us++ds).length=ps.length:=by rw[←r2.length];exact F.len _ _ _ _ h
 refine wpAny_call (codeAny_mono (F.run X.A X.stack s H ⟨us,[]⟩ _ _ Q E hr I.env0 (hb s us I.kIn hl) r2 h) λr s' hq=>?_);cases r with
 |error e=>exact hx pins σ H s e s' I hq
 |ok fl=>
  cases fl with
  |ret u=>exact I.after hq
  |next=>exact False.elim hq
  |brk=>exact False.elim hq
  |cont=>exact False.elim hq
def qw(F:FnOk X.prog X.w X.K X.mg X.base CX k f fd ps sp)(hr:Room k X.A)(hg:Gl X x)(hm:X.mg x=zd (.ref f))(hk:PySem.W.keepIn X.K (.ref f)=zk)(hb:Tu X.K fd ps ds)(hd:Vals dvs ds)(hx:NN CX X E)
  (ha:PA X (e::es) t) (hdb:(x==("__debug__" : Str))=zm:=by decide) (he:Uu (e::es) X.env=(zm,eval e X.env)::Uu es X.env:=by rfl) (hpl:(backTo pos (Uu es X.env)).any (·.1)=zm:=by rfl) :
  PE X (.Call (.Name x p) (e::es) [] pos) (DB sp dvs E t):=by
 intro pins s σ H Q I h;refine wpAny_Call_Name_kw (GW I hg hm ?_ hdb);refine PySem.W.callWith_K  I.ok.mod.kin hk (thn (ha pos pins s σ H _ I h) λus s1 ⟨vs,H1,I1,r,q⟩=>⟨I1.kIn,?_⟩) he hpl;exact BV F hr hb hd hx I1 r q
end
structure PM(N P:List Str)(sc:Scope):Prop where
 kind:sc.kind=.function
 co:sc.isCoroutine=zm
 gen:sc.isGenerator=zm
 nd:N.Nodup
 pre:N.take P.length=P
 par:∀x∈P,sc.names.lookup x=zd .local∨sc.names.lookup x=zd .cell
 nofree:∀y∈sc.names,y.2≠.free
theorem Eu{kindOf}{x}:∀{binds}{m},(∀v,(x,v)∉binds)->bindL kindOf binds m x=m x
 |[],_,_=>rfl
 |(n,v)::r,m,h=>by
  unfold bindL;rw[Eu λw hw=>h w (Qj _ hw)];split
  .have:x≠n:=by rintro rfl;exact h v Ql
   simp[this]
  .rfl
theorem Et{kindOf}{x}:∀{binds}{m},(∀v,(x,v)∉binds)->bindC kindOf binds m x=m x
 |[],_,_=>rfl
 |(n,v)::r,m,h=>by
  unfold bindC;rw[Et λw hw=>h w (Qj _ hw)];split
  .rfl
  .have:x≠n:=by rintro rfl;exact h v Ql
   simp[this]
theorem Es{kindOf}{x}{v}:∀{P:List Str}{vs}{i:Nat}{m},P.Nodup->P[i]?=zd x->vs[i]?=zd v->kindOf x=zd .local ->
  bindL kindOf (P.zip vs) m x=zd v
 |[],_,_,_,_,h,_,_=>by simp at h
 |_::_,[],_,_,_,_,h,_=>by simp at h
 |p::P,w::vs,0,m,nd,h1,h2,hk=>by simp at h1 h2;subst h1;subst h2;show bindL kindOf ((p,w)::P.zip vs) m p=_;unfold bindL;rw[Eu λv hv=>(Ud.mp nd).1 (List.of_mem_zip hv).1,Qu hk];simp
 |p::P,w::vs,i+1,m,nd,h1,h2,hk=>by unfold bindL;exact Es  (List.nodup_cons.mp nd).2 (by simpa using h1) (by simpa using h2) hk
theorem Er{kindOf}{x}{v}:∀{P:List Str}{vs}{i:Nat}{m},P.Nodup->P[i]?=zd x->vs[i]?=zd v->kindOf x≠zd .local ->
  bindC kindOf (P.zip vs) m x=zd v
 |[],_,_,_,_,h,_,_=>by simp at h
 |_::_,[],_,_,_,_,h,_=>by simp at h
 |p::P,w::vs,0,m,nd,h1,h2,hk=>by simp at h1 h2;subst h1;subst h2;show bindC kindOf ((p,w)::P.zip vs) m p=_;unfold bindC;rw[Et λv hv=>(Ud.mp nd).1 (List.of_mem_zip hv).1,QH hk];simp
 |p::P,w::vs,i+1,m,nd,h1,h2,hk=>by unfold bindC;exact Er  (List.nodup_cons.mp nd).2 (by simpa using h1) (by simpa using h2) hk
noncomputable def WM(N:List Str)(vs:List V):St:=vs.map zd++Ux (N.length-vs.length) zj
noncomputable def XS(CX:CXT)(P:Uo)(w:World)(K:Frag)(mg:Str->zw)(base:Heap)(N:List Str)(qual:Str)(scope:Scope)(f:Up)(cd:Ul)(A:Around)(outer:List Env)(s:Um)(H:Hp)(E:XK):Cx where
 prog:=P
 w:=w
 K:=K
 mg:=mg
 base:=base
 A:=A.deeper (envOfC qual scope s.heap.objs.size f cd)
 N:=N
 s₀:=s
 H₀:=H
 env:=envOfC qual scope s.heap.objs.size f cd
 outer:=outer
 stack:=envOfC qual scope s.heap.objs.size f cd::outer
 ex:=[]
 calm:=zk
 fn:=λ_=>zk
 pn:=[]
 xe:=λe s'=>Ut (model P w) (A.deeper (envOfC qual scope s.heap.objs.size f cd)) (leaving (envOfC qual scope s.heap.objs.size f cd) e) (λ_ s''=>CX outer H s E e s'') (λe' s''=>CX outer H s E e' s'') s'
noncomputable def MW{sc:Scope}{n}{x}(h:sc.names.lookup x=zd .cell):∃c,(cellsFrom n sc.names []).lookup x=zd c:=by have q:=PySem.W.cellsFrom_some sc.names n [] (.inl h);exact Option.isSome_iff_exists.mp q
def vv{CX:CXT}{P:Uo}{w:World}{K:Frag}{mg:Str->zw}{base:Heap}{N ps:List Str}{qual:Str}{scope:Scope}{f:Up}{cd:Ul}{A:Around}{outer:List Env}{s s1:Um}{H:Hp}{E:XK}{us:zr}{vs:List V}
  (S:PM N ps scope) (hd:A.handled=zj) (e0:Env0 P w K mg base A outer s H) (hl:vs.length=ps.length) (r:Vals vs us)
  (x:InCallC s s.heap.objs.size (bindL (envOfC qual scope s.heap.objs.size f cd).kindOf (ps.zip us) λ_=>zj) (cellsFrom (s.heap.objs.size+1) scope.names []) (bindC (envOfC qual scope s.heap.objs.size f cd).kindOf (ps.zip us) λ_=>zj) s1) :
  Inv (XS CX P w K mg base N qual scope f cd A outer s H E) [] (WM N vs) H s1:=by
 have hpl:ps.length<=N.length:=by have:=J5 List.length S.pre;rw[QT]at this;omega
 obtain⟨h1,tk,rfl,hk⟩:=x.done;have noA:∀b:Up,b∉(XS CX P w K mg base N qual scope f cd A outer s H E).ex:=λb z=>absurd (show b∈([]:zu)from z) (by simp)
 refine⟨⟨e0.mod,S.kind,rfl,rfl,Qp _,λy z c h1 h2=>?_,λy hy=>?_,λy c _ h=>?_,λ_=>hd,Around.frames_deeper e0.frames,.inr ⟨rfl,rfl⟩,λb z=>absurd z (noA b),e0.bs,e0.bsz,λb _ _=>noA b,λb z=>absurd z (noA b),e0.funs,e0.frf⟩,
  rfl,e0.bare,Un.kept hk,⟨_,x.toInCall.ns,λi y v h1 h2 h3=>?_⟩,λy c h=>⟨_,x.cell y c h⟩,e0.hok.fresh (Nat.le_refl _),λy c h=>?_,λp hp=>absurd (show p∈([]:List (Up×Obj))from hp) (by simp),e0.hok.kept hk,?_⟩
 .exact name_of_addr x.apart (Jh h1) (Jh h2)
 .rcases hy with hy|hy
  .exact MW hy
  .exact absurd zh (S.nofree _ (Jh hy))
 .exact Uh (x.above y c (Jh h))
 .have hi:i<vs.length:=by
   unfold WM at h2;by_cases hi:i<vs.length
   .exact hi
   .rw[List.getElem?_append_right (by simpa using hi)]at h2
    rw[Qz]at h2;split at h2<;>cases h2
  have ha:vs[i]?=zd v:=by
   unfold WM at h2;rw[List.getElem?_append_left (by simpa using hi),List.getElem?_map]at h2;cases e:vs[i]? with
   |none=>rw[e]at h2;cases h2
   |some a=>rw[e]at h2;cases h2;rfl
  obtain⟨u,hu,rv⟩:=r.get ha;have hp:ps[i]?=zd y:=by rw[←S.pre,List.getElem?_take_of_lt (by omega)];exact h1
  have ndP:ps.Nodup:=by rw[←S.pre];exact S.nd.sublist (List.take_sublist _ _)
  refine⟨u,rv,?_⟩;rcases S.par y (Qq hp)with k|k
  .exact .inl ⟨k,Es ndP hp hu k⟩
  .obtain⟨c,e⟩:=MW  k
   refine .inr ⟨.inl k,c,e,?_⟩;have q:=x.cell y c e;rw[Er ndP hp hu (by show scope.names.lookup y≠_;rw[k];decide)]at q;exact q
 .exact e0.hok.fresh (Uh (x.above y c (Jh h)))
 .unfold WM
  show _=N.length;rw[Qi,Qb,QF];omega
def DA{CX:CXT}{P:Uo}{w:World}{K:Frag}{mg}{base:Heap}{k:Nat}{f:Up}{name qual:Str}{params:Arguments}{body:List Stmt}{scope:Scope}{dV kV doc pm cdv ct oc:Ul}{an od:zD}
  {osl} {N ps:List Str} {sp:Sp} (lk:K.lookup f=zd ⟨oc,od,.func (PySem.W.fnOf name qual params body scope dV kV doc pm an cdv ct),osl⟩) (hcd:PySem.W.codeIn K cdv qual=zk) (S:PM N ps scope)
  (len:∀vs H Q E,sp vs H Q E->vs.length=ps.length)
  (hbody:∀(A:Around)(outer:List Env)(s:Um)(H:Hp)(vs:List V)(Q:VK)(E:XK),Room k (A.deeper (envOfC qual scope s.heap.objs.size f cdv))->sp vs H Q E ->
   ∃t,PSs (XS CX P w K mg base N qual scope f cdv A outer s H E) body t/\t {nx:=λ_ H'=>Q .non H',rt:=Q} (WM N vs) H) :
  FnOk P w K mg base CX (k+1) f (PySem.W.fnOf name qual params body scope dV kV doc pm an cdv ct) ps sp:=by
 refine⟨len,λA outer s H args us vs Q E hr e0 hb r a9=>?_⟩;have hl:=len _ _ _ _ a9;have KX:K.In s.heap:=e0.mod.kin.keeps λb o e=>(e0.bs b o e).1;have lim:s.heap.NoLimit:=e0.mod.nolimit.keeps λb o e=>(e0.bs b o e).1
 have hkind:∀y∈ps.zip us,scope.names.lookup y.1=zd .local∨(scope.names.lookup y.1=zd .cell/\((cellsFrom (s.heap.objs.size+1) scope.names []).lookup y.1).isSome=zk):=λ⟨n,v⟩ hy=>by
  rcases S.par n (List.of_mem_zip hy).1 with q|q
  .exact .inl q
  .exact .inr ⟨q,PySem.W.cellsFrom_some _ _ _ (.inl q)⟩
 refine codeAny_call_function hr.depth (KX _ _ lk) zh S.co S.gen zh (PySem.W.codeRec_of KX hcd) (hb _ _ _ _ ?_);refine wpAny_newFunctionEnv_cells S.kind hkind λenv he s1 x=>?_;subst he
 refine⟨lim.keeps x.toInCall.keep,codeAny_func ?_⟩;obtain⟨t,ht,hq⟩:=hbody A outer s H vs Q E (hr.deeper _) a9;have I:Inv (XS CX P w K mg base N qual scope f cdv A outer s H E) [] (WM N vs) H s1:=vv S hr.hd e0 hl r x;refine QK (ht [] s1 (WM N vs) H _ I hq) (λfl s' hs=>?_) λe s' hs=>hs
 have fin:∀{σ':St}{H':Hp}{v:V}{u:Ul},Inv (XS CX P w K mg base N qual scope f cdv A outer s H E) [] σ' H' s'->RelV v u->Q v H'->CE outer P w H s Q u s':=
  λ{σ' H' v u} J rv q=>⟨v,H',J.os,J.bare,J.base,J.hok,rv,q⟩
 cases fl with
 |ret u=>obtain⟨v,σ',H',J,rv,q⟩:=hs;exact fin J rv q
 |next=>obtain⟨σ',H',J,q⟩:=hs;exact fin (v:=V.non)  J zh q
 |brk=>obtain⟨_,_,_,q⟩:=hs;exact False.elim q
 |cont=>obtain⟨_,_,_,q⟩:=hs;exact False.elim q
section
variable{X:Cx}{x:Str}{p pos:Pos}{e:Ur}{es:zq}{t:TA}{id T:String}{r:List V->Hp->VK->Prop}
noncomputable def tCB(r:List V->Hp->VK->Prop)(t:TA):TE:=λσ H Q=>t σ H λvs H1=>r vs H1 Q
def OZ(hc:YS X (.builtin id) r)(hg:Gl X x)(hm:X.mg x=zj)(hv:bootBuiltins x=zd (.builtin id))(ha:PA X (e::es) t)(hn:x ≠ "__name__" :=by decide)(hdb:(x==("__debug__" : Str))=zm:=by decide)
  (he:Uu (e::es) X.env=(zm,eval e X.env)::Uu es X.env:=by rfl) (hpl:(backTo pos (Uu es X.env)).any (·.1)=zm:=by rfl):PE X (.Call (.Name x p) (e::es) [] pos) (tCB r t):=by
 intro pins s σ H Q I h;refine wpAny_Call_Name_kw (Tz I hg hm hv ?_ hn hdb);exact PyProof.Rows.callWith_builtin1 (thn (ha pos pins s σ H _ I h) λus s1 ⟨vs,H1,I1,r1,q1⟩=>hc pins s1 σ H1 vs us Q I1 r1 q1) he hpl
def Lb(hc:YS X (.type T) r)(hg:Gl X x)(hm:X.mg x=zj)(hv:bootBuiltins x=zd (.type T))(ha:PA X (e::es) t)(hn:x ≠ "__name__" :=by decide)(hdb:(x==("__debug__" : Str))=zm:=by decide)
  (he:Uu (e::es) X.env=(zm,eval e X.env)::Uu es X.env:=by rfl) (hpl:(backTo pos (Uu es X.env)).any (·.1)=zm:=by rfl):PE X (.Call (.Name x p) (e::es) [] pos) (tCB r t):=by
 intro pins s σ H Q I h;refine wpAny_Call_Name_kw (Tz I hg hm hv ?_ hn hdb);exact JH (thn (ha pos pins s σ H _ I h) λus s1 ⟨vs,H1,I1,r1,q1⟩=>hc pins s1 σ H1 vs us Q I1 r1 q1) he hpl
end
end L2
namespace HT
open PySem PyProof.Rows
section
variable{prog:Uo}{w:World}{A:Around}{E:Ul->Um->Prop}{s:Um}
noncomputable def sIx(n d:Nat):zx->Nat
 |none=>d
 |some v=>if v<0 then(v+(n:Int)).toNat else min v.toNat n
end
end HT
namespace L2
open PySem PySem.Spec PyProof.Rows
abbrev TO:=St->Hp->(zx->Hp->Prop)->Prop
def PO(X:Cx)(e:Option Ur)(t:TO):Prop:=
 ∀(pins:List (Up×Obj))(s:Um)(σ:St)(H:Hp)(Q:zx->Hp->Prop),Inv X pins σ H s->t σ H Q ->
  Ut (model X.prog X.w) X.A (evalPart e X.env) (λu s'=>∃o H',Inv X pins σ H' s'/\IsPart u o/\Q o H') X.xe s
noncomputable def qv:TO:=λ_ H Q=>Q zj H
noncomputable def Dy(t:TE):TO:=λσ H Q=>t σ H λx H1=>∃i,x=.int i/\Q (zd i) H1
section
variable{X:Cx}{e:Ur}{te:TE}{lo hi:Option Ur}{tl th:TO}{pos p2:Pos}
def qu:PO X zj qv:=by intro pins s σ H Q I h;exact Qn ⟨zj,H,I,.none,h⟩
def qt(h:PE X e te):PO X (zd e) (Dy te):=by
 intro pins s σ H Q I hw;refine thn (h pins s σ H _ I hw) λu s1 ⟨x,H1,I1,r1,q1⟩=>?_
 obtain⟨i,rfl,q⟩:=q1;obtain⟨t,rfl⟩:=r1;exact⟨zd i,H1,I1,.int i t,q⟩
def SlR(X:Cx)(r:V->zx->zx->Hp->VK->Prop):Prop:=
 ∀(pins:List (Up×Obj))(s:Um)(σ:St)(H:Hp)(x:V)(v vl vu:Ul)(lo hi:zx)(sl:Up)(Q:VK),Inv X pins σ H s->RelV x v->s.heap.IsSliceOf sl vl vu .none->IsPart vl lo->IsPart vu hi->r x lo hi H Q ->
  ∃T id,typeLookup (.type T) "__getitem__" = pure (zd (.builtin id))/\s.TypeIs v T/\Ut (model X.prog X.w) X.A (getItem v (.ref sl)) (EP X pins σ Q) X.xe s
noncomputable def SlR.or  (h:SlR X r)(h':SlR X r'):SlR X (λx lo hi H Q=>r x lo hi H Q∨r' x lo hi H Q):=by
 intro pins s σ H x v vl vu lo hi sl Q I rx hs pl pu q;rcases q with q|q
 .exact h pins s σ H x v vl vu lo hi sl Q I rx hs pl pu q
 .exact h' pins s σ H x v vl vu lo hi sl Q I rx hs pl pu q
noncomputable def tSl(r:V->zx->zx->Hp->VK->Prop)(te:TE)(tl th:TO):TE:=λσ H Q=>te σ H λx H1=>tl σ H1 λl H2=>th σ H2 λu H3=>r x l u H3 Q
def kC  (hr:SlR X r)(he:PE X e te)(hl:PO X lo tl)(hu:PO X hi th):PE X (.Subscript e (.Slice lo hi zj p2) pos) (tSl r te tl th):=by
 intro pins s σ H Q I h;refine Subscript_ (thn (he pins s σ H _ I h) λv s1 ⟨x,H1,I1,r1,q1⟩=>?_);refine wpAny_Slice (thn (hl pins s1 σ H1 _ I1 q1) λvl s2 ⟨l,H2,I2,pl,q2⟩=>thn (hu pins s2 σ H2 _ I2 q2) λvu s3 ⟨u,H3,I3,pu,q3⟩=>?_);refine Qn ?_;have I4:Inv X pins σ H3 {s3 with heap:=s3.heap.push {cls:=.type "slice", data:=.fields #[vl,vu,.none]}}:=I3.kept  λb ob q=>Qk _ q
 obtain⟨T,id,hT,ht,hg⟩:=hr pins {s3 with heap:=s3.heap.push {cls:=.type "slice", data:=.fields #[vl,vu,.none]}} σ H3 x v vl vu l u s3.heap.objs.size Q I4 r1 (Heap.IsSliceOf.new ..) pl pu q3;exact tail_any  ht hT hg (by with_unfolding_all rfl)
def WT(xs:List V)(lo hi:zx):List V:=(xs.drop (HT.sIx xs.length 0 lo)).take (HT.sIx xs.length xs.length hi-HT.sIx xs.length 0 lo)
def w6(xs)(lo hi):(WT xs lo hi).length<=xs.length:=by unfold WT;rw[QT,Ji];omega
end
noncomputable def ixN(n:Nat)(i:Int):Option Nat:=if 0<=i then(if i<n then zd i.toNat else zj)else if -(n:Int)<=i then zd (i+n).toNat else zj
def atI{α:Type}(xs:List α)(i:Int):Option α:=(ixN xs.length i).bind λj=>xs[j]?
def qq    (h:ixN n i=zd j):seqIndex? i n=zd j/\j<n /\ -(n:Int)<=i/\i<n:=by
 unfold ixN at h;by_cases h0:0<=i
 .rw[Qu h0]at h
  by_cases h1:i<n
  .rw[Qu h1]at h
   have e   :=Q8 h;exact⟨by rw[seqIndex_of h0 h1,e],by omega,by omega,h1⟩
  simp_all
 .rw[QH h0]at h
  by_cases h1 : -(n)<=i
  .rw[Qu h1]at h
   have e   :=Q8 h;exact⟨by rw[seqIndex_neg (by omega) h1,e],by omega,h1,by omega⟩
  .rw[QH h1]at h;cases h
def N9    {v:α}(h:atI xs i=zd v):∃j,seqIndex? i xs.length=zd j/\xs[j]?=zd v/\j<xs.length /\ -(xs.length:Int)<=i/\i<xs.length:=by
 unfold atI at h;cases e:ixN xs.length i with
 |none=>simp_all
 |some j=>rw[e]at h;obtain⟨h1,h2,h3,h4⟩:=qq e;exact⟨j,h1,h,h2,h3,h4⟩
def Zq   {j:Nat}{v:α}(h:xs[j]?=zd v):atI xs (j:Int)=zd v:=by
 have hj   :=(Qg.mp h).1;have e:ixN xs.length (j)=zd j:=by unfold ixN;simp_all
 unfold atI;rw[e];exact h
def N8(b:Ur):Prop:=∀o i,subscripted b zm o i=operate [o,i] (getItem o i)
def IxR(X:Cx)(r:R2):Prop:=
 ∀(value slice:Ur)(pins:List (Up×Obj))(s:Um)(σ:St)(H:Hp)(x y:V)(v u:Ul)(Q:VK),Inv X pins σ H s->RelV x v->RelV y u->r x y H Q ->
  subscripted slice zm v u=operate [v,u] (getItem v u)->Ut (model X.prog X.w) X.A (subscriptTail value slice v u) (EP X pins σ Q) X.xe s
def MtR(X:Cx)(id:String)(r:V->List V->Hp->VK->Prop):Prop:=
 ∀(pins:List (Up×Obj))(s:Um)(σ:St)(H:Hp)(x:V)(xs:List V)(v:Ul)(us:zr)(Q:VK),Inv X pins σ H s->RelV x v->Vals xs us->r x xs H Q ->
  Ut (model X.prog X.w) X.A (call (.builtin id) (v::us)) (EP X pins σ Q) X.xe s
section
variable{X:Cx}{a b:Ur}{ta tb:TE}{pos:Pos}
noncomputable def IxR.or  (h:IxR X r)(h':IxR X r'):IxR X (λx y H Q=>r x y H Q∨r' x y H Q):=by
 intro value slice pins s σ H x y v u Q I rx ry q hs;rcases q with q|q
 .exact h value slice pins s σ H x y v u Q I rx ry q hs
 .exact h' value slice pins s σ H x y v u Q I rx ry q hs
def LH  (hr:IxR X r)(ha:PE X a ta)(hb:PE X b tb)(hs:N8 b):PE X (.Subscript a b pos) (tOp r ta tb):=by intro pins s σ H Q I h;exact Subscript_ (Ro ha hb I h λv u s2 x y H2 I2 rx ry q=>hr a b pins s2 σ H2 x y v u Q I2 rx ry q (hs _ _))
def rIxL(K:Frag):R2:=λx y H Q=>∃p xs i v,x=.ref p/\y=.int i/\SqL K H p xs/\atI xs i=zd v/\Q v H
def rIxT(K:Frag):R2:=λx y H Q=>∃p xs i v,x=.ref p/\y=.int i/\SqT K H p xs/\atI xs i=zd v/\Q v H
def rIxS:R2:=λx y H Q=>∃z i c,x=.str z/\y=.int i/\z.length<=Us/\atI z.cps.toList i=zd c/\Q (.str ⟨#[c]⟩) H
def qp:IxR X (rIxL X.K):=by
 intro value slice pins s σ H x y v u Q I rx ry h hs;obtain⟨p,xs,i,z,rfl,rfl,hq,he,q⟩:=h;cases rx;obtain⟨t,rfl⟩:=ry;obtain⟨its,r,pl,hz⟩:=I.list hq;obtain⟨j,h1,h2,h3,h4,h5⟩:=N9 he;obtain⟨w,ew,zN⟩:=r.get h2;have hl:=r.length;have hn:=Op;have fin:EP X pins σ Q w s:=⟨z,H,I,zN,q⟩
 by_cases h0:0<=i
 .have hj   :=by
   rw[seqIndex_of h0 h5]at h1;exact Q8 h1
  exact item_listR pl.isList h0 (by omega) (by rw[hj];simpa using ew) fin hs
 .have hj:(i+(its.toArray.size:Int)).toNat=j:=by
   rw[seqIndex_neg (by omega) h4]at h1;rw[Jf,←hl];exact Q8 h1
  exact subscriptTail_builtinR (x:=w) pl.isList.typeIs slot_list_getitem.lookup
   (wpAny_getItem_list_neg  pl.isList (by omega) (by rw[List.size_toArray]<;>omega) (by omega) (by rw[hj];simpa using ew) ⟨rfl,fin⟩) hs
def BU:IxR X (rIxT X.K):=by
 intro value slice pins s σ H x y v u Q I rx ry h hs;obtain⟨p,xs,i,z,rfl,rfl,hq,he,q⟩:=h;cases rx;obtain⟨t,rfl⟩:=ry;obtain⟨its,r,pl,hz⟩:=I.tuple hq;obtain⟨j,h1,h2,h3,h4,h5⟩:=N9 he;obtain⟨w,ew,zN⟩:=r.get h2;have hl:=r.length;have hn:=Op;have fin:EP X pins σ Q w s:=⟨z,H,I,zN,q⟩
 exact subscriptTail_builtinR  pl.typeIs slot_tuple_getitem.lookup
  (getItem_tuple   pl (by omega) (by omega) (by rw[List.size_toArray,←hl];exact h1) (by simpa using ew) ⟨rfl,fin⟩) hs
def BS:IxR X rIxS:=by
 intro value slice pins s σ H x y v u Q I rx ry h hs;obtain⟨z,i,c,rfl,rfl,hz,he,q⟩:=h;obtain⟨t,rfl⟩:=rx;obtain⟨t',rfl⟩:=ry;obtain⟨j,h1,h2,h3,h4,h5⟩:=N9 he;have hl:z.cps.toList.length=z.length:=by simp[Str.length]
 rw[hl]at h1 h4 h5;have hn:=Op;exact tail_any (typeIs_str s z t) slot_str_getitem.lookup (getItem_str  (by have e1:decide (i < -(2 ^ 63:Int))=zm:=QZ (by omega);have e2:decide (i ≥ 2 ^ 63)=zm:=QZ (by omega);rw[e1,e2,Bool.or_false]) (by rw[h1];simpa using h2) ⟨.str ⟨#[c]⟩,H,I.tok _,⟨_,rfl⟩,q⟩) hs
def rIx(K:Frag):R2:=λx y H Q=>rIxL K x y H Q∨rIxT K x y H Q∨rIxS x y H Q
def Hi:IxR X (rIx X.K):=qp.or (BU.or BS)
def yE(lo hi)(n):(sliceBounds lo hi zj n).1=((HT.sIx n 0 lo:Nat):Int)/\(sliceBounds lo hi zj n).2.1=((HT.sIx n n hi:Nat):Int)/\(sliceBounds lo hi zj n).2.2=1:=by
 refine⟨?_,?_,rfl⟩
 .cases lo with
  |none=>simp[sliceBounds,HT.sIx]
  |some i=>
   simp only[sliceBounds,HT.sIx,Option.getD_none,show(1:Int) > 0 by decide,if_true];by_cases h:i<0
   .simp only[h,if_true]<;>omega
   .simp only[h,if_false]<;>omega
 .cases hi with
  |none=>simp[sliceBounds,HT.sIx]
  |some i=>
   simp only[sliceBounds,HT.sIx,Option.getD_none,show(1:Int) > 0 by decide,if_true];by_cases h:i<0
   .simp only[h,if_true]<;>omega
   .simp only[h,if_false]<;>omega
def yW(its:zr)(lo hi):slicePick its.toArray lo hi zj=((its.drop (HT.sIx its.length 0 lo)).take (HT.sIx its.length its.length hi-HT.sIx its.length 0 lo)).toArray:=by obtain⟨h1,h2,h3⟩:=yE lo hi its.toArray.size;unfold slicePick;rw[h1,h2,h3];simp only[sliceRange_one,pick_run]<;>rfl
def rSlL(K:Frag):V->zx->zx->Hp->VK->Prop:=λx lo hi H Q=>∃a xs,x=.ref a/\SqL K H a xs/\∀p,H p=zj->Q (.ref p) (upd H p (.lst (WT xs lo hi)))
def qo:SlR X (rSlL X.K):=by intro pins s σ H x v vl vu lo hi sl Q I rx hs pl pu h;obtain⟨a,xs,rfl,hx,q⟩:=h;cases rx;obtain⟨its,r,ht,hz⟩:=I.list hx;have hlen:=r.length;refine⟨"list", _,slot_list_getitem.lookup,ht.isList.typeIs,?_⟩;refine wpAny_getItem_list_slice ht.isList hs pl pu .none (by simp) ?_ (by grind);rw[yW,←hlen];refine⟨.ref s.heap.objs.size,_,I.laid   (λb ob q=>Qk _ q) (Qp _) ?_,rfl,q _ (I.hok.fresh (Qp _))⟩;exact⟨QP (w6 xs lo hi) hz,_,0,(r.drop _).take _,QD _ zh⟩
def yD:YS X (.type "list") (λxs H Q=>∃p ys,xs=[.ref p]/\(SqL X.K H p ys∨SqT X.K H p ys)/\∀l,H l=zj->Q (.ref l) (upd H l (.lst ys))):=by
 intro pins s σ H xs us Q I r h;obtain⟨p,ys,rfl,hq,q⟩:=h;obtain⟨u,rfl,rx⟩:=Pk r;cases rx
 have fin:∀(its:zr),Vals ys its->ys.length<=Us->∀(h':Heap)(c':Nat),_ ->
   h'.get? s.heap.objs.size=zd {cls:=.type "list", dict:=zj,data:=.seq its.toArray c',slots:=#[]}->EP X pins σ Q _ {s with heap:=h'}:=λits r' hz h' c' kp e=>
  ⟨.ref s.heap.objs.size,_,I.laid  kp (Qp _) (show Yv X.prog X.w _ h' _ (.lst ys)from⟨hz,its,c',r',e⟩),rfl,q _ (I.hok.fresh (Qp _))⟩
 rcases hq with hq|hq
 .obtain⟨its,r',pl,hz⟩:=I.list hq
  have hlen:=r'.length;obtain⟨o,ho,hc,n,hd⟩:=pl.isList;exact call_list_seq p (.inl zh) ho hc hd (λh' c' kp e=>fin its r' hz h' c' kp e) (by simp_all)
 .obtain⟨its,r',pl,hz⟩:=I.tuple hq
  have hlen:=r'.length;obtain⟨o,ho,hc,n,hd⟩:=pl;exact call_list_seq p (.inr zh) ho hc hd (λh' c' kp e=>fin its r' hz h' c' kp e) (by simp_all)
def yV:YS X (.type "tuple") (λxs H Q=>∃p ys,xs=[.ref p]/\((SqL X.K H p ys/\∀l,H l=zj->Q (.ref l) (upd H l (.tup ys)))∨(SqT X.K H p ys/\Q (.ref p) H))):=by
 intro pins s σ H xs us Q I r h;obtain⟨p,ys,rfl,h⟩:=h;obtain⟨u,rfl,rx⟩:=Pk r;cases rx;rcases h with ⟨hq,q⟩|⟨hq,q⟩
 .obtain⟨its,r',pl,hz⟩:=I.list hq
  have hlen:=r'.length;refine call_tuple_list pl.isList (λh' kp=>?_) (by simp_all);have I1   :=I.kept (t':=s.toks) kp
  have I2   :=
   I1.laid (t':=s.toks) (λb o e=>Qk _ e) (Qp _) (show Yv X.prog X.w _ _ _ (.tup ys)from⟨hz,its,r',IsTup.new _ _⟩)
  exact⟨.ref h'.objs.size,_,I2,rfl,q _ (I1.hok.fresh (Qp _))⟩
 .obtain⟨its,r',pl,hz⟩:=I.tuple hq
  exact call_tuple_same pl ⟨.ref p,H,I,rfl,q⟩
def tyV(K:Frag)(T:String)(x:V)(H:Hp):Prop:=match x with
 |.str _=>T = "str"
 |.int _=>T = "int"
 |.ref p=>(T = "list" /\ ∃xs,SqL K H p xs)∨(T = "tuple" /\ ∃o,K.lookup p=zd o/\o.cls=.type "tuple" /\ o.dict=zj) ∨
   (T = "dict" /\ ((∃kvs,H p=zd (.dK kvs)) ∨ ∃kvs,H p=zd (.dT kvs)))∨(T = "set" /\ ∃S n,H p=zd (.set S n))
 |_=>False
def BR  {σ:St}{H:Hp}{s:Um}{T:String}{x:V}{v:Ul}(I:Inv X pins σ H s)(r:RelV x v)(ty:tyV X.K T x H) :
  s.TypeIs v T/\∀a,v=.ref a->∃ob,s.heap.get? a=zd ob/\ob.dict=zj:=by
 cases x with
 |str z=>obtain⟨t,rfl⟩:=r;cases (ty);exact⟨typeIs_str s z t,λ_ e=>nomatch e⟩
 |int i=>obtain⟨t,rfl⟩:=r;cases (ty);exact⟨typeIs_int s i t,λ_ e=>nomatch e⟩
 |ref p=>
  cases r;rcases ty with ⟨rfl,xs,hq⟩|⟨rfl,o,hk,hc,hd⟩|⟨rfl,hk⟩|⟨rfl,S,n,hk⟩
  .obtain⟨its,_,pl,_⟩:=I.list hq
   refine⟨pl.isList.typeIs,λa e=>?_⟩;cases e;obtain⟨o,n,e,c,hd,_⟩:=pl;exact⟨o,e,hd⟩
  .refine⟨⟨o,I.kIn p o hk,hc⟩,λa e=>?_⟩
   cases e;exact⟨o,I.kIn _ o hk,hd⟩
  .have z:∃o,s.heap.get? p=zd o/\o.ExactDict:=by
    rcases hk with ⟨kvs,hk⟩|⟨kvs,hk⟩
    .obtain⟨_,_,_,_,o,_,_,e,ex,_⟩:=I.hok p _ hk
     exact⟨o,e,ex⟩
    .obtain⟨_,_,_,_,o,_,_,e,ex,_⟩:=I.hok p _ hk
     exact⟨o,e,ex⟩
   obtain⟨o,e,ex⟩:=z;refine⟨⟨o,e,ex.1⟩,λa e2=>?_⟩;cases e2;exact⟨o,e,ex.2.1⟩
  .obtain⟨o,_,_,_,e,ex,_⟩:=I.hok p _ hk
   refine⟨⟨o,e,ex.1⟩,λa e2=>?_⟩;cases e2;exact⟨o,e,ex.2.1⟩
 |_=>exact False.elim ty
noncomputable def tBM(K:Frag)(T:String)(r:V->List V->Hp->VK->Prop)(to:TE)(t:TA):TE:=λσ H Q=>to σ H λx H1=>tyV K T x H1/\t σ H1 λxs H2=>r x xs H2 Q
variable{o e:Ur}{es:zq}{to:TE}{t:TA}{name:Str}{apos cpos:Pos}{T id:String}{r:V->List V->Hp->VK->Prop}
def Nx(pa:PlainAttrs T)(slot:Slot T name id)(hty:typeOf (.builtin id)=pure (.type "method_descriptor"))(hm:MtR X id r)(ho:PE X o to)(ha:PA X (e::es) t)
  (hbase:attributeBase o name X.env (eval o X.env)=eval o X.env:=by rfl)
  (hfew:((backTo cpos (Uu (e::es) X.env)).all (λx=>!x.1)&&(backToKw cpos (keywordEach [] X.env)).all (λx=>x.1.isSome)
   && decide ((e::es).length+([]:List Keyword).length+(if([]:List Keyword).isEmpty then 0 else 1)<30))=zk:=by rfl)
  (hline:(apos.endLine==cpos.line)=zk:=by rfl) (hs:Uu (e::es) X.env=(zm,eval e X.env)::Uu es X.env:=by rfl) (hplain:(backTo cpos (Uu es X.env)).any (·.1)=zm:=by rfl) :
  PE X (.Call (.Attribute o name apos) (e::es) [] cpos) (tBM X.K T r to t):=by
 intro pins s σ H Q I h;refine wpAny_Call_method_late hbase hfew hline zh (thn (ho pins s σ H _ I h) λv s1 ⟨x,H1,I1,r1,ty,q1⟩=>?_);obtain⟨h1,h2⟩:=BR I1 r1 ty;refine⟨T,id,pa,slot,hty,h1,h2,?_⟩;have hA:=ha cpos pins s1 σ H1 _ I1 q1;rw[hs]at hA⊢;refine Calls.callWith_builtin (by show(zm || (backTo cpos _).any _)=zm;rw[hplain]<;>rfl) (Calls.evalArgs_plain ?_);exact thn hA λus s2 ⟨vs,H2,I2,r2,q2⟩=>hm pins s2 σ H2 x vs v us Q I2 r1 r2 q2
end
def MtM(X:Cx)(id:String)(r:V->List V->Hp->VK->Prop):Prop:=
 ∀(pins:List (Up×Obj))(s:Um)(σ:St)(H:Hp)(x:V)(xs:List V)(v:Ul)(us:zr)(Q:VK),Inv X pins σ H s->RelV x v->Vals xs us->r x xs H Q ->
  Ut (model X.prog X.w) X.A (call (.builtin id) (v::us)) (EP X pins σ Q) X.xe s
def Vals.one:∀{x}{us},Vals [x] us->∃u,us=[u]/\RelV x u
 |_,_,.cons r .nil=>⟨_,rfl,r⟩
def Vals.two:∀{x y}{us},Vals [x,y] us->∃u v,us=[u,v]/\RelV x u/\RelV y v
 |_,_,_,.cons r (.cons q .nil)=>⟨_,_,rfl,r,q⟩
def Vals.reverse   (h:Vals xs us):Vals xs.reverse us.reverse:=by
 induction h with
 |nil=>exact .nil
 |cons r t ih=>rw[List.reverse_cons,List.reverse_cons];exact Vals.append ih (.cons r .nil)
def Vals.rep   (h:Vals xs us):∀k:Nat,Vals (Ux k xs).flatten (Ux k us).flatten
 |0=>.nil
 |k+1=>by exact Vals.append h (Vals.rep h k)
theorem Ey(its):∀(k)(acc:zr),
  List.foldl (λx1 x2=>x1++x2) acc.toArray (Ux k its.toArray)=(acc++(Ux k its).flatten).toArray
 |0,acc=>by simp
 |k+1,acc=>by
  have e:acc.toArray++its.toArray=(acc++its).toArray:=by simp
  have e2:(acc++its)++(Ux k its).flatten=acc++(Ux (k+1) its).flatten:=by rw[List.replicate_succ,Js,Q5]
  rw[←e2,←Ey its k _,←e,List.replicate_succ,Ju]
section
variable{X:Cx}{pins:List (Up×Obj)}{σ:St}{H:Hp}{s:Um}{l b:Up}{xs ys zs:List V}
def Inv.lset{its its':zr}{n}{f}{t'}(I:Inv X pins σ H s)(hH:H l=zd (.lst xs))
  (e:s.heap.get? l=zd {cls:=.type "list", data:=.seq its.toArray n}) (hf:f its.toArray=its'.toArray) (hv:Vals ys its') (hz:ys.length<=Us) :
  Inv X pins σ (upd H l (.lst ys)) {s with heap:=s.heap.update l (Obj.mapSeq f),toks:=t'}:=by
 have q:=PySem.IsL.update e f;rw[hf]at q;refine I.write   (by rw[hH];exact trivial) (.inl zh) (λb' u hb hu=>(Heap.get?_update_other s.heap _ (Ne.symm hb)).trans hu) ⟨_,q⟩ ?_;exact⟨hz,its',_,hv,q⟩
def Inv.lnew   (I:Inv X pins σ H s)(hv:Vals ys its)(hz:ys.length<=Us) :
  Inv X pins σ (upd H s.heap.objs.size (.lst ys)) {s with heap:=s.heap.push {cls:=.type "list", data:=.seq its.toArray},toks:=t'}:=
 I.laid (λ_ _ q=>Qk _ q) (Qp _) ⟨hz,its,0,hv,QD _ zh⟩
noncomputable def Inv.fresh(I:Inv X pins σ H s):H s.heap.objs.size=zj:=I.hok.fresh (Qp _)
def Inv.lstM(I:Inv X pins σ H s)(hH:H l=zd (.lst xs)):xs.length<=Us/\∃(its:zr)(n:Nat),Vals xs its/\xs.length=its.length/\s.heap.get? l=zd {cls:=.type "list", data:=.seq its.toArray n}:=by obtain⟨z,its,n,r,e⟩:=I.hok l _ hH;exact⟨z,its,n,r,r.length,e⟩
noncomputable def kB  (h:n<=Us):Builtin.List.listTooLong n=zm:=by exact QZ (by omega)
end
section
variable{X:Cx}
def qm:V->List V->Hp->VK->Prop:=λx vs H Q=>∃l xs y,x=.ref l/\vs=[y]/\H l=zd (.lst xs)/\xs.length<Us/\Q .non (upd H l (.lst (xs++[y])))
def Ex:MtM X "list.append" qm:=by
 intro pins s σ H x vs v us Q I rx rv h;obtain⟨l,xs,y,rfl,rfl,hH,hz,q⟩:=h;cases rx;obtain⟨u,rfl,ru⟩:=rv.one;obtain⟨z,its,n,r,hl,e⟩:=I.lstM hH;refine call_meets F.slot_list_append ⟨_,e,rfl⟩ F.entry_list_append (F.args_list_append_2 _ _) (PySem.list_append l its.toArray n u (by grind)) ⟨e,?_⟩;refine⟨.non,_,I.lset  hH e (by simp) (r.append (.cons ru .nil)) ?_,rfl,q⟩
 grind
def ql{α:Type}(xs:List α)(k):(Ux k xs).flatten.length=k*xs.length:=by simp_all
end
section
variable{prog:Uo}{w:World}{A:Around}{E:Ul->Um->Prop}{s:Um}
set_option maxRecDepth 100000 in
end
end L2
namespace Att
open PySem PySem.W PySem.Calls PyProof.Rows
noncomputable def yX   : ∀(ns)(vs),WellAll P h vs (ns.map WData.int)->IntsAre vs ns:=by
 intro ns;induction ns with
 |nil=>intro vs w;cases w;exact .nil
 |cons n ns ih=>
  intro vs w;cases w with
  |cons a b=>cases a;exact .cons _ _ (ih _ b)
def vq{l:OpenLaw}{n:Nat}(hn:l.most=zd n){P}{h}{args}{vals}
  (hpre:l.row.toRowW.claim.pre args=zk) (ak:WellAll P h vals args) :
  ∃a vs ns,vals=[Value.ref a]/\args=[WData.list (ns.map WData.int)]/\h.get? a=zd {cls:=.type "list", data:=.seq vs.toArray}/\IntsAre vs ns/\ns.length<=n:=by
 have hsh:WShape.hasAll [] args [.list .int]=zk:=(pre_splitW hpre).1;have hc   :=(pre_splitW hpre).2;obtain⟨d,r,rfl,h1,h2⟩:=hasAllW_cons hsh;obtain rfl:=hasAllW_nil h2;obtain⟨xs,rfl,h3⟩:=hasW_list h1;obtain⟨ns,rfl⟩:=items_int h3
 have hlen   :=by
  have h4   :=by have h4:=(holds_andW hc).1;rw[hn]at h4;exact h4
  have h5:=condW_of h4 (w_not (w_lt w_lit (w_len_list (w_arg zh))))
  first
   |(exact absurd h5 _)
   |(simp at h5;omega)
 cases ak with
 |cons w1 w2=>
  cases w2;cases w1 with
  |list ho hall=>exact⟨_,_,ns,rfl,rfl,ho,yX ns _ hall,hlen⟩
noncomputable def vp(l:OpenLaw)(args):l.row.toRowW.claim.post args (.bool zk) args=zk:=
 postW_of
  (show WShape.has [] _ .bool=zk by first|rfl|decide|lia)
  (w_eq_bool (w_res zh) w_lit) zh
def attach_call{l:OpenLaw}{n:Nat}{q}{loose}{XP}{YP}{d}
  (hn:l.most=zd n) (hdf:d.params.defaults=[])
  (call:∀(w:World)(s₀ s₁)(mg mb)(fa:Up)(o:Obj)(pm cd doc)(a:Up)(vs)(ns),
   Ground q loose [] XP w s₀ mg mb s₁.heap->YP w s₁.heap ->
   s₁.heap.get? fa=zd o->o.data=.func (docDef d.name d.params d.body d.scope pm cd doc)->s₁.heap.CodeRec cd d.name->mg d.name=zd (.ref fa) ->
   s₁.heap.get? a=zd {cls:=.type "list", data:=.seq vs.toArray}->IntsAre vs ns->ns.length<=n->s₁.gens=#[] ->
   codeAny (model l.prog w) callerA (.call (.ref fa) ⟨[.ref a],[]⟩) (λr s'=>r=.ok (.ret (.bool zk))/\OldK s₁.heap s'.heap/\s'.os=s₁.os/\AllBare s'.gens) s₁) :
  WalkO q loose XP YP l.row.toRowW d [] (λf vs=>PySem.call f vs):=by
 intro w s₀ s₁ mg mb G Y fa o pm cd doc dV kV ho hd hcd hD hmg hg args vals as hpre hlay hrd ak hlo;obtain rfl:dV=.none:=Dflts.none hD hdf;obtain rfl:kV=.none:=Dflts.noKw hD;obtain⟨a,vs,ns,rfl,rfl,hobj,hints,hlen⟩:=vq hn hpre ak;refine enter_call (codeAny_mono (call w s₀ s₁ mg mb fa o pm cd doc a vs ns G Y ho (fd_plain hd) hcd hmg hobj hints hlen hg) λr s' hq=>?_);obtain⟨rfl,h2,h3,h4⟩:=hq;exact⟨.inl ⟨.bool zk,.bool zk,[],rfl,λ_=>rfl,.bool zk,vp l _,λ_=>⟨List.Pairwise.nil,λ_ hm=>(nomatch hm)⟩⟩,h2,h3,h4⟩
end Att
namespace L2
open PySem PySem.Spec PyProof.Rows
theorem Vx:∀{vs}{ns},IntsAre vs ns->Vals (ns.map V.int) vs
 |_,_,.nil=>.nil
 |_,_,.cons n t h=>.cons ⟨t,rfl⟩ (Vx h)
def Only(H:Hp):Prop:=∀b,H b=zj ∨ ∃o xs,H b=zd (.frz o (.lst xs))
def kA{P:Uo}{w:World}{K:Frag}{mg mb:Str->zw}{CX:CXT}{k:Nat}{fa a:Up}{fd:Uq}{x:Str}{sp:Sp}{s₁:Um}{vs:zr}{ns:zo}
  (KX:K.In s₁.heap) (hns:s₁.heap.Ns mainGlobals mg) (hb:s₁.heap.Ns builtinsNs mb) (aN:∀x:Str,x ≠ "__name__" -> mb x=bootBuiltins x) (hlim:s₁.heap.NoLimit) (hg:s₁.gens=#[])
  (ha:s₁.heap.get? a=zd {cls:=.type "list", data:=.seq vs.toArray}) (hi:IntsAre vs ns) (hl:ns.length<=Us) (hr:Room k callerA)
  (F:∀base:Heap,K.In base->base.Ns mainGlobals mg->FnOk P w K mg base CX k fa fd [x] sp) (hbind:∀(s:Um)(u:Ul),BindsTo s fd ⟨[u],[]⟩ [(x,u)])
  (a9:∀H:Hp,Only H->SqL K H a (ns.map V.int)->sp [.ref a] H (λv _=>v=.bl zk) λ_ _ _=>False)
  (hCX:∀H e s',CX [] H s₁ (λ_ _ _=>False) e s'->False) :
  codeAny (model P w) callerA (.call (.ref fa) ⟨[.ref a],[]⟩) (λr s'=>r=.ok (.ret (.bool zk))/\OldK s₁.heap s'.heap/\s'.os=s₁.os/\AllBare s'.gens) s₁:=by
 have rv:=Vx hi;have lenV:=hi.length
 have core:∀H:Hp,Only H->SqL K H a (ns.map V.int)->HOk P w H s₁.heap->(∀b,H b≠zj->b=a)->(H a≠zj->K.lookup a=zj) ->
   codeAny (model P w) callerA (.call (.ref fa) ⟨[.ref a],[]⟩) (λr s'=>r=.ok (.ret (.bool zk))/\OldK s₁.heap s'.heap/\s'.os=s₁.os/\AllBare s'.gens) s₁:=by
  intro H hO hS hok hA hK;have base_of:∀{b:Up}{o:Obj},s₁.heap.get? b=zd o->H b=zj->(Y5 s₁.heap H).get? b=zd o:=λe n=>jT e n
  have noA:∀{b:Up}{o:Obj}{es:Array DictEntry}{ep:Nat},s₁.heap.get? b=zd o->o.data=.dict es ep->H b=zj:=λ{b o es ep} e d=>by
   cases q:H b with
   |none=>rfl
   |some u=>have e':b=a:=hA b (by rw[q];simp);subst e';rw[ha]at e;cases e;have d'   :=d;cases d'
  have nsK:∀{b:Up}{m:Str->zw},s₁.heap.Ns b m->(Y5 s₁.heap H).Ns b m:=λ{b m} ⟨o,es,ep,e,d,r⟩=>⟨o,es,ep,base_of e (noA e d),d,r⟩
  have hKb:K.In (Y5 s₁.heap H):=λb o e=>base_of (KX b o e) (by
   cases q:H b with
   |none=>rfl
   |some u=>have e':b=a:=hA b (by rw[q];simp);subst e';rw[hK (by rw[q];simp)]at e;cases e)
  have hM:Mod K mg (Y5 s₁.heap H):=⟨hKb,nsK hns,⟨mb,nsK hb,aN⟩,let ⟨mc,h1,h2⟩:=hlim;⟨mc,nsK h1,h2⟩⟩
  have e0:Env0 P w K mg (Y5 s₁.heap H) callerA [] s₁ H:=⟨rfl,hM,λb o e=>qE e,Nat.le_of_eq (wT _ _),trivial,λb hb=>absurd (show b∈([]:zu)from hb) (by simp),hok,.of_eq hg⟩
  refine codeAny_mono ((F _ hKb (nsK hns)).run callerA [] s₁ H ⟨[.ref a],[]⟩ [.ref a] [.ref a] _ _ hr e0 (hbind s₁ (.ref a)) (.cons zh .nil) (a9 H hO hS)) λr s' h=>?_
  cases r with
  |error e=>exact(hCX H e s' h).elim
  |ok fl=>
   cases fl with
   |next=>exact False.elim h
   |brk=>exact False.elim h
   |cont=>exact False.elim h
   |ret u=>
    obtain⟨v,H',os,bare,un,hok',r',q⟩:=h;have q':v=.bl zk:=q;subst q';obtain rfl:u=Value.bool zk:=r';refine⟨rfl,OldK.of_keep λb o e=>?_,os,bare⟩;cases q:H b with
    |none=>exact un.keep b o e q (by intro z;exact absurd (show b∈([]:zu)from z) (by simp)) (by simp)
    |some u=>
     rcases hO b with z|⟨ob,xs,z⟩
     .rw[q]at z;cases z
     .have z2:=un.frzs b ob _ z
      obtain⟨e1,_⟩:=hok b _ z;obtain⟨e2,_⟩:=hok' b _ z2;rw[e]at e1;cases e1;exact e2
 cases hk:K.lookup a with
 |some o=>have e:=KX a o hk;rw[ha]at e;cases e;refine core (λ_=>zj) (λ_=>.inl zh) (.inr ⟨_,vs.toArray,_,hk,rfl,rfl,rfl,by rw[List.size_toArray,lenV];exact hl,by simpa using rv⟩) (λb u z=>by have z':(none:Option HO)=zd u:=z;cases z') (λb z=>absurd zh z) λz=>absurd zh z
 |none=>
  refine core (λb=>if b=a then zd _ else zj) (λb=>?_) (.inl (.inr ⟨{cls:=.type "list", data:=.seq vs.toArray},Qu zh⟩)) (λb u z=>?_) (λb z=>?_) λ_=>hk
  .by_cases hb:b=a
   .exact .inr ⟨_,_,Qu hb⟩
   .exact .inl (QH hb)
  .by_cases hb:b=a
   .have z':=(Qu hb).symm.trans z
    cases z';subst hb;exact⟨ha,by rw[Qb];exact hl,vs,_,rv,ha⟩
   .have z':=(QH hb).symm.trans z
    cases z'
  .by_cases hb:b=a
   .exact hb
   .exact absurd (QH hb) z
noncomputable def T5(s:Stmt):Arguments:=match s with
 |.FunctionDef _ a _ _ _ _ _ _ _ _=>a
 |_=>{posonlyargs:=[],args:=[],vararg:=zj,kwonlyargs:=[],kw_defaults:=[],kwarg:=zj,defaults:=[]}
noncomputable def Vd(s:Stmt):List Stmt:=match s with
 |.FunctionDef _ _ b _ _ _ _ _ _ _=>b
 |_=>[]
noncomputable def Yo(s:Stmt):Scope:=match s with
 |.FunctionDef _ _ _ _ _ _ sc _ _ _=>sc
 |_=>{kind:=.function,names:=[],isGenerator:=zm,isCoroutine:=zm}
noncomputable abbrev CX0:CXT:=λ_ _ _ _ _ _=>False
noncomputable abbrev E0:XK:=λ_ _ _=>False
def Dx{X:Cx}:NN CX0 X E0:=λ_ _ _ _ _ _ _ h=>h.elim
structure Fun(K:Frag)(x qual:Str)(st:Stmt)(f:Up)(fd:Uq):Prop where
 ex:∃(oc:Ul)(od:zD)(kV doc pm:Ul)(an:zD)(cdv ct:Ul)(osl:Array zw),
  fd=PySem.W.fnOf x qual (T5 st) (Vd st) (Yo st) .none kV doc pm an cdv ct/\K.lookup f=zd ⟨oc,od,.func fd,osl⟩/\PySem.W.codeIn K cdv qual=zk
 kp:PySem.W.keepIn K (.ref f)=zk
section
variable{P:Uo}{w:World}{K:Frag}{mg:Str->zw}{base:Heap}
def Fun.ok  {st}{f}{fd}{N ps}{k}{sp}(F:Fun K x qual st f fd)(S:PM N ps (Yo st))(len:∀vs H Q E,sp vs H Q E->vs.length=ps.length)
  (hbody:∀(cdv)(A)(outer)(s)(H)(vs)(Q:VK)(E),Room k (A.deeper (envOfC qual (Yo st) s.heap.objs.size f cdv))->sp vs H Q E ->
   ∃t,PSs (XS CX0 P w K mg base N qual (Yo st) f cdv A outer s H E).nox (Vd st) t/\t {nx:=λ_ H'=>Q .non H',rt:=Q} (WM N vs) H):FnOk P w K mg base CX0 (k+1) f fd ps sp:=by
 obtain⟨oc,od,kV,doc,pm,an,cdv,ct,osl,rfl,lk,hcd⟩:=F.ex;refine DA lk hcd S len λA outer s H vs Q E hr a9=>?_
 obtain⟨t,h,q⟩:=hbody cdv A outer s H vs Q E hr a9;exact⟨t,h.nox,q⟩
def Fun.binds  {st}{f}{fd}{ps}(F:Fun K x qual st f fd)
  (h:∀(kV doc pm)(an)(cdv ct)(us),us.length=ps.length->bindArgs (PySem.W.fnOf x qual (T5 st) (Vd st) (Yo st) .none kV doc pm an cdv ct) ⟨us,[]⟩=pure (ps.zip us)):Tu K fd ps []:=by
 obtain⟨oc,od,kV,doc,pm,an,cdv,ct,osl,rfl,lk,hcd⟩:=F.ex;exact .all (h kV doc pm an cdv ct)
end
def Same(H H':Hp):Prop:=∀b o,H b=zd o->H' b=zd o
noncomputable def Same.refl(H:Hp):Same H H:=λ_ _ h=>h
noncomputable def Same.trans{H H1 H2:Hp}(a:Same H H1)(b:Same H1 H2):Same H H2:=λc o h=>b c o (a c o h)
noncomputable def Same.free  (e:Same H H'){l}(h:H' l=Option.none):H l=Option.none:=by
 cases q:H l with
 |none=>rfl
 |some o=>rw[e l o q]at h;cases h
noncomputable def Same.seq{K}{H H'}{a}{xs}(e:Same H H')(h:SqL K H a xs):SqL K H' a xs:=by
 rcases h with (h|⟨o,h⟩)|h
 .exact .inl (.inl (e _ _ h))
 .exact .inl (.inr ⟨o,e _ _ h⟩)
 .exact .inr h
section
variable{X:Cx}{pins:List (Up×Obj)}{σ:St}{H:Hp}{s:Um}{h':Heap}
def Inv.turnedNew  {fp:zu}{p:Up}{o:HO}(I:Inv X pins σ H s)(hf:∀b∈fp,ZY X pins H b)
  (k:∀b o,b∉fp->s.heap.get? b=zd o->h'.get? b=zd o) (hp:s.heap.objs.size<=p) (new:Yv X.prog X.w (upd H p o) h' p o) :
  Inv X pins σ (upd H p o) {s with heap:=h',toks:=t'}:=by
 have hn   :=I.hok.fresh hp;have trk:∀b u,H b=zd u->b∉fp:=λb u e z=>by rw[(hf b z).1]at e;cases e
 refine I.step   (ch:=fp) (λb hb=>?_) (λb o _ _ hc e _=>k b o hc e) (λb o _ _ hc e _=>⟨o.slots,k b o hc e⟩)
  (λb o _ e n=>by rw[KP (QS (QE (Qh e) hp))];exact n) (λb o hc e=>⟨o,k b o hc e⟩)
  (λb xs e=>by rw[KP (YN e hn)];exact e) (λb ob u e=>by rw[KP (YN e hn)];exact e) (λb ps e=>⟨#[],by rw[KP (YN e hn),e];simp⟩)
  (λm hm=>?_) (λb u e=>?_) I.bare
 .obtain⟨_,f1,_,f3,f4,f5⟩:=hf b hb
  exact⟨f3,f1,f4,f5⟩
 .obtain⟨ob,es,ep,ho,r⟩:=hm
  exact⟨ob,es,ep,k _ ob (λz=>(hf _ z).2.1 zh) ho,r⟩
 .by_cases hb:b=p
  .subst hb;rw[Zp]at e;cases e;exact new
  .rw[KP hb]at e
   refine(I.hok b u e).stay (λc v hc q=>k c v ?_ q) (λc q=>by rw[KP (YN q hn)];exact q) λc xs q=>by rw[KP (YN q hn)];exact q
   rcases hc with z|z
   .rw[z];exact trk b u e
   .exact trk c _ z
def Inv.turnedL  {fp:zu}(I:Inv X pins σ H s)(hf:∀b∈fp,ZY X pins H b)
  (k:∀b o,b∉fp->s.heap.get? b=zd o->h'.get? b=zd o):Inv X pins σ H {s with heap:=h',toks:=t'}:=by
 have trk:∀b u,H b=zd u->b∉fp:=λb u e z=>by rw[(hf b z).1]at e;cases e
 refine I.step    (λb hb=>?_) (λb o _ _ hc e _=>k b o hc e) (λb o _ _ hc e _=>⟨o.slots,k b o hc e⟩)
  (λ_ _ _ _ n=>n) (λb o hc e=>⟨o,k b o hc e⟩) (λ_ _ e=>e) (λ_ _ _ e=>e) (λb ps e=>⟨#[],by simp_all⟩) (λm hm=>?_) (λb u e=>?_) I.bare
 .obtain⟨_,f1,_,f3,f4,f5⟩:=hf b hb
  exact⟨f3,f1,f4,f5⟩
 .obtain⟨ob,es,ep,ho,r⟩:=hm
  exact⟨ob,es,ep,k _ ob (λz=>(hf _ z).2.1 zh) ho,r⟩
 .refine(I.hok b u e).stay (λc v hc q=>k c v ?_ q) (λc q=>q) λc xs q=>q
  rcases hc with z|z
  .rw[z];exact trk b u e
  .exact trk c _ z
end
noncomputable def Ite(K:Frag)(a:Up):It:=
 ⟨λi H=>∃xs x,SqL K H a xs/\xs[i]?=zd x,
  λi H v H'=>∃p x,H p=zj/\v=.ref p/\(∀xs,SqL K H a xs->xs[i]?=zd x)/\H'=upd H p (.tup [.int i,x]),
  λi H=>∃xs,SqL K H a xs/\xs.length<=i⟩
def vo{P:Uo}{w:World}{K:Frag}{elts:zq}{x1}{tp:Pos}(a e it:Up)(hne:e≠it) :
  Turn P w K (.Tuple elts x1 tp) (Ite K a) [e,it] e (λi h=>(∃old,IsEnum h e it i old)/\h.IsListIter it a i) where
 mem:=by simp
 obj:=λi h st b hb=>by
  obtain⟨⟨old,he⟩,o,ho,c,d⟩:=st;have hb':b=e∨b=it:=by simpa using hb
  rcases hb' with rfl|rfl
  .exact⟨_,he,λv z=>by have z'   :=z;cases z'⟩
  .exact⟨o,ho,λv z=>by rw[d]at z;cases z⟩
 keep:=λi h h' st k=>by obtain⟨⟨old,he⟩,hi⟩:=st;exact⟨⟨old,k e (by simp) _ he⟩,hi.at λo q=>k it (by simp) o q⟩
 item:=by
  intro X hP hw hK hc i pins s σ H E I hf st hg;subst hP hw hK;obtain⟨⟨old,he⟩,hi⟩:=st;obtain⟨xs,x,hq,hx⟩:=hg;obtain⟨its,rv,p,hz⟩:=I.list hq;obtain⟨u,hu,ru⟩:=rv.get hx;refine wpAny_pyNext_enum_item he hi p.isList (x:=u) (by simpa using hu) hne λh1 out hi1 ht hsz kk=>?_
  refine⟨_,rfl,wpAny_letOwnedTupleGo_enum out λh2 aq hs2=>?_⟩;have hel:e<s.heap.objs.size:=Qh he;have zP:Heap.SameBut e h1 h2:=hs2;have ht2   :=(zP.2 _ (JE hel)).trans ht
  have kk2:∀b o,b∉[e,it]->s.heap.get? b=zd o->h2.get? b=zd o:=λb o hb q=>by
   have zM:b≠e:=λz=>hb (by simp[z])
   have hbi:b≠it:=λz=>hb (by simp[z])
   exact(zP.2 b zM).trans (kk b o zM hbi q)
  have hn:H s.heap.objs.size=zj:=I.hok.fresh (Qp _)
  have I2:Inv X pins σ (upd H s.heap.objs.size (.tup [.int i,x])) {s with heap:=h2,toks:=s.toks+1}:=
   I.turnedNew (fp:=[e,it]) hf kk2 (Qp _) ⟨by show 2<=Us;decide,[.int i s.toks,u],.cons ⟨_,rfl⟩ (.cons ru .nil),⟨_,ht2,rfl,_,rfl⟩⟩
  refine⟨.ref s.heap.objs.size,_,I2,rfl,⟨_,x,hn,rfl,λys hy=>by rw[I.list_inj hy hq];exact hx,rfl⟩,⟨⟨u,?_⟩,?_⟩,λb hb=>?_⟩
  .have:=aq
   simpa using this
  .have hi2:h2.IsListIter it a (i+1):=hi1.at λo q=>(zP.2 it (Ne.symm hne)).trans q
   exact hi2
  .have fr:=(hf b hb)
   have hlt:b<s.heap.objs.size:=by
    have hb':b=e∨b=it:=by simpa using hb
    rcases hb' with rfl|rfl
    .exact hel
    .obtain⟨o,ho,_⟩:=hi;exact Qh ho
   rw[KP (QS hlt)];exact fr.1
 done:=by intro X hP hw hK hc i pins s σ H E I hf st hg;subst hP hw hK;obtain⟨⟨old,he⟩,hi⟩:=st;obtain⟨xs,hq,hx⟩:=hg;obtain⟨its,rv,p,hz⟩:=I.list hq;have hl:=rv.length;exact wpAny_pyNext_enum_end (I.ok.hd hc) he hi p.isList (by simp;omega) λh' eb=>⟨rfl,I.turnedL (t':=s.toks) hf λb o hb q=>eb b o (λz=>hb (by simp[z])) q⟩
 self:=λ_ _ _ _ _ st h=>by obtain⟨⟨old,he⟩,_⟩:=st;exact wpAny_pyIter_enum he h
section
variable{X:Cx}
def Dw(K:Frag)(ta:TA):TI:=λσ H R=>ta σ H λvs H1=>∃a xs,vs=[.ref a]/\SqL K H1 a xs/\R (Ite K a) H1
def qk   {p pos:Pos}{elts}{x1}{tp:Pos}(hg:Gl X "enumerate")(hm:X.mg "enumerate" = zj)(ha:PA X [a] ta)
  (hs:Uu [a] X.env=[(zm,eval a X.env)]:=by rfl):PI X (.Tuple elts x1 tp) (.Call (.Name "enumerate" p) [a] [] pos) (Dw X.K ta):=by
 intro pins s σ H R I h;refine Call_ (Tz I hg hm boot_enumerate (JH (thn (ha pos pins s σ H _ I h) λus s1 ⟨vs,H1,I1,r1,q1⟩=>?_) hs zh));obtain⟨l,xs,e,hq,q⟩:=q1;subst e;cases r1 with
 |cons r rr=>
  cases rr;cases (r);obtain⟨its,rv,pl,hz⟩:=I1.list hq;refine call_enumerate_list pl.isList λh' he hi hsz kk=>?_;have I2   :=I1.kept (t':=s1.toks) kk;refine wpAny_pyIter_enum he ?_
  refine⟨s1.heap.objs.size+1,[s1.heap.objs.size+1,s1.heap.objs.size],_,_,H1,rfl,I2,vo l _ _ (Nat.succ_ne_self _),⟨⟨_,he⟩,hi⟩,λb hb=>?_,q⟩;have hb'   :=by simpa using hb
  rcases hb' with rfl|rfl
  .exact I1.fpOk (JR _) (I1.hok.fresh (JR _))
  .exact I1.fpOk (Qp _) (I1.hok.fresh (Qp _))
end
section
variable{κ:Type}[DecidableEq κ]
noncomputable def ZU(kvs:List (κ×V))(k:κ):Option V:=(kvs.find? λkv=>decide (kv.1=k)).map (·.2)
noncomputable def Zx(kvs:List (κ×V))(k:κ)(v:V):List (κ×V):=
 if(kvs.any λkv=>decide (kv.1=k))=zk then kvs.map (λkv=>if kv.1=k then(kv.1,v)else kv)else kvs++[(k,v)]
def MV   {k:κ}(e:p.1=k):ZU (p::r) k=zd p.2:=by simp[ZU,e]
def MU   {k:κ}(e:¬p.1=k):ZU (p::r) k=ZU r k:=by simp[ZU,e]
theorem OY(k):∀kvs:List (κ×V),(kvs.any λkv=>decide (kv.1=k))=(ZU kvs k).isSome
 |[]=>rfl
 |p::r=>by
  rw[List.any_cons];by_cases e:p.1=k
  .simp only[MV e,QW e,Bool.true_or,Option.isSome_some]
  .rw[MU e,QZ e];exact OY k r
def Li(kvs)(k:κ)(v):(Zx kvs k v).length<=kvs.length+1:=by
 unfold Zx;split
 .simp_all
 simp_all
def RelO.isSome_eq   (r:RelO o u):o.isSome=u.isSome:=by
 cases o with
 |none=>cases u with
  |none=>rfl
  |some _=>exact(r).elim
 |some _=>cases u with
  |none=>exact(r).elim
  |some _=>rfl
def KV.val   (r:KV kvs vs)(k:κ):RelO (ZU kvs k) (valueAt vs k):=by
 induction r with
 |nil=>exact True.intro
 |@cons p q ps qs h t ih=>
  obtain⟨h1,h2⟩:=h;by_cases e:p.1=k
  .have e'   :=h1.symm.trans e
   have b:valueAt (q::qs) k=zd q.2:=by simp[valueAt,e']
   rw[MV e,b];exact h2
  .have e':¬q.1=k:=λz=>e (h1.trans z)
   have b:valueAt (q::qs) k=valueAt qs k:=by simp[valueAt,e']
   rw[MU e,b];exact ih
def KV.any   (r:KV kvs vs)(k:κ):(kvs.any λkv=>decide (kv.1=k))=vs.any λkv=>decide (kv.1=k):=by
 induction r with
 |nil=>rfl
 |cons h t ih=>simp_all
def KV.repl   (r:KV kvs vs)(k:κ){y}{u}(ry:RelV y u) :
  KV (kvs.map λkv=>if kv.1=k then(kv.1,y)else kv) (vs.map λkv=>if kv.1=k then(kv.1,u)else kv):=by
 induction r with
 |nil=>exact .nil
 |@cons p q ps qs h t ih=>
  rw[QC,QC];refine .cons ?_ ih;obtain⟨h1,h2⟩:=h;by_cases e:p.1=k
  .rw[Qu e,Qu (h1.symm.trans e)];exact⟨h1,ry⟩
  .rw[QH e,QH (λz=>e (h1.trans z))];exact⟨h1,h2⟩
def KV.put   (r:KV kvs vs)(k:κ){y}{u}(ry:RelV y u):KV (Zx kvs k y) (stored vs k u):=by
 unfold Zx stored;rw[r.any k];by_cases e:(vs.any λkv=>decide (kv.1=k))=zk
 .rw[Qu e,Qu e];exact r.repl k ry
 .rw[QH e,QH e];exact Paired.snoc r ⟨rfl,ry⟩
def KV.length  {vs:List (κ×Ul)}(r:KV kvs vs):kvs.length=vs.length:=Paired.length r
end
def Ru   {k}{u}(r:RelV (kV k) u):(Xy P w).is k u=zk:=by
 cases k with
 |inl i=>obtain⟨t,e⟩:=(r);subst e;exact w9 P w i t
 |inr x=>obtain⟨t,e⟩:=(r);subst e;exact w8 P w x t
theorem Ew   : ∀{ks}{us},Vals (ks.map kV) us->ItemsAre (Xy P w) ks us
 |[],_,r=>by cases r;exact .nil
 |k::ks,_,r=>by
  cases r with
  |cons h t=>exact .cons (Ru h) (Ew t)
abbrev KT(H:Hp):List (zB×V)->List (zB×Up×Ul)->Prop:=Paired λp q=>p.1=q.1/\H q.2.1=zd (.tup (p.1.map kV))/\RelV p.2 q.2.2
def KT.val    (r:KT H kvs xs)(k):RelO (ZU kvs k) ((atKey xs k).map (·.2)):=by
 induction r with
 |nil=>exact True.intro
 |@cons p q ps qs h t ih=>
  obtain⟨h1,_,h2⟩:=h;by_cases e:p.1=k
  .have e'   :=h1.symm.trans e
   have b:atKey (q::qs) k=zd q.2:=by simp[atKey,e']
   rw[MV e,b];exact h2
  .have e':¬q.1=k:=λz=>e (h1.trans z)
   have b:atKey (q::qs) k=atKey qs k:=by simp[atKey,e']
   rw[MU e];simp_all
def KT.repl    (r:KT H kvs xs)(k){y}{u}(ry:RelV y u) :
  KT H (kvs.map λkv=>if kv.1=k then(kv.1,y)else kv) (xs.map (putAt k u)):=by
 induction r with
 |nil=>exact .nil
 |@cons p q ps qs h t ih=>
  rw[QC];refine .cons ?_ ih;obtain⟨h1,h2,h3⟩:=h;unfold putAt;by_cases e:p.1=k
  .rw[Qu e,Qu (h1.symm.trans e)];exact⟨h1,h2,ry⟩
  .rw[QH e,QH (λz=>e (h1.trans z))];exact⟨h1,h2,h3⟩
def KT.put  {kvs}{xs}(r:KT H kvs xs)(k){b}{y:V}{u}(hb:H b=zd (.tup (k.map kV)))(ry:RelV y u) :
  KT H (Zx kvs k y) (storedH xs k b u):=by
 have e:(kvs.any λkv=>decide (kv.1=k))=(atKey xs k).isSome:=by rw[OY,(r.val k).isSome_eq,Option.isSome_map]
 unfold Zx storedH;rw[e];by_cases q:(atKey xs k).isSome=zk
 .rw[Qu q,Qu q];exact r.repl k ry
 .rw[QH q,QH q];exact Paired.snoc r ⟨rfl,hb,ry⟩
def KT.keeps  {kvs}{xs}(r:KT H kvs xs)(ht:∀b ys,H b=zd (.tup ys)->H' b=zd (.tup ys)):KT H' kvs xs:=
 Paired.mapP r λ_ _ z=>⟨z.1,ht _ _ z.2.1,z.2.2⟩
section
variable{P:Uo}{w:World}{H:Hp}{h:Heap}{a:Up}
def LG{u:HO}(ok:HOk P w H h)(e:Rd H a u):Yv P w H h a u:=e.ok ok
def Pj  (ok:HOk P w H h)(e:Rd H a (.dK kvs)):kvs.length<=Us/\(a==sysModules)=zm/\∃vs,KV kvs vs/\h.DictOf (Xy P w) a vs:=
 LG ok e
def LF  (ok:HOk P w H h)(e:H a=zd (.dK kvs)):kvs.length<=Us/\(a==sysModules)=zm/\∃vs,KV kvs vs/\h.DictOf (Xy P w) a vs:=Pj ok (.inl e)
def PF  (ok:HOk P w H h)(e:H a=zd (.tup (ks.map kV))):(tupleKind (Xy P w)).is h ks a:=by
 obtain⟨_,its,r,o,h1,h2,n,h3⟩:=(ok a _ e)
 exact⟨o,its.toArray,n,h1,h2,h3,by simpa using Ew r⟩
def Pi  (ok:HOk P w H h)(e:Rd H a (.dT kvs)):kvs.length<=Us/\(a==sysModules)=zm /\
  ∃xs,KT H kvs xs/\h.DictOfH (tupleKind (Xy P w)) a xs:=by
 obtain⟨z,y,xs,r,o,es,ep,h1,h2,h3,h4,h5⟩:=(LG ok e)
 refine⟨z,y,xs,r,o,es,ep,h1,h2,h3,h4,λx hx=>?_,h5⟩
 have all:∀{l:List _}{m:List _},KT H l m->∀x∈m,(tupleKind (Xy P w)).is h x.1 x.2.1:=by
  intro l m q;induction q with
  |nil=>simp_all
  |@cons p q ps qs hq t ih=>
   intro x hx;rcases QB.mp hx with e|hx
   .exact PF ok (by simp_all)
   .exact ih x hx
 exact all r x hx
def Dv  (ok:HOk P w H h)(e:H a=zd (.dT kvs)):kvs.length<=Us/\(a==sysModules)=zm /\
  ∃xs,KT H kvs xs/\h.DictOfH (tupleKind (Xy P w)) a xs:=Pi ok (.inl e)
end
def Xa(H:Hp)(a:Up)(y:V)(r:Option V):Prop:=
 (∃kvs k,Rd H a (.dK kvs)/\y=kV k/\r=ZU kvs k) ∨ ∃kvs k b,Rd H a (.dT kvs)/\y=.ref b/\H b=zd (.tup (k.map kV))/\r=ZU kvs k
def DPut(H:Hp)(a:Up)(y v:V)(H':Hp):Prop:=
 (∃kvs k,H a=zd (.dK kvs)/\y=kV k/\kvs.length<Us/\H'=upd H a (.dK (Zx kvs k v))) ∨
 ∃kvs k b,H a=zd (.dT kvs)/\y=.ref b/\H b=zd (.tup (k.map kV))/\kvs.length<Us/\H'=upd H a (.dT (Zx kvs k v))
theorem DPut.k    {k}{v}(e:H a=zd (.dK kvs))(hl:kvs.length<Us):DPut H a (kV k) v (upd H a (.dK (Zx kvs k v))):=.inl ⟨kvs,k,e,rfl,hl,rfl⟩
section
variable{X:Cx}{pins:List (Up×Obj)}{σ:St}{H:Hp}{s:Um}{a:Up}{y v:V}{u r:Ul}{o:Option V}{A:Around}{E:Ul->Um->Prop}
def Inv.big(I:Inv X pins σ H s):sysModules<s.heap.objs.size:=by have h   :=(I.mod.glob.keeps I.bk).lt;exact Nat.lt_trans (by decide) h
def vj  (hu:A.units+1<cLine)(I:Inv X pins σ H s)(g:Xa H a y (zd v))(ry:RelV y u)(h:∀w' s',Inv X pins σ H s'->RelV v w'->Q w' s') :
  Ut (model X.prog X.w) A (getItem (.ref a) u) Q E s:=by
 rcases g with ⟨kvs,k,e,ey,l⟩|⟨kvs,k,b,e,ey,eb,l⟩
 .subst ey
  obtain⟨z,hd,vs,rel,dd⟩:=Pj I.hok e;obtain⟨w',hw,zN⟩:=RelO.some_of   (by rw[l];exact rel.val k);exact wpAny_getItem_of (Ru ry) dd.mapOf hw (h w' _ (I.tok _) zN)
 .subst ey
  cases (ry);obtain⟨z,hd,xs,rel,dd⟩:=Pi I.hok e;obtain⟨w',hw,zN⟩:=RelO.some_of   (by rw[l];exact rel.val k);obtain⟨p,hp,hp2⟩:=Jz.mp hw;refine wpAny_getItem_heap (tupleKind_room_in1 hu) (PF I.hok eb) dd hp ?_;rw[hp2];exact h w' _ (I.tok _) zN
def d_in  (hu:A.units+1<cLine)(I:Inv X pins σ H s)(g:Xa H a y o)(ry:RelV y u)(h:∀s',Inv X pins σ H s'->Q (.bool o.isSome) s') :
  Ut (model X.prog X.w) A (Uv .In u (.ref a)) Q E s:=by
 rcases g with ⟨kvs,k,e,ey,l⟩|⟨kvs,k,b,e,ey,eb,l⟩
 .subst ey
  obtain⟨z,hd,vs,rel,dd⟩:=Pj I.hok e;refine wpAny_in_of (Ru ry) hd dd.mapOf ?_;rw[←(rel.val k).isSome_eq,←l];exact h _ (I.tok _)
 .subst ey
  cases (ry);obtain⟨z,hd,xs,rel,dd⟩:=Pi I.hok e;refine wpAny_in_heap (tupleKind_room_in1 hu) (PF I.hok eb) hd dd ?_;have q:=(rel.val k).isSome_eq;rw[Option.isSome_map]at q;rw[←q,←l];exact h _ (I.tok _)
def qi  (hu:A.units+1<cLine)(I:Inv X pins σ H s)(g:Xa H a y o)(ry:RelV y u)(h:∀s',Inv X pins σ H s'->Q (.bool (!o.isSome)) s') :
  Ut (model X.prog X.w) A (Uv .NotIn u (.ref a)) Q E s:=by
 rcases g with ⟨kvs,k,e,ey,l⟩|⟨kvs,k,b,e,ey,eb,l⟩
 .subst ey
  obtain⟨z,hd,vs,rel,dd⟩:=Pj I.hok e;refine wpAny_notIn_of (Ru ry) hd dd.mapOf ?_;rw[←(rel.val k).isSome_eq,←l];exact h _ (I.tok _)
 .subst ey
  cases (ry);obtain⟨z,hd,xs,rel,dd⟩:=Pi I.hok e;refine wpAny_notIn_heap (tupleKind_room_in1 hu) (PF I.hok eb) hd dd ?_;have q:=(rel.val k).isSome_eq;rw[Option.isSome_map]at q;rw[←q,←l];exact h _ (I.tok _)
def N7   {ob}(I:Inv X pins σ H s)(mu:Mut (H a))(hs:Heap.SameBut a s.heap h')(he:∃q,h'.get? a=zd q)(new:Yv X.prog X.w (upd H a ob) h' a ob) :
  Inv X pins σ (upd H a ob) {s with heap:=h',toks:=t'}:=
 I.write   mu (.inl zh) (λb q hb z=>(hs.2 b hb).trans z) he new
def Hh     {kvs}{vs}(z:kvs.length<=Us)(hd:(a==sysModules)=zm)(rel:KV kvs vs)(dd:h'.DictOf (Xy P w) a vs) :
  Yv P w H' h' a (.dK kvs):=⟨z,hd,vs,rel,dd⟩
def vi{H':Hp}{Q}(hu:A.units+1<cLine)(I:Inv X pins σ H s)(g:DPut H a y v H')(ry:RelV y u)(rv:RelV v r)(h:∀s',Inv X pins σ H' s'->Q () s') :
  Ut (model X.prog X.w) A (setItem (.ref a) u r) Q E s:=by
 rcases g with ⟨kvs,k,e,ey,l,eH⟩|⟨kvs,k,b,e,ey,eb,l,eH⟩
 .subst ey eH
  obtain⟨z,hd,vs,rel,dd⟩:=LF I.hok e;have hz:vs.length<=Us:=by rw[←rel.length];exact z
  have hl:(Zx kvs k v).length<=Us:=by have:=Li kvs k v;omega
  refine wpAny_setItem_pairs (hsz:=hz) (Ru ry) dd λh' af hs=>h _ ?_;have he:∃q,h'.get? a=zd q:=let ⟨q,_,_,hq,_⟩:=af;⟨q,hq⟩
  exact N7 I (by rw[e];exact True.intro) hs he (Hh hl hd (rel.put k rv) af)
 .subst ey eH
  cases (ry);obtain⟨z,hd,xs,rel,dd⟩:=Dv I.hok e;have hz:xs.length<=Us:=by rw[←Paired.length rel];exact z
  have hl:(Zx kvs k v).length<=Us:=by have:=Li kvs k v;omega
  refine wpAny_setItem_heap (hsz:=hz) (tupleKind_room_in1 hu) (PF I.hok eb) dd λh' af hs=>h _ ?_
  obtain⟨q,es,ep,hq,h2,h3,h4,_,h5⟩:=af;refine N7 I (by rw[e];exact True.intro) hs ⟨q,hq⟩ ⟨hl,hd,_,(rel.put k eb rv).keeps λc ys ec=>?_,q,es,ep,hq,h2,h3,h4,h5⟩;rw[KP (DV ec e (λz=>nomatch z))];exact ec
end
def VG(i:Ur):Prop:=∀ov iv,subscripted i zm ov iv=operate [ov,iv] (getItem ov iv)
noncomputable def qh    {E}{s}{env:Env}{value slice}{pos}{T id}{Q}
  (hl:typeLookup (.type T) "__getitem__" = pure (zd (.builtin id))) (hs:VG slice)
  (h:Ut (model prog w) A (eval value env) (λo s₁=>Ut (model prog w) A (eval slice env) (λi s₂=>s₂.TypeIs o T/\Ut (model prog w) A (getItem o i) Q E s₂) E s₁) E s) :
  Ut (model prog w) A (eval (.Subscript value slice pos) env) Q E s:=by
 refine Subscript_ (QK h (λo s₁ h₁=>QK h₁ (λi s₂ h₂=>?_) λ_ _ x=>x) λ_ _ x=>x);obtain⟨hT,h₂⟩:=h₂;refine Qf ?_;refine Qf (wpAny_specialOf hT hl ?_);have fin:Ut (model prog w) A (subscripted slice zm o i) (λr s₃=>Ut (model prog w) A (letTemporaryGo value o r >>= λ_=>pure r) Q E s₃) E s₂:=by rw[hs o i];exact wpAny_operating (QK h₂ (λr s₃ h₃=>Qf (wpAny_letTemporaryGo (Qn h₃))) λ_ _ x=>x)
 first
  |exact Qn (Qf fin)
  |exact Qf _
  |exact Qf fin
def w5   {σ:St}{H}{s}{a}{y}{o}(I:Inv X pins σ H s)(g:Xa H a y o):s.TypeIs (.ref a) "dict" :=by
 rcases g with ⟨kvs,k,e,_,_⟩|⟨kvs,k,b,e,_,_,_⟩
 .obtain⟨_,_,vs,_,dd⟩:=Pj I.hok e
  exact dd.typeIs
 .obtain⟨_,_,xs,_,dd⟩:=Pi I.hok e
  exact dd.typeIs
noncomputable def Cn(td ty:TE):TE:=λσ H Q=>td σ H λx H1=>ty σ H1 λy H2=>∃a v,x=.ref a/\Xa H2 a y (zd v)/\Q v H2
noncomputable def tDIn(ty td:TE):TE:=λσ H Q=>ty σ H λy H1=>td σ H1 λx H2=>∃a o,x=.ref a/\Xa H2 a y o/\Q (.bl o.isSome) H2
noncomputable def qg(ty td:TE):TE:=λσ H Q=>ty σ H λy H1=>td σ H1 λx H2=>∃a o,x=.ref a/\Xa H2 a y o/\Q (.bl (!o.isSome)) H2
noncomputable def Cm(td ty tv:TE):TS:=λD σ H=>tv σ H λv H1=>td σ H1 λx H2=>ty σ H2 λy H3=>∃a H4,x=.ref a/\DPut H3 a y v H4/\D.nx σ H4
section
variable{X:Cx}{o i e value:Ur}{pos pos' tpos:Pos}{td ty tv:TE}
def GL(hu:X.A.units+1<cLine)(ho:PE X o td)(hi:PE X i ty)(hs:VG i):PE X (.Subscript o i pos) (Cn td ty):=by intro pins s σ H Q I h;refine qh PySem.F.slot_dict_getitem.lookup hs (thn (ho pins s σ H _ I h) λu s1 ⟨x,H1,I1,rx,q1⟩=>thn (hi pins s1 σ H1 _ I1 q1) λiv s2 ⟨y,H2,I2,ry,a,v,ex,g,q2⟩=>?_);subst ex;obtain rfl:u=Value.ref a:=rx;exact⟨w5 I2 g,vj hu I2 g ry λw' s3 I3 zN=>⟨v,H2,I3,zN,q2⟩⟩
def BQ(hu:X.A.units+1<cLine)(hi:PE X i ty)(ho:PE X o td):PC X .In i o (tDIn ty td):=by intro pins s σ H Q I h;refine thn (hi pins s σ H _ I h) λiv s1 ⟨y,H1,I1,ry,q1⟩=>thn (ho pins s1 σ H1 _ I1 q1) λu s2 ⟨x,H2,I2,rx,a,ov,ex,g,q2⟩=>?_;subst ex;obtain rfl:u=Value.ref a:=rx;exact d_in hu I2 g ry λs3 I3=>⟨.bl ov.isSome,H2,I3,rfl,q2⟩
def vh(hu:X.A.units+1<cLine)(hi:PE X i ty)(ho:PE X o td):PC X .NotIn i o (qg ty td):=by intro pins s σ H Q I h;refine thn (hi pins s σ H _ I h) λiv s1 ⟨y,H1,I1,ry,q1⟩=>thn (ho pins s1 σ H1 _ I1 q1) λu s2 ⟨x,H2,I2,rx,a,ov,ex,g,q2⟩=>?_;subst ex;obtain rfl:u=Value.ref a:=rx;exact qi hu I2 g ry λs3 I3=>⟨.bl _,H2,I3,rfl,q2⟩
def qf(hu:X.A.units+1<cLine)(ho:PE X o td)(hi:PE X i ty)(hv:PE X value tv)(hs:swapsWith value (zd (.Subscript o i pos')) pos.line X.env=pure zm) :
  PS X (.Assign [.Subscript o i pos'] value pos) (Cm td ty tv):=by
 intro pins s σ H D I h;refine wpAny_Assign_Subscript (thn (hv pins s σ H _ I h) λr s1 ⟨v,H1,I1,rv,q1⟩=>thn (ho pins s1 σ H1 _ I1 q1) λu s2 ⟨x,H2,I2,rx,q2⟩=>thn (hi pins s2 σ H2 _ I2 q2) λiv s3 ⟨y,H3,I3,ry,a,H4,ex,g,q3⟩=>?_) hs;subst ex;obtain rfl:u=Value.ref a:=rx;exact vi hu I3 g ry rv λs4 I4=>⟨σ,H4,I4,q3⟩
end
def kz    (h:Heap)(hb:sysModules<h.objs.size):Yv P w H (h.push {cls:=.type "dict", data:=.dict #[]}) h.objs.size (.dK []):=
 ⟨JS _,beq_eq_false_iff_ne.mpr (Ne.symm (QS hb)),[],.nil,Heap.DictOf.new h⟩
noncomputable def Oo:List (TE×TE)->St->Hp->(List (V×V)->Hp->Prop)->Prop
 |[],_,H,Q=>Q [] H
 |(tk,tv)::r,σ,H,Q=>tk σ H λx H1=>tv σ H1 λy H2=>Oo r σ H2 λps H3=>Q ((x,y)::ps) H3
abbrev VV:List (V×V)->List (Ul×Ul)->Prop:=Paired λp q=>RelV p.1 q.1/\RelV p.2 q.2
def PPs(X:Cx)(pos:Pos)(keys:List (Option Ur))(values:zq)(trs:List (TE×TE)):Prop:=
 ∀(pins:List (Up×Obj))(s:Um)(σ:St)(H:Hp)(Q:List (V×V)->Hp->Prop),Inv X pins σ H s->Oo trs σ H Q ->
  Ut (model X.prog X.w) X.A (evalPairs (pairTrees keys values X.env pos)) (λvs s'=>∃ps H',Inv X pins σ H' s'/\VV ps vs/\Q ps H') X.xe s
noncomputable def qe   : PPs X pos [] [] []:=λpins s σ H Q I h=>pairTrees_nil_walk ⟨[],H,I,.nil,h⟩
def ku   {k v}{ks}{vs}{tk tv}{trs}(hk:PE X k tk)(hv:PE X v tv)(hr:PPs X pos ks vs trs) :
  PPs X pos (zd k::ks) (v::vs) ((tk,tv)::trs):=λpins s σ H Q I h=>
 pairTrees_cons_walk (thn (hk pins s σ H _ I h) λu s1 ⟨x,H1,I1,rx,q1⟩=>thn (hv pins s1 σ H1 _ I1 q1) λw2 s2 ⟨y,H2,I2,ry,q2⟩=>
  thn (hr pins s2 σ H2 _ I2 q2) λws s3 ⟨ps,H3,I3,rel,q3⟩=>⟨(x,y)::ps,H3,I3,.cons ⟨rx,ry⟩ rel,q3⟩)
noncomputable def Tx(kvs more:List (Key×V)):List (Key×V):=more.foldl (λacc kv=>Zx acc kv.1 kv.2) kvs
def KV.merge:∀{more}{rs}{kvs}{vs},KV more rs->KV kvs vs->KV (Tx kvs more) (merged vs rs):=by
 intro more rs kvs vs r;induction r generalizing kvs vs with
 |nil=>intro q;exact q
 |@cons p q ps qs h t ih=>
  intro r0;have e:KV (Zx kvs p.1 p.2) (stored vs q.1 q.2):=by have:=r0.put p.1 h.2;simp_all
  exact ih e
theorem Dh:∀(more kvs),(Tx kvs more).length<=kvs.length+more.length
 |[],kvs=>by show kvs.length<=kvs.length+0;omega
 |p::r,kvs=>by
  have h1:=Dh r (Zx kvs p.1 p.2);have h2:=Li kvs p.1 p.2
  show(Tx _ r).length<=_
  grind
theorem EW   : ∀{kvs}{ws},VV (kvs.map λkv=>(kV kv.1,kv.2)) ws->∃rs,Carries (Xy P w) ws rs/\KV kvs rs
 |[],_,r=>by cases r;exact⟨[],True.intro,.nil⟩
 |p::kvs,_,r=>by
  cases r with
  |@cons a b as bs h t=>obtain⟨rs,c,q⟩:=EW (P:=P) (w:=w) t;obtain⟨b1,b2⟩:=b;exact⟨(p.1,b2)::rs,⟨Ru h.1,rfl,c⟩,.cons ⟨rfl,h.2⟩ q⟩
end L2
namespace L2
open PySem PySem.Spec
def XT(bmB bm:zr):Prop:=∀(X:String)(b:Bool),bmB.contains (.type X)=b->bm.contains (.type X)=b
def YH(M:Model)(C:Up)(name:Str)(r:zw)(h:Heap):Prop:=∀(A:Around)(E:Ul->Um->Prop)(Q:zw->Um->Prop)(h':Heap)(g:Array GenState)(d:Drawn)(t:Nat)(os:OsState),
 (∀b o,h.get? b=zd o->h'.get? b=zd o)->Q r ⟨h',g,d,t,os⟩->Ut M A (typeLookup (.ref C) name) Q E ⟨h',g,d,t,os⟩
def YH.keeps      (x:YH M C name r h)(k:∀b o,h.get? b=zd o->h'.get? b=zd o):YH M C name r h':=
 λA E Q h2 g d t os k2 q=>x A E Q h2 g d t os (λb o e=>k2 b o (k b o e)) q
noncomputable def YH.at    {Q}{C}{name}{r}{h}{g}{d}{t}{os}(x:YH M C name r h)(q:Q r ⟨h,g,d,t,os⟩):Ut M A (typeLookup (.ref C) name) Q E ⟨h,g,d,t,os⟩:=
 x A E Q h g d t os (λ_ _ e=>e) q
section
variable{prog:Uo}{w:World}{A:Around}{E:Ul->Um->Prop}{h:Heap}{g:Array GenState}{d:Drawn}{t:Nat}{os:OsState}{R:Result->Um->Prop}
variable{nm q:Str}{C N x:Up}{bs bm bmB:zr}{hdct:Bool}{sn:List Str}{sub:zr}{ab:Bool}{col:zE}{dd:zD}{k0 k1 k2 k3 k5:zw}{B newId sa owner:String}{mN mA:Str->zw}{name:Str}{v:Ul}
def vg{M:Model}{o:Obj}{nameV:Ul}{Q:Unit->Um->Prop}(T:XT bmB bm)(hb:bmB.contains (.type "BaseException")=zk)(hC:h.get? C=zd (excClassObj nm q C N bs bm hdct sn sub ab col dd k0 k1 k2 k3 k5 newId))
  (hx:h.get? x=zd o) (hc:o.cls=.ref C) (hq:Q () ⟨h,g,d,t,os⟩):Ut M A (checkBuiltinCall "BaseException.__getattribute__" ⟨[.ref x,nameV],[]⟩) Q E ⟨h,g,d,t,os⟩:=by
 have hk:builtinKind "BaseException.__getattribute__" = zd .slot:=by decide +kernel
 have hsplit:splitId "BaseException.__getattribute__" = zd ("BaseException", "__getattribute__"):=by decide +kernel
 have hcB:(Value.ref C::bm).contains (.type "BaseException")=zk:=by rw[List.contains_cons,T _ _ hb];rfl
 have ha:=PySem.F.args_bexc_ga (.ref x) nameV;simp only[checkBuiltinCall,hk,hsplit];refine Qf ?_
 .unfold isInstance
  repeat (first|(with_reducible refine Q4 hx ?_;rw[hc])|(with_reducible refine Jq hC ?_;rw[hcB])|wp_step)
  exact hq
end
end L2
namespace L2
open PySem PySem.Spec PyProof.Rows PySem.Calls PyProof.V
def XO(fr:Bool)(e C:Up)(dd:zD):Heap->Prop:=λh=>∃vs sl,h.get? e=zd {cls:=.ref C,dict:=dd,data:=.fields vs,slots:=sl}/\(fr=zk->vs[1]?=zd .none/\(∃t0,vs[0]?=zd (.ref t0))/\vs[2]?=zd .none/\4<vs.size)
noncomputable abbrev VB:zr:=[.type "ValueError", .type "Exception", .type "BaseException", .type "object"]
structure XCls(M:Model)(base:Heap)(C:Up)(bm:zr)(fI:Up):Prop where
 obj:∃nm q N bs sn sub ab col dd k0 k1 k2 k3 k5,base.get? C=zd (excClassObj nm q C N bs bm zk sn sub ab col dd k0 k1 k2 k3 k5 "ValueError.__new__")
 tail:XT VB bm
 init:YH M C "__init__" (zd (.ref fI)) base
 fn:∃o,base.get? fI=zd o/\o.cls=.type "function"
 sa:YH M C "__setattr__" (zd (.builtin "object.__setattr__")) base
 ga:YH M C "__getattribute__" (zd (.builtin "BaseException.__getattribute__")) base
 gh:YH M C "__getattr__" none base
 cl:YH M C "__class__" (zd (.builtin "object.__class__")) base
 pass:∀v,refuseLoop v "__setattr__" bm=pure ()
def XD(dx:Up)(fs:List (Str×V)):Heap->Prop:=λh=>∃mA,h.Ns1 dx mA/\h.ExactDictFk dx/\(∀f,RelO (fs.lookup f) (mA f))/\PySem.Within mA (fs.map (·.1))
end L2
namespace L2
open PySem PySem.Spec
section
variable{prog:Uo}{w:World}{A:Around}{E:Ul->Um->Prop}{h:Heap}{g:Array GenState}{d:Drawn}{t:Nat}{os:OsState}{R:Result->Um->Prop}
variable{nm q:Str}{C N a:Up}{bs bm bmB:zr}{hdct:Bool}{sn:List Str}{sub:zr}{ab:Bool}{col:zE}{dd:zD}{k0 k1 k2 k3 k5:zw}{newId:String}{o:Obj}
def wl(T:XT bmB bm)(ho:bmB.contains (.type "object")=zk)(hC:h.get? C=zd (excClassObj nm q C N bs bm hdct sn sub ab col dd k0 k1 k2 k3 k5 newId))(hx:h.get? a=zd o)(hc:o.cls=.ref C)(hq:R (.ok (.ret (.ref C))) ⟨h,g,d,t,os⟩) :
  codeAny (model prog w) A (.call (.builtin "getset_descriptor.__get__") ⟨[.builtin "object.__class__", .ref a,.ref C],[]⟩) R ⟨h,g,d,t,os⟩:=by
 have hT5   :=PySem.F.typeOf_object_class;have hcB:(Value.ref C::bm).contains (.type (".".intercalate ("object.__class__".cutAt '.').dropLast))=zk:=by rw[PySem.F.owner_object_class,List.contains_cons,T _ _ ho];rfl
 refine codeAny_call_builtin PySem.F.slot_gs_get.plain PySem.F.entry_gs_get (PySem.F.slot_gs_get.check _ _ _ _ _ _ _ _ hT5 (PySem.F.args_gs_get _ _ _) ?_)
 repeat (any_goals (first|assumption|(with_reducible rw[hc])|(with_reducible refine Jq hC ?_;rw[hcB])|wp_step))
 refine⟨Code.quiet_builtin _ (by decide +kernel),codeAny_builtin PySem.F.entry_object_class ?_⟩
 repeat (any_goals (first|assumption|(with_reducible rw[hc])|wp_step))
def yM  {Q}(T:XT bmB bm)(ho:bmB.contains (.type "object")=zk)(hC:h.get? C=zd (excClassObj nm q C N bs bm hdct sn sub ab col dd k0 k1 k2 k3 k5 newId))(fc:YH (model prog w) C "__class__" (zd (.builtin "object.__class__")) h)(hx:h.get? a=zd o)(hc:o.cls=.ref C)(hq:Q (.done (.ret (.ref C))) ⟨h,g,d,t,os⟩) :
  Ut (model prog w) A (Builtin.«object.__getattribute__» ⟨[.ref a,.str "__class__" tk],[]⟩) Q E ⟨h,g,d,t,os⟩:=by
 have f5:=PySem.F.typeOf_object_class;have f6:=PySem.F.slot_gs_get.lookup;have f7:=PySem.F.slot_gs_set.lookup
 repeat (any_goals (first|assumption|(with_reducible rw[hc])|with_reducible refine fc.at ?_|wp_step))
 refine wl T ho hC hx hc ?_
 repeat (any_goals (first|assumption|wp_step))
def E8  (FB:ExcAttrFacts "ValueError")(T:XT VB bm)(hC:h.get? C=zd (excClassObj nm q C N bs bm hdct sn sub ab col dd k0 k1 k2 k3 k5 newId))(fc:YH (model prog w) C "__class__" (zd (.builtin "object.__class__")) h)
  (fg:YH (model prog w) C "__getattribute__" (zd (.builtin "BaseException.__getattribute__")) h) (fa:YH (model prog w) C "__getattr__" none h) (hx:h.get? a=zd o) (hc:o.cls=.ref C) (hq:Q (zd (.ref C)) ⟨h,g,d,t+1,os⟩) :
  Ut (model prog w) A (getAttr? (.ref a) "__class__") Q E ⟨h,g,d,t,os⟩:=by
 have f3:=FB.ga.bind (.ref a)
 repeat (any_goals (first|assumption|(with_reducible rw[hc])|with_reducible refine fg.at ?_|with_reducible refine fa.at ?_|wp_step))
 refine codeAny_call_builtin FB.ga.plain PySem.F.entry_bexc_ga (vg T zh hC hx hc (yM T zh hC fc hx hc ?_))
 repeat (any_goals (first|assumption|wp_step))
end
end L2
namespace L2
open PySem PySem.Spec PyProof.Rows
section
variable{prog:Uo}{w:World}{A:Around}{E:Ul->Um->Prop}{h:Heap}{g:Array GenState}{d:Drawn}{t:Nat}{os:OsState}
variable{nm q nm' q':Str}{C N D N' a:Up}{bs bm bs' bm':zr}{hdct aB:Bool}{sn sn':List Str}{sub sub':zr}{ab ab':Bool}{col col':zE}{dd af:zD}{k0 k1 k2 k3 k5 j0 j1 j2 j3 j5:zw}{newId newId':String}{o:Obj}{b:Bool}
def qN{Q:Ul->Um->Prop}(T:XT VB bm)(hC:h.get? C=zd (excClassObj nm q C N bs bm hdct sn sub ab col dd k0 k1 k2 k3 k5 newId))(hD:h.get? D=zd (excClassObj nm' q' D N' bs' bm' aB sn' sub' ab' col' af j0 j1 j2 j3 j5 newId'))
  (fc:YH (model prog w) C "__class__" (zd (.builtin "object.__class__")) h) (fg:YH (model prog w) C "__getattribute__" (zd (.builtin "BaseException.__getattribute__")) h) (fa:YH (model prog w) C "__getattr__" none h)
  (hx:h.get? a=zd o) (hc:o.cls=.ref C) (hb:(Value.ref C::bm).contains (.ref D)=b) (hq:∀tk,Q (.bool b) ⟨h,g,d,tk,os⟩):Ut (model prog w) A (call (.builtin "isinstance") [.ref a,.ref D]) Q E ⟨h,g,d,t,os⟩:=by
 have f2:=tc_sub;refine call_isinstance_of ?_ (λz=>nomatch z);refine Qf ?_;unfold typeOf;refine Qf (Q4 hx (Qn ?_));rw[hc];by_cases e:C=D
 .subst e
  have hb1:b=zk:=by rw[←hb];simp
  subst hb1;rw[if_pos (by simp)];exact Qf (wpAny_rule (Qn (hq t)))
 .rw[if_neg (by simp[e])]
  refine Qf (Qf (Q4 hD (Qn ?_)));rw[Qu (show(Value.type "type" == Value.type "type")=zk by decide)]
  k_delta "plainIsInstance"
  unfold isType isInstance
  repeat (first|(with_reducible refine Q4 hx ?_;rw[hc])|with_reducible refine Q4 hD ?_|with_reducible refine Q4 hC ?_|(with_reducible refine Jq hC ?_;rw[hb])|wp_step)
  cases b with
  |true=>wp_walk;exact hq t
  |false=>
   rw[QH (by decide)];refine Qf (E8 PySem.F.excAttr_ValueError T hC fc fg fa hx hc ?_)
   repeat (first|with_reducible refine Q4 hC ?_|(with_reducible refine Jq hC ?_;rw[hb])|wp_step)
   exact hq _
def BP{Q:Ul->Um->Prop}{X:String}(T:XT VB bm)(hC:h.get? C=zd (excClassObj nm q C N bs bm hdct sn sub ab col dd k0 k1 k2 k3 k5 newId))(hX:typeOf (.type X)=pure (.type "type"))
  (fc:YH (model prog w) C "__class__" (zd (.builtin "object.__class__")) h) (fg:YH (model prog w) C "__getattribute__" (zd (.builtin "BaseException.__getattribute__")) h) (fa:YH (model prog w) C "__getattr__" none h)
  (hx:h.get? a=zd o) (hc:o.cls=.ref C) (hb:(Value.ref C::bm).contains (.type X)=b) (hq:∀tk,Q (.bool b) ⟨h,g,d,tk,os⟩):Ut (model prog w) A (call (.builtin "isinstance") [.ref a,.type X]) Q E ⟨h,g,d,t,os⟩:=by
 refine call_isinstance_of ?_ (λz=>nomatch z);refine Qf ?_;have ty:∀{M:Model}{A:Around}{Q:Ul->Um->Prop}{E:Ul->Um->Prop},Q (.ref C) ⟨h,g,d,t,os⟩->Ut M A (typeOf (.ref a)) Q E ⟨h,g,d,t,os⟩:=λq=>by unfold typeOf;refine Qf (Q4 hx (Qn ?_));rw[hc];exact q
 refine ty ?_;rw[if_neg (by simp)];refine Qf (wpAny_of_eq hX ?_);rw[Qu (show _=zk by decide)]
 k_delta "plainIsInstance"
 unfold isType isInstance
 repeat (first|(with_reducible refine Q4 hx ?_;rw[hc])|with_reducible refine Q4 hC ?_|(with_reducible refine Jq hC ?_;rw[hb])|wp_step)
 cases b with
 |true=>wp_walk;exact hq t
 |false=>
  rw[QH (by decide)];refine Qf (E8 PySem.F.excAttr_ValueError T hC fc fg fa hx hc ?_)
  repeat (first|with_reducible refine Q4 hC ?_|(with_reducible refine Jq hC ?_;rw[hb])|wp_step)
  exact hq _
end
def rIsX(KC:Up->zr->Prop):List V->Hp->VK->Prop:=λxs H Q=>∃a C dd bm fr c b,xs=[.ref a,c]/\KC C bm/\H a=zd (.ext (XO fr a C dd)) /\
 ((∃D bm',c=.ref D/\KC D bm'/\(Value.ref C::bm).contains (.ref D)=b) ∨ ∃T,c=.ty T/\typeOf (.type T)=pure (.type "type")/\(Value.ref C::bm).contains (.type T)=b)/\Q (.bl b) H
def kt  {KC}(hcls:∀C bm,KC C bm->∃fI,XCls (model X.prog X.w) X.base C bm fI):YS X (.builtin "isinstance") (rIsX KC):=by
 rintro pins s σ H xs us Q I r ⟨a,C,dd,bm,fr,c,b,rfl,kc,hx,hD,q⟩;cases r with
 |cons ra r=>
 cases r with
 |cons rc r=>
 cases r;have ra'   :=ra;subst ra';obtain⟨fI,XC⟩:=hcls C bm kc;obtain⟨nm,qn,N,bs,sn,sub,ab,col,dd1,k0,k1,k2,k3,k5,hC⟩:=XC.obj;obtain⟨⟨vs,sl,ga,_⟩,_,_⟩:=I.hok a _ hx;rcases hD with ⟨D,bm',rfl,kd,hb⟩|⟨T,rfl,hT,hb⟩
 .have rc'   :=rc
  subst rc';obtain⟨fI',XD'⟩:=hcls D bm' kd;obtain⟨nm',qn',N',bs',sn',sub',ab',col',dd2,j0,j1,j2,j3,j5,bf⟩:=XD'.obj;exact qN XC.tail (I.bk _ _ hC) (I.bk _ _ bf) (XC.cl.keeps I.bk) (XC.ga.keeps I.bk) (XC.gh.keeps I.bk) ga zh hb λtk'=>⟨.bl b,H,I.tok tk',rfl,q⟩
 .have rc'   :=rc
  subst rc';exact BP XC.tail (I.bk _ _ hC) hT (XC.cl.keeps I.bk) (XC.ga.keeps I.bk) (XC.gh.keeps I.bk) ga zh hb λtk'=>⟨.bl b,H,I.tok tk',rfl,q⟩
noncomputable def Ck(nm:Str):List Str:=if nm = "NoWishes" then ["part", "number"]else if nm = "NoAim" then ["part"]else if nm = "NoText" then ["row"]else []
noncomputable def LN(K:Frag)(nm:Str):zD:=match PySem.W.nsIn K mainGlobals nm with|some (zd (.ref C))=>zd C|_=>zj
def NmAt(K:Frag)(nm:Str)(C:Up):Prop:=∃o cd,K.lookup C=zd o/\o.data=.cls cd/\cd.name=nm
structure ClsK(K:Frag)(nm:Str)(C:Up)(bm:zr):Prop where
 ad:LN K nm=zd C
 nmd:NmAt K nm C
 up:nm = "DealError" /\ bm=VB∨nm ≠ "DealError" /\ ∃D,LN K "DealError" = zd D/\bm=.ref D::VB/\NmAt K "DealError" D
 cls:∀(M:Model)(h:Heap),K.In h->∃fI,XCls M h C bm fI
 fld:∀(M:Model)(h:Heap),K.In h->∀f∈(["part", "number", "row"]:List Str),YH M C f zj h
noncomputable def KC(K:Frag):Up->zr->Prop:=λC bm=>∃nm,ClsK K nm C bm
section
variable{K:Frag}{nm x:Str}{C D:Up}{bm bm':zr}
def ClsK.ty(c:ClsK K nm C bm)(T):(Value.ref C::bm).contains (.type T)=VB.contains (.type T):=by
 rcases c.up with ⟨_,rfl⟩|⟨_,D',g,rfl,n⟩
 .rfl
 .rfl
end
section
variable{X:Cx}{e:Ur}{st:Stmt}{sts:List Stmt}{t:TE}{ts:TS}
def Cj(k:X.K.In X.base):∀C bm,KC X.K C bm->∃fI,XCls (model X.prog X.w) X.base C bm fI:=λ_ _ ⟨_,c⟩=>c.cls _ _ k
end
end L2
namespace DL
open PySem PySem.Spec L2
open PyProof.Rows hiding St
abbrev D:=PyData
abbrev zn:=List D
abbrev zp:=Option D
abbrev XW:=V->St->Hp->Prop
noncomputable abbrev KX0:XW:=λ_ _ _=>False
def XFs(G:Hp)(dd:zD)(fs:List Str)(vs:List V):Prop:=match dd with
 |none=>fs=[]/\vs=[]
 |some dx=>fs.length=vs.length/\G dx=zd (.ext (XD dx (fs.zip vs)))
def XFs.mono     (e:Same G G1)(h:XFs G dd fs vs):XFs G1 dd fs vs:=by
 cases dd with
 |none=>exact h
 |some dx=>exact⟨h.1,e _ _ h.2⟩
noncomputable def kD:Key->D
 |.inl i=>.int i
 |.inr x=>.str x
def tkD(k:zB):D:=.tuple (k.map kD)
def pdD(ks:List zB)(ds:zn):List (D×D):=(.bool zk,.none)::(ks.map tkD).zip ds
mutual
inductive Rep(K:Frag)(G:Hp):V->D->Prop where
 |non:Rep K G .non .none
 |bl (b:Bool):Rep K G (.bl b) (.bool b)
 |int (i:Int):Rep K G (.int i) (.int i)
 |str (x:Str):Rep K G (.str x) (.str x)
 |lst {a:Up} {vs:List V} {ds:zn} (h:SqL K G a vs) (r:Reps K G vs ds):Rep K G (.ref a) (.list ds)
 |tup {a:Up} {vs:List V} {ds:zn} (h:SqT K G a vs) (r:Reps K G vs ds):Rep K G (.ref a) (.tuple ds)
 |dic {a:Up} (h:G a=zd (.dK [])):Rep K G (.ref a) (.dict [])
 |exc {a C:Up} {dd:zD} {bm:zr} {nm:Str} {vs:List V} {ds:zn} (c:ClsK K nm C bm) (h:G a=zd (.ext (XO zm a C dd))) (hd:XFs G dd (Ck nm) vs) (r:Reps K G vs ds):Rep K G (.ref a) (.dict [(.none,.tuple [.str nm,.list ds])])
 |dct {a:Up} {ks:zB} {vs:List V} {ds:zn} {kvs:List (D×D)} (e:kvs=(ks.map kD).zip ds) (hne:ks≠[]) (hl:ks.length=ds.length) (h:G a=zd (.dK (ks.zip vs))) (r:Reps K G vs ds):Rep K G (.ref a) (.dict kvs)
 |dtt {a:Up} {o:Obj} {ks:List zB} {vs:List V} {ds:zn} {kvs:List (D×D)} (e:kvs=pdD ks ds) (hl:ks.length=ds.length) (h:G a=zd (.frz o (.dT (ks.zip vs)))) (r:Reps K G vs ds):Rep K G (.ref a) (.dict kvs)
inductive Reps(K:Frag)(G:Hp):List V->zn->Prop where
 |nil:Reps K G [] []
 |cons {v:V} {d:D} {vs:List V} {ds:zn} (h:Rep K G v d) (t:Reps K G vs ds):Reps K G (v::vs) (d::ds)
end
variable{K:Frag}{B G0 G G1 G2 H H1 H2:Hp}
noncomputable def XA   (e:Same G G1)(h:SqT K G a xs):SqT K G1 a xs:=by
 rcases h with (h|⟨o,h⟩)|h
 .exact .inl (.inl (e _ _ h))
 .exact .inl (.inr ⟨o,e _ _ h⟩)
 .exact .inr h
def Rep.mono(e:Same G G1){v}{d}(r:Rep K G v d):Rep K G1 v d:=Rep.rec   .non .bl .int .str (λh _ r=>.lst (e.seq h) r) (λh _ r=>.tup (XA e h) r) (λh=>.dic (e _ _ h)) (λc h hd _ r=>.exc c (e _ _ h) (hd.mono e) r) (λz n l h _ r=>.dct z n l (e _ _ h) r) (λz l h _ r=>.dtt z l (e _ _ h) r) .nil (λ_ _=>.cons) r
def Reps.mono(e:Same G G1){vs}{ds}(r:Reps K G vs ds):Reps K G1 vs ds:=Reps.rec   .non .bl .int .str (λh _ r=>.lst (e.seq h) r) (λh _ r=>.tup (XA e h) r) (λh=>.dic (e _ _ h)) (λc h hd _ r=>.exc c (e _ _ h) (hd.mono e) r) (λz n l h _ r=>.dct z n l (e _ _ h) r) (λz l h _ r=>.dtt z l (e _ _ h) r) .nil (λ_ _=>.cons) r
section
variable{v:V}{vs ws:List V}{ds es:zn}
noncomputable def Rep.bl_inv{b:Bool}(h:Rep K G v (.bool b)):v=.bl b:=by cases h;rfl
noncomputable def Rep.int_inv{i:Int}(h:Rep K G v (.int i)):v=.int i:=by cases h;rfl
noncomputable def Rep.str_inv{x:Str}(h:Rep K G v (.str x)):v=.str x:=by cases h;rfl
def Rep.lst_inv(h:Rep K G v (.list ds)):∃a vs,v=.ref a/\SqL K G a vs/\Reps K G vs ds:=by
 cases h with
 |lst h r=>exact⟨_,_,rfl,h,r⟩
def Rep.tup_inv(h:Rep K G v (.tuple ds)):∃a vs,v=.ref a/\SqT K G a vs/\Reps K G vs ds:=by
 cases h with
 |tup h r=>exact⟨_,_,rfl,h,r⟩
noncomputable def Reps.length:∀{vs}{ds},Reps K G vs ds->vs.length=ds.length
 |_,_,.nil=>rfl
 |_,_,.cons _ t=>by rw[QL,QL,Reps.length t]
def Reps.get:∀{vs}{ds}{i:Nat}{d},Reps K G vs ds->ds[i]?=zd d->∃v,vs[i]?=zd v/\Rep K G v d
 |_,_,_,_,.nil,e=>by simp_all
 |_,_,0,_,.cons h _,e=>by simp at e;subst e;exact⟨_,rfl,h⟩
 |_,_,i+1,d,.cons _ t,e=>by obtain⟨u,h1,h2⟩:=Reps.get   t (by simpa using e);exact⟨u,by simpa using h1,h2⟩
noncomputable def Reps.append:∀{vs ws}{ds es},Reps K G vs ds->Reps K G ws es->Reps K G (vs++ws) (ds++es)
 |_,_,_,_,.nil,s=>s
 |_,_,_,_,.cons r t,s=>.cons r (Reps.append t s)
noncomputable def Reps.take:∀{vs}{ds}(n),Reps K G vs ds->Reps K G (vs.take n) (ds.take n)
 |_,_,0,_=>by exact .nil
 |_,_,_+1,.nil=>.nil
 |_,_,n+1,.cons r t=>.cons r (Reps.take n t)
noncomputable def Reps.drop:∀{vs}{ds}(n),Reps K G vs ds->Reps K G (vs.drop n) (ds.drop n)
 |_,_,0,r=>r
 |_,_,_+1,.nil=>.nil
 |_,_,n+1,.cons _ t=>Reps.drop n t
def Reps.reverse:∀{vs}{ds},Reps K G vs ds->Reps K G vs.reverse ds.reverse
 |_,_,.nil=>.nil
 |_,_,.cons r t=>by rw[List.reverse_cons,List.reverse_cons];exact Reps.append (Reps.reverse t) (.cons r .nil)
noncomputable def Reps.set   (r:Rep K G v d):∀{vs}{ds}(i),Reps K G vs ds->Reps K G (vs.set i v) (ds.set i d)
 |_,_,_,.nil=>.nil
 |_,_,0,.cons _ t=>.cons r t
 |_,_,i+1,.cons q t=>.cons q (Reps.set r i t)
noncomputable def Reps.ints:∀(ns:zo),Reps K G (ns.map V.int) (ns.map int)
 |[]=>.nil
 |n::ns=>.cons (.int n) (Reps.ints ns)
end
inductive MO where
 |l (vs:List V)|k (kvs:List (Key×V))|t (kvs:List (zB×V))|s (S:Int->Bool) (n:Nat)
def MO.ho:MO->HO
 |.l vs=>.lst vs
 |.k kvs=>.dK kvs
 |.t kvs=>.dT kvs
 |.s S n=>.set S n
structure Ext(G H G' H':Hp):Prop where
 h:Same H H'
 g:Same G G'
 gh:Same G' H'
 np:∀a(u:MO),H a=zd u.ho->G a=zj->G' a=zj
noncomputable def Ext.refl(e:Same G H):Ext G H G H:=⟨.refl _,.refl _,e,λ_ _ _ q=>q⟩
def ZM   (h:H p=zj):Same H (upd H p o):=λb u e=>by rw[KP (YN e h)];exact e
def Ext.new   (e:Same G H)(h:H p=zj):Ext G H (upd G p o) (upd H p o):=by
 have hg   :=e.free h;refine⟨ZM h,ZM hg,λb u q=>?_,λa u q n=>?_⟩
 .by_cases z:b=p
  .subst z;rw[Zp]at q⊢;exact q
  .rw[KP z]at q⊢;exact e b u q
 .rw[KP (YN q h)];exact n
def Ext.hid   (e:Same G H)(h:H p=zj):Ext G H G (upd H p o):=
 ⟨ZM h,.refl _,e.trans (ZM h),λ_ _ _ n=>n⟩
inductive Pat where
 |leaf|lst (p:Pat)|tup (ps:List Pat)|dic
mutual
inductive RepO(K:Frag)(G H:Hp):Pat->V->D->zu->Prop where
 |leaf {v:V} {d:D} (r:Rep K G v d):RepO K G H .leaf v d []
 |lst {p:Pat} {a:Up} {vs:List V} {ds:zn} {fp:zu} (h:H a=zd (.lst vs)) (r:RepOl K G H p vs ds fp):RepO K G H (.lst p) (.ref a) (.list ds) (a::fp)
 |tup {ps:List Pat} {a:Up} {vs:List V} {ds:zn} {fp:zu} (h:H a=zd (.tup vs)) (r:RepOs K G H ps vs ds fp):RepO K G H (.tup ps) (.ref a) (.tuple ds) fp
 |dic {a:Up} {ks:zB} {vs:List V} {ds:zn} {kvs:List (D×D)} (e:kvs=(ks.map kD).zip ds) (hl:ks.length=ds.length) (h:H a=zd (.dK (ks.zip vs))) (r:Reps K G vs ds):RepO K G H .dic (.ref a) (.dict kvs) [a]
inductive RepOl(K:Frag)(G H:Hp):Pat->List V->zn->zu->Prop where
 |nil {p:Pat}:RepOl K G H p [] [] []
 |cons {p:Pat} {v:V} {d:D} {vs:List V} {ds:zn} {f1 f2:zu} (h:RepO K G H p v d f1) (t:RepOl K G H p vs ds f2):RepOl K G H p (v::vs) (d::ds) (f1++f2)
inductive RepOs(K:Frag)(G H:Hp):List Pat->List V->zn->zu->Prop where
 |nil:RepOs K G H [] [] [] []
 |cons {p:Pat} {ps:List Pat} {v:V} {d:D} {vs:List V} {ds:zn} {f1 f2:zu} (h:RepO K G H p v d f1) (t:RepOs K G H ps vs ds f2):RepOs K G H (p::ps) (v::vs) (d::ds) (f1++f2)
end
def Wz(K:Frag)(G H:Hp)(M1:Pat->V->D->zu->Prop)(M2:Pat->List V->zn->zu->Prop)(M3:List Pat->List V->zn->zu->Prop):Prop:=
 (∀{p v d fp},RepO K G H p v d fp->M1 p v d fp)/\(∀{p vs ds fp},RepOl K G H p vs ds fp->M2 p vs ds fp)/\∀{ps vs ds fp},RepOs K G H ps vs ds fp->M3 ps vs ds fp
def RepO.ind3
  (c1:∀{v d},Rep K G v d->M1 .leaf v d []) (c2:∀{p a vs ds fp},H a=zd (.lst vs)->M2 p vs ds fp->M1 (.lst p) (.ref a) (.list ds) (a::fp)) (c3:∀{ps a vs ds fp},H a=zd (.tup vs)->M3 ps vs ds fp->M1 (.tup ps) (.ref a) (.tuple ds) fp)
  (c4:∀{a:Up}{ks:zB}{vs}{ds}{kvs},kvs=(ks.map kD).zip ds->ks.length=ds.length->H a=zd (.dK (ks.zip vs))->Reps K G vs ds->M1 .dic (.ref a) (.dict kvs) [a])
  (c5:∀{p},M2 p [] [] []) (c6:∀{p v d vs ds f1 f2},M1 p v d f1->M2 p vs ds f2->M2 p (v::vs) (d::ds) (f1++f2)) (c7:M3 [] [] [] []) (c8:∀{p ps v d vs ds f1 f2},M1 p v d f1->M3 ps vs ds f2->M3 (p::ps) (v::vs) (d::ds) (f1++f2)) :
  Wz K G H M1 M2 M3:=
 ⟨λh=>RepO.rec    c1 (λh _=>c2 h) (λh _=>c3 h) c4 c5 (λ_ _=>c6) c7 (λ_ _=>c8) h,
  λh=>RepOl.rec    c1 (λh _=>c2 h) (λh _=>c3 h) c4 c5 (λ_ _=>c6) c7 (λ_ _=>c8) h,
  λh=>RepOs.rec    c1 (λh _=>c2 h) (λh _=>c3 h) c4 c5 (λ_ _=>c6) c7 (λ_ _=>c8) h⟩
def RepO.mono3(sg:Same G G1)(sh:Same H H1):Wz K G H (RepO K G1 H1) (RepOl K G1 H1) (RepOs K G1 H1):=
 RepO.ind3 (λr=>.leaf (r.mono sg)) (λh r=>.lst (sh _ _ h) r) (λh r=>.tup (sh _ _ h) r) (λe hl h r=>.dic e hl (sh _ _ h) (r.mono sg)) .nil .cons .nil .cons
def RepO.mono(sg:Same G G1)(sh:Same H H1){p}{v}{d}{fp}(r:RepO K G H p v d fp):RepO K G1 H1 p v d fp:=(RepO.mono3 sg sh).1 r
def RepO.upd3   (nt:∀vs,H a≠zd (.tup vs)):Wz K G H (λp v d fp=>a∉fp->RepO K G (upd H a o) p v d fp) (λp v d fp=>a∉fp->RepOl K G (upd H a o) p v d fp) (λp v d fp=>a∉fp->RepOs K G (upd H a o) p v d fp):=
 RepO.ind3
 (λr _=>.leaf r) (λh r n=>.lst (by rw[KP (λz=>n (by rw[z];exact List.mem_cons_self))];exact h) (r λz=>n (List.mem_cons_of_mem _ z))) (λh r n=>.tup (by rw[KP (λz=>by simp_all)];exact h) (r n))
 (λe hl h r n=>.dic e hl (by rw[KP (λz=>n (by rw[z];exact Ql))];exact h) r) (λ_=>.nil) (λh t n=>.cons (h λz=>n (Q0 _ z)) (t λz=>n (QI _ z))) (λ_=>.nil) (λh t n=>.cons (h λz=>n (Q0 _ z)) (t λz=>n (QI _ z)))
theorem RepO.upd   (nt:∀vs,H a≠zd (.tup vs)){p}{v}{d}{fp}(r:RepO K G H p v d fp)(n:a∉fp):RepO K G (upd H a o) p v d fp:=(RepO.upd3 nt).1 r n
def RepO.rep3(gh:Same G H):Wz K G H (λ_ v d _=>Rep K H v d) (λ_ v d _=>Reps K H v d) (λ_ v d _=>Reps K H v d):=
 RepO.ind3 (λr=>r.mono gh) (λh r=>.lst (SqL.of h) r) (λh r=>.tup (SqT.of h) r)
 (λ{a ks vs ds kvs} e hl h r=>by
  cases ks with
  |nil=>subst e;exact .dic h
  |cons k ks=>exact .dct e (λz=>by cases z) hl h (r.mono gh)) .nil .cons .nil .cons
def RepO.rep(gh:Same G H){p}{v}{d}{fp}(r:RepO K G H p v d fp):Rep K H v d:=(RepO.rep3 gh).1 r
def RepO.isl3:Wz K G H (λ_ _ _ fp=>∀a∈fp,∃u:MO,H a=zd u.ho) (λ_ _ _ fp=>∀a∈fp,∃u:MO,H a=zd u.ho) (λ_ _ _ fp=>∀a∈fp,∃u:MO,H a=zd u.ho):=
 RepO.ind3 (λ_ a m=>by cases m)
 (λh r b m=>(QB.mp m).elim (λe=>⟨.l _,e ▸ h⟩) (r b)) (λ_ r=>r) (λ_ _ h _ b m=>⟨.k _,Qv.mp m ▸ h⟩) (λa m=>by cases m) (λh t b m=>(QG.mp m).elim (h b) (t b)) (λa m=>by cases m) (λh t b m=>(QG.mp m).elim (h b) (t b))
def RepO.isl     (r:RepO K G H p v d fp):∀a∈fp,∃u:MO,H a=zd u.ho:=RepO.isl3.1 r
def RepO.uniq3(sh:Same H H1):Wz K G H (λp v _ fp=>∀d' fp',RepO K G1 H1 p v d' fp'->fp=fp') (λp v _ fp=>∀d' fp',RepOl K G1 H1 p v d' fp'->fp=fp') (λp v _ fp=>∀d' fp',RepOs K G1 H1 p v d' fp'->fp=fp'):=
 RepO.ind3
 (λ_ d' fp' h=>by cases h;rfl)
 (λh r d' fp' h'=>by
  cases h' with
  |lst h2 r2=>have e:=sh _ _ h;rw[h2]at e;cases e;rw[r _ _ r2])
 (λh r d' fp' h'=>by
  cases h' with
  |tup h2 r2=>have e:=sh _ _ h;rw[h2]at e;cases e;exact r _ _ r2)
 (λ_ _ _ _ d' fp' h=>by cases h;rfl) (λd' fp' h=>by cases h;rfl)
 (λh t d' fp' h'=>by
  cases h' with
  |cons h2 t2=>rw[h _ _ h2,t _ _ t2])
 (λd' fp' h=>by cases h;rfl)
 (λh t d' fp' h'=>by
  cases h' with
  |cons h2 t2=>rw[h _ _ h2,t _ _ t2])
def RepO.uniq(sh:Same H H1){p}{v}{d d'}{fp fp'}(r:RepO K G H p v d fp)(r':RepO K G1 H1 p v d' fp'):fp=fp':=(RepO.uniq3 sh).1 r _ _ r'
inductive Sl where
 |pub (d:D)|own (ds:zn)|deep (p:Pat) (d:D)
abbrev UU:=List (Option Sl)
abbrev zy:=Option UU
def DpOk(K:Frag)(B G H:Hp)(σ:St)(ρ:UU):Prop:=∃ω:Up->Nat,
 (∀(i:Nat) p d,ρ[i]?=zd (zd (.deep p d))->∃v fp,σ[i]?=zd (zd v)/\RepO K G H p v d fp/\fp.Nodup/\∀a∈fp,B a=zj/\G a=zj/\ω a=i) /\
 (∀(i:Nat) ds a,ρ[i]?=zd (zd (.own ds))->σ[i]?=zd (zd (.ref a))->ω a=i)
noncomputable def DpOk.of  {ρ}(h1:∀(i:Nat) p d,ρ[i]?=zd (zd (.deep p d))->False)(h2:∀(i:Nat) ds,ρ[i]?=zd (zd (.own ds))->False):DpOk K B G H σ ρ:=
 ⟨λ_=>0,λi p d q=>(h1 i p d q).elim,λi ds a q=>(h2 i ds q).elim⟩
def DpOk.map  {σ σ1}{ρ ρ1}(k:DpOk K B G H σ ρ)
  (h1:∀(i:Nat) p d,ρ1[i]?=zd (zd (.deep p d))->ρ[i]?=zd (zd (.deep p d))/\σ1[i]?=σ[i]?)
  (h2:∀(i:Nat) ds,ρ1[i]?=zd (zd (.own ds))->∃es,ρ[i]?=zd (zd (.own es))/\σ1[i]?=σ[i]?)
  (h3:∀(i:Nat) p d v fp,ρ[i]?=zd (zd (.deep p d))->σ[i]?=zd (zd v)->RepO K G H p v d fp->(∀a∈fp,B a=zj/\G a=zj)->(∀(j:Nat) ds a,ρ[j]?=zd (zd (.own ds))->σ[j]?=zd (zd (.ref a))->a∉fp)->RepO K G1 H1 p v d fp/\∀a∈fp,B1 a=zj/\G1 a=zj):DpOk K B1 G1 H1 σ1 ρ1:=by
 obtain⟨ω,k1,k2⟩:=k;refine⟨ω,λi p d q=>?_,λi ds a q s=>?_⟩
 .obtain⟨q1,e1⟩:=h1 i p d q
  obtain⟨v,fp,s,r,n,w⟩:=k1 i p d q1;obtain⟨r1,w1⟩:=h3 i p d v fp q1 s r (λa m=>⟨(w a m).1,(w a m).2.1⟩) λj ds a qj sj m=>by have z1:=k2 j ds a qj sj;have z2:=(w a m).2.2;rw[z1]at z2;subst z2;rw[q1]at qj;cases qj
  exact⟨v,fp,by rw[e1];exact s,r1,n,λa m=>⟨(w1 a m).1,(w1 a m).2,(w a m).2.2⟩⟩
 .obtain⟨es,q1,e1⟩:=h2 i ds q
  rw[e1]at s;exact k2 i es a q1 s
structure EOk(K:Frag)(B G0 G H:Hp)(σ:St)(ρ:UU):Prop where
 bh:Same B H
 gh:Same G H
 g0:Same G0 G
 np:∀a(u:MO),B a=zd u.ho->G0 a=zj->G a=zj
 len:ρ.length=σ.length
 pub:∀(i:Nat) d,ρ[i]?=zd (zd (.pub d))->∃v,σ[i]?=zd (zd v)/\Rep K G v d
 own:∀(i:Nat) ds,ρ[i]?=zd (zd (.own ds))->∃a vs,σ[i]?=zd (zd (.ref a))/\B a=zj/\G a=zj/\H a=zd (.lst vs)/\Reps K G vs ds
 sep:∀(i j:Nat) a ds es,ρ[i]?=zd (zd (.own ds))->ρ[j]?=zd (zd (.own es))->σ[i]?=zd (zd (.ref a))->σ[j]?=zd (zd (.ref a))->i=j
 dp:DpOk K B G H σ ρ
def EOk.ext  {σ:St}{ρ}(k:EOk K B G0 G H σ ρ)(e:Ext G H G' H'):EOk K B G0 G' H' σ ρ where
 bh:=k.bh.trans e.h
 gh:=e.gh
 g0:=k.g0.trans e.g
 np:=λa o q n=>e.np a o (k.bh a _ q) (k.np a o q n)
 len:=k.len
 pub:=λi d q=>let ⟨v,h1,h2⟩:=k.pub i d q;⟨v,h1,h2.mono e.g⟩
 own:=λi ds q=>let ⟨a,vs,h1,h2,h3,h4,h5⟩:=k.own i ds q;⟨a,vs,h1,h2,e.np a (.l _) h4 h3,e.h a _ h4,h5.mono e.g⟩
 sep:=k.sep
 dp:=k.dp.map (λ_ _ _ q=>⟨q,rfl⟩) (λ_ ds q=>⟨ds,q,rfl⟩) λi p d v fp q s r w n=>⟨r.mono e.g e.h,λa m=>let ⟨_,hl⟩:=r.isl a m;⟨(w a m).1,e.np a _ hl (w a m).2⟩⟩
def EOk.publish{σ:St}{ρ:UU}{i:Nat}{ds:zn}(k:EOk K B G0 G H σ ρ)(h:ρ[i]?=zd (zd (.own ds))) :
  ∃a G',σ[i]?=zd (zd (.ref a))/\Same G G'/\Rep K G' (.ref a) (.list ds)/\EOk K B G0 G' H σ (ρ.set i (zd (.pub (.list ds)))):=by
 obtain⟨a,vs,h1,h2,h3,h4,h5⟩:=k.own i ds h;have sg:Same G (upd G a (.lst vs)):=ZM h3;have hr:Rep K _ (.ref a) (.list ds):=.lst (SqL.of Zp) (h5.mono sg);refine⟨a,upd G a (.lst vs),h1,sg,hr,⟨k.bh,λb u q=>?_,k.g0.trans sg,λb o q n=>?_,by rw[Jc];exact k.len,λj d q=>?_,λj es q=>?_,λj l c es fs q1 q2 s1 s2=>?_,?_⟩⟩
 .by_cases z:b=a
  .subst z;rw[Zp]at q;cases q;exact h4
  .rw[KP z]at q;exact k.gh b u q
 .have z:b≠a:=λz=>by subst z;rw[h2]at q;cases q
  rw[KP z];exact k.np b o q n
 .by_cases z:i=j
  .subst z
   have hl:i<ρ.length:=(Qg.mp h).1;rw[QQ hl]at q;cases q;exact⟨.ref a,h1,hr⟩
  .rw[Qr z]at q
   obtain⟨v,g1,g2⟩:=k.pub j d q;exact⟨v,g1,g2.mono sg⟩
 .by_cases z:i=j
  .subst z
   have hl:i<ρ.length:=(Qg.mp h).1;rw[QQ hl]at q;cases q
  .rw[Qr z]at q
   obtain⟨b,ws,g1,g2,g3,g4,g5⟩:=k.own j es q;have zb:b≠a:=λe=>z (k.sep i j a ds es h q h1 (by rw[←e];exact g1))
   exact⟨b,ws,g1,g2,by rw[KP zb];exact g3,g4,g5.mono sg⟩
 .have nz:∀{m:Nat}{ts:zn},(ρ.set i (zd (Sl.pub (.list ds))))[m]?=zd (zd (.own ts))->ρ[m]?=zd (zd (.own ts)):=λ{m ts} q=>by
   by_cases z:i=m
   .subst z
    have hl:i<ρ.length:=(Qg.mp h).1;rw[QQ hl]at q;cases q
   .rw[Qr z]at q;exact q
  exact k.sep j l c es fs (nz q1) (nz q2) s1 s2
 .have hl:i<ρ.length:=(Qg.mp h).1
  have nz:∀{m:Nat}{s:Sl},(ρ.set i (zd (Sl.pub (.list ds))))[m]?=zd (zd s)->(∃d,s=.pub d)∨ρ[m]?=zd (zd s):=λ{m s} q=>by
   by_cases z:i=m
   .subst z
    rw[QQ hl]at q;cases q;exact .inl ⟨_,rfl⟩
   .rw[Qr z]at q;exact .inr q
  refine k.dp.map (λm p d q=>?_) (λm es q=>?_) λm p d v fp q s r w n=>⟨r.mono sg (.refl _),λb mb=>⟨(w b mb).1,?_⟩⟩
  .rcases nz q with ⟨_,e⟩|q
   .cases e
   .exact⟨q,rfl⟩
  .rcases nz q with ⟨_,e⟩|q
   .cases e
   .exact⟨es,q,rfl⟩
  .rw[KP (λz=>by subst z;exact n i ds b h h1 mb)];exact(w b mb).2
inductive Res(α:Type) where
 |ok (a:α) (ρ:UU)|bad
abbrev M(α:Type):=UU->Res α
noncomputable def UR{α:Type}(a:α):M α:=λρ=>.ok a ρ
noncomputable def Ka{α:Type}(o:Option α):M α:=λρ=>match o with|some a=>.ok a ρ|none=>.bad
noncomputable def Kd{α β:Type}(f:M α)(k:α->M β):M β:=λρ=>match f ρ with | .ok a ρ'=>k a ρ' | .bad=>.bad
section
variable(K:Frag)(B G0:Hp)
def aft{α γ:Type}(R:Hp->γ->α->Prop)(r:Res α)(G:Hp)(σ:St)(Q:γ->Hp->Prop):Prop:=
 match r with
 |.ok d ρ'=>∀v G' H',EOk K B G0 G' H' σ ρ'->Same G G'->R G' v d->Q v H'
 |.bad=>False
noncomputable def tM{α γ:Type}(R:Hp->γ->α->Prop)(f:M α):St->Hp->(γ->Hp->Prop)->Prop:=λσ H Q=>
 ∃G ρ,EOk K B G0 G H σ ρ/\aft K B G0 R (f ρ) G σ Q
abbrev tD(f:M D):TE:=tM K B G0 (Rep K) f
abbrev tDs(f:M zn):TA:=tM K B G0 (Reps K) f
abbrev tBo(f:M Bool):TT:=tM K B G0 (λ_ b c=>b=c) f
abbrev tOi(f:M zx):TO:=tM K B G0 (λ_ b c=>b=c) f
end
section
variable{K:Frag}{B G0:Hp}{α β γ δ ε:Type}{R:Hp->γ->α->Prop}{S:Hp->δ->β->Prop}{T:Hp->ε->α->Prop}{σ:St}{H:Hp}
def aft.mono  {G G'}{Q}(e:Same G G')(h:aft K B G0 R r G σ Q):aft K B G0 R r G' σ Q:=by
 cases r with
 |ok d ρ=>exact λv G2 H2 k s q=>h v G2 H2 k (e.trans s) q
 |bad=>exact h
def aft.done   {G G' H H'}{v}{Q}(h:aft K B G0 R (.ok d ρ) G σ Q)(k:EOk K B G0 G H σ ρ)(e:Ext G H G' H')(r:R G' v d):Q v H':=
 h v G' H' (k.ext e) e.g r
def aft.now   {G H}{v}{Q}(h:aft K B G0 R (.ok d ρ) G σ Q)(k:EOk K B G0 G H σ ρ)(r:R G v d):Q v H:=
 h v G H k (.refl _) r
def aft.opt     (h:aft K B G0 R (Ka o ρ) G σ Q):∃d,o=zd d/\aft K B G0 R (.ok d ρ) G σ Q:=by
 cases o with
 |none=>exact h.elim
 |some d=>exact⟨d,rfl,h⟩
def tM.bind    (h:tM K B G0 S (Kd f k) σ H Q) :
  tM K B G0 R f σ H (λv H1=>∃G ρ d,EOk K B G0 G H1 σ ρ/\R G v d/\aft K B G0 S (k d ρ) G σ Q):=by
 obtain⟨G,ρ,e,a⟩:=h;refine⟨G,ρ,e,?_⟩;unfold Kd at a;cases q:f ρ with
 |bad=>rw[q]at a;exact a.elim
 |ok d ρ1=>rw[q]at a;exact λv G' H' e' s r=>⟨G',ρ1,d,e',r,aft.mono s a⟩
def tM.bind2{α' γ'}{R':Hp->γ'->α'->Prop}{f}{g:α->M α'}{k:α->α'->M β}{Q}(mo:∀G G' v d,Same G G'->R G v d->R G' v d)
  (h:tM K B G0 S (Kd f λx=>Kd (g x) λy=>k x y) σ H Q) :
  tM K B G0 R f σ H (λv H1=>∃x,tM K B G0 R' (g x) σ H1 λu H2=>∃G ρ y,EOk K B G0 G H2 σ ρ/\R G v x/\R' G u y/\aft K B G0 S (k x y ρ) G σ Q):=by
 obtain⟨G,ρ,e,a⟩:=tM.bind  h;refine⟨G,ρ,e,?_⟩;cases q:f ρ with
 |bad=>rw[q]at a;exact a.elim
 |ok d ρ1=>
  rw[q]at a;intro v G' H' e' s r;obtain⟨G2,ρ2,d2,e2,r2,a2⟩:=a v G' H' e' s r;refine⟨d2,G2,ρ2,e2,?_⟩;unfold Kd at a2;cases q2:g d2 ρ2 with
  |bad=>rw[q2]at a2;exact a2.elim
  |ok d3 ρ3=>rw[q2]at a2;exact λu G3 H3 e3 s3 r3=>⟨G3,ρ3,d3,e3,mo _ _ _ _ s3 r2,r3,aft.mono s3 a2⟩
end
def GK{K}(G G')(v)(d)(e:Same G G')(r:Rep K G v d):Rep K G' v d:=r.mono e
def tM.two{K}{B G0}{β δ}{S}{σ}{H}{f g}{k:D->D->M β}{Q:δ->Hp->Prop}{P:V->V->Hp->Prop}
  (h:tM K B G0 S (Kd f λx=>Kd g λy=>k x y) σ H Q)
  (i:∀v u H2 G ρ x y,EOk K B G0 G H2 σ ρ->Rep K G v x->Rep K G u y->aft K B G0 S (k x y ρ) G σ Q->P v u H2) :
  tD K B G0 f σ H (λv H1=>tD K B G0 g σ H1 λu H2=>P v u H2):=by
 obtain⟨G,ρ,e,a⟩:=tM.bind2   GK h;refine⟨G,ρ,e,?_⟩;cases q:f ρ with
 |bad=>rw[q]at a;exact a.elim
 |ok d ρ1=>
  rw[q]at a;intro v G' H' e' s r;obtain⟨x,G2,ρ2,e2,a2⟩:=a v G' H' e' s r;refine⟨G2,ρ2,e2,?_⟩;cases q2:g ρ2 with
  |bad=>rw[q2]at a2;exact a2.elim
  |ok d3 ρ3=>rw[q2]at a2;intro u G3 H3 e3 s3 r3;obtain⟨G4,ρ4,y,e4,r4,r5,a5⟩:=a2 u G3 H3 e3 s3 r3;exact i v u H3 G4 ρ4 x y e4 r4 r5 a5
def tM.one{K}{B G0}{α β γ δ}{R}{S}{σ}{H}{f}{k:α->M β}{Q:δ->Hp->Prop}{P:γ->Hp->Prop}
  (h:tM K B G0 S (Kd f k) σ H Q) (i:∀v H2 G ρ x,EOk K B G0 G H2 σ ρ->R G v x->aft K B G0 S (k x ρ) G σ Q->P v H2):tM K B G0 R f σ H P:=by
 obtain⟨G,ρ,e,a⟩:=tM.bind  h;refine⟨G,ρ,e,?_⟩;cases q:f ρ with
 |bad=>rw[q]at a;exact a.elim
 |ok d ρ1=>rw[q]at a;intro v G' H' e' s r;obtain⟨G2,ρ2,d2,e2,r2,a2⟩:=a v G' H' e' s r;exact i v H' G2 ρ2 d2 e2 r2 a2
section
variable{X:Cx}{B G0:Hp}{e a b:Ur}{pos:Pos}
noncomputable def Kz  (h:PE X e t)(i:∀σ H Q,t' σ H Q->t σ H Q):PE X e t':=λpins s σ H Q I q=>h pins s σ H Q I (i σ H Q q)
noncomputable def YA  (h:PT X e t)(i:∀σ H Q,t' σ H Q->t σ H Q):PT X e t':=λpins s σ H Q I q=>h pins s σ H Q I (i σ H Q q)
noncomputable def paof   (h:PA X es t)(i:∀σ H Q,t' σ H Q->t σ H Q):PA X es t':=λps pins s σ H Q I q=>h ps pins s σ H Q I (i σ H Q q)
noncomputable def poof   (h:PO X eo t)(i:∀σ H Q,t' σ H Q->t σ H Q):PO X eo t':=λpins s σ H Q I q=>h pins s σ H Q I (i σ H Q q)
noncomputable def ZP{st}{t t'}(h:PS X st t)(i:∀D σ H,t' D σ H->t D σ H):PS X st t':=λpins s σ H D I q=>h pins s σ H D I (i D σ H q)
noncomputable def LM{st}{t t'}(h:PSs X st t)(i:∀D σ H,t' D σ H->t D σ H):PSs X st t':=λpins s σ H D I q=>h pins s σ H D I (i D σ H q)
noncomputable def UL(i:Nat):M D:=λρ=>match ρ[i]? with
 |some (zd (.pub d))=>.ok d ρ
 |some (zd (.own ds))=>.ok (.list ds) (ρ.set i (zd (.pub (.list ds))))
 |_=>.bad
def Yw  (h:PE X e (Zm i)):PE X e (tD X.K B G0 (UL i)):=Kz h λσ H Q ⟨G,ρ,k,a⟩=>by
 unfold UL at a;cases q:ρ[i]? with
 |none=>rw[q]at a;exact a.elim
 |some o=>
  cases o with
  |none=>rw[q]at a;exact a.elim
  |some sl=>
   cases sl with
   |deep _ _=>rw[q]at a;exact a.elim
   |pub d=>rw[q]at a;obtain⟨v,h1,h2⟩:=k.pub i d q;exact⟨v,h1,a.now k h2⟩
   |own ds=>rw[q]at a;obtain⟨ad,G',h1,h2,h3,h4⟩:=k.publish q;exact⟨.ref ad,h1,a _ G' H h4 h2 h3⟩
def On   (h:PE X e (tC v))(r:∀G,Rep X.K G v d):PE X e (tD X.K B G0 (UR d)):=Kz h λσ H Q ⟨G,ρ,k,a⟩=>a.now k (r G)
def Hg   : PE X (.Constant (.int i) j pos) (tD X.K B G0 (UR (.int i))):=On By λ_=>.int i
def qM   : PE X (.Constant (.bool i) j pos) (tD X.K B G0 (UR (.bool i))):=On DU λ_=>.bl i
def qL{j}:PE X (.Constant .none j pos) (tD X.K B G0 (UR .none)):=On Bx λ_=>.non
def Ai   : PE X (.Constant (.str x) j pos) (tD X.K B G0 (UR (.str x))):=On Bw λ_=>.str x
noncomputable def UQ{β:Type}(op:D->D->Option β)(f g:M D):M β:=Kd f λx=>Kd g λy=>Ka (op x y)
def OpD(X:Cx)(f:Ul->Ul->Sem Ul)(op:D->D->zp):Prop:=
 ∃r:R2,OpR X f r/\∀v u G H x y d Q,Same G H->Rep X.K G v x->Rep X.K G u y->op x y=zd d->(∀w G' H',Ext G H G' H'->Rep X.K G' w d->Q w H')->r v u H Q
def Tv    (o:OpD X (binaryOp op) p)(ha:PE X a (tD X.K B G0 f))(hb:PE X b (tD X.K B G0 g)):PE X (.BinOp a op b pos) (tD X.K B G0 (UQ p f g)):=by
 obtain⟨r,h,i⟩:=o;refine Kz (Ny h ha hb) λσ H Q q=>?_;refine tM.two q λv u H2 G ρ x y k rx ry a=>?_
 obtain⟨d,e,a⟩:=a.opt;exact i v u G H2 x y d Q k.gh rx ry e λw G' H' ex rw=>a.done k ex rw
def OpD.or   (h:OpD X f p)(h':OpD X f q):OpD X f (λx y=>(p x y).orElse λ_=>q x y):=by
 obtain⟨r,h1,i1⟩:=h;obtain⟨r',h2,i2⟩:=h';refine⟨_,h1.or h2,λv u G H x y d Q s rx ry e k=>?_⟩;dsimp only at e;cases z:p x y with
 |some d'=>rw[z]at e;have e'   :=Q8 e;subst e';exact .inl (i1 v u G H x y d' Q s rx ry z k)
 |none=>rw[z]at e;exact .inr (i2 v u G H x y d Q s rx ry e k)
noncomputable def oII(g:Int->Int->zp):D->D->zp
 |.int i,.int j=>g i j
 |_,_=>zj
def GJ   (e:oII g x y=zd d):∃i j,x=.int i/\y=.int j/\g i j=zd d:=by
 unfold oII at e;split at e
 .exact⟨_,_,rfl,rfl,e⟩
 simp_all
def OpD.int     (h:OpR X f (rI C g))(i:∀i j d,p i j=zd d->C i j/\∀G,Rep X.K G (g i j) d):OpD X f (oII p):=by refine⟨_,h,λv u G H x y d Q s rx ry e k=>?_⟩;obtain⟨a,b,rfl,rfl,e⟩:=GJ e;obtain⟨c,r⟩:=i a b d e;exact⟨a,b,rx.int_inv,ry.int_inv,c,k _ G H (.refl s) (r G)⟩
def OpD.int0   {p:Int->Int->D}(h:OpR X f (rI0 g))(i:∀i j G,Rep X.K G (g i j) (p i j)):OpD X f (oII λi j=>zd (p i j)):=by refine⟨_,h,λv u G H x y d Q s rx ry e k=>?_⟩;obtain⟨a,b,rfl,rfl,e⟩:=GJ e;cases e;exact⟨a,b,rx.int_inv,ry.int_inv,k _ G H (.refl s) (i a b G)⟩
end
section
variable{X:Cx}{B G0:Hp}{e a b c:Ur}{pos:Pos}
def Ah:OpD X (binaryOp .Add) (oII λi j=>zd (.int (i+j))):=.int0 B4 λ_ _ _=>.int _
def Ag:OpD X (binaryOp .Sub) (oII λi j=>zd (.int (i-j))):=.int0 B3 λ_ _ _=>.int _
noncomputable def XI(i j:Int):zp:=if(-(2 ^ 64)<i/\i<2 ^ 64)∨(-(2 ^ 64)<j/\j<2 ^ 64)then zd (.int (i*j))else zj
def qK:OpD X (binaryOp .Mult) (oII XI):=.int B2 λi j d h=>by
 unfold XI at h;split at h
 .rename_i c
  cases h;exact⟨c,λ_=>.int _⟩
 simp_all
noncomputable def Rm(i j:Int):zp:=if 0<j then zd (.int (i % j))else zj
def Af:OpD X (binaryOp .Mod) (oII Rm):=.int B0 λi j d h=>by
 unfold Rm at h;split at h
 .rename_i c
  cases h;exact⟨c,λ_=>.int _⟩
 simp_all
def kr:OpR X (binaryOp .FloorDiv) (rI (λi j=>0<j/\j<2 ^ 200) λi j=>.int (i / j)):=opI λi j _ _ _ _ _ hc q=>by
 refine floordiv_int (by lia) (by rw[Int.fdiv_eq_ediv_of_nonneg i (by lia)];exact q) (.inl (PyProof.noPylong_of_log2 ?_));have h0:j.natAbs≠0:=by lia
 have:j.natAbs.log2<200:=(Nat.log2_lt h0).mpr (by lia)
 lia
noncomputable def Rn(i j:Int):zp:=if 0<j/\j<2 ^ 200 then zd (.int (i / j))else zj
def Ae:OpD X (binaryOp .FloorDiv) (oII Rn):=.int kr λi j d h=>by
 unfold Rn at h;split at h
 .rename_i c
  cases h;exact⟨c,λ_=>.int _⟩
 simp_all
noncomputable def Rl(i j:Int):zp:=if 0<=j/\j<=1000000/\i.natAbs<2 ^ 64 then zd (.int (i ^ j.toNat))else zj
def Ad:OpD X (binaryOp .Pow) (oII Rl):=.int BZ λi j d h=>by
 unfold Rl at h;split at h
 .rename_i c
  cases h;exact⟨c,λ_=>.int _⟩
 simp_all
noncomputable def lim:(1000000:Nat)<=Us:=by decide
noncomputable def NA:D->D->zp
 |.str x,.str y=>if x.length+y.length<=1000000 then zd (.str (x++y))else zj
 |_,_=>zj
def qJ:OpD X (binaryOp .Add) NA:=by
 refine⟨_,wn,λv u G H x y d Q s rx ry e k=>?_⟩;unfold NA at e;split at e
 .split at e
  .rename_i c
   cases e;exact⟨_,_,rx.str_inv,ry.str_inv,QP c lim,k _ G H (.refl s) (.str _)⟩
  simp_all
 simp_all
def Ci(K:Frag):R2:=λx y H Q=>∃l b xs zs,x=.ref l/\y=.ref b/\SqL K H l xs/\SqL K H b zs/\xs.length+zs.length<=Us/\∀p,H p=zj->Q (.ref p) (upd H p (.lst (xs++zs)))
def GI:OpR X (binaryOp .Add) (Ci X.K):=by
 intro pins s σ H x y v u Q I rx ry h;obtain⟨l,b,xs,zs,rfl,rfl,hH,hB,hz,q⟩:=h;cases rx;cases ry;obtain⟨its,r,⟨⟨c1,d1,t1,s1⟩,n1,e1,b6,bZ,bY⟩,z1⟩:=I.list hH;obtain⟨its2,r2,⟨⟨c2,d2,t2,s2⟩,n2,e2,ec2,ed2,et2⟩,z2⟩:=I.list hB;simp only at b6 bZ bY ec2 ed2 et2;subst b6 bZ bY ec2 ed2 et2;have hl:=r.length;have hl2:=r2.length;refine concat_meets ⟨_,e1,rfl⟩ ⟨_,e2,rfl⟩ noFill_list_add seq_list_add PySem.F.slot_list_add PySem.F.entry_list_add (PySem.F.args_list_add_2 _ _) (list_addW l b its.toArray its2.toArray n1 n2 zj zj s1 s2 (by grind)) ⟨e1,e2,?_⟩;have ea:its.toArray++its2.toArray=(its++its2).toArray:=by simp
 rw[ea];exact⟨.ref _,_,I.lnew  (r.append r2) (by simp_all),rfl,q _ I.fresh⟩
def Ch(a)(t)(l)(items)(n)(sl) :
  Meets (Builtin.«int.__rmul__» ⟨[.int a t,.ref l],[]⟩) (λ_ R s=>s.heap.get? l=zd {cls:=.type "list", dict:=zj,data:=.seq items n,slots:=sl}/\R (.ok (.ret Value.notImplemented)) s):=
 .of_wp λprog w A R s h=>by obtain⟨hl,h⟩:=h;wp_walk;exact⟨_,rfl,h⟩
def mulW(l)(items)(n:Nat)(x:Int)(u:Tok)(sl)(hc0:¬(!Builtin.List.listFitsIndex x)=zk)(hc1:¬items.size*x.toNat > (2 ^ 63-1) / 8)(hc2:¬Builtin.List.listTooLong (items.size*x.toNat)=zk) :
  Meets (Builtin.«list.__mul__» ⟨[.ref l,.int x u],[]⟩) (λ_ R s=>s.heap.get? l=zd {cls:=.type "list", dict:=zj,data:=.seq items n,slots:=sl}/\R (.ok (.ret (Value.ref s.heap.objs.size))) {s with heap:=s.heap.push {cls:=Value.type "list", data:=Data.seq (List.foldl (λx1 x2=>x1++x2) #[] (Ux (if items.isEmpty=zk then 0 else x.toNat) items))},toks:=s.toks}):=
 .of_wp λprog w A R s h=>by
  obtain⟨hl,h⟩:=h;have hsz:=AutoListH.joined_fits hc2
  wp_walk;refine wpAny_ite_false (QZ (Nat.not_lt.mpr hsz)) ?_;wp_walk;exact⟨_,rfl,h⟩
def Cg(K:Frag):R2:=λx y H Q=>∃l k xs,x=.ref l/\y=.int k/\SqL K H l xs /\ -(2 ^ 63)<=k/\k<2 ^ 63/\xs.length*k.toNat<=Us /\
 ∀p,H p=zj->Q (.ref p) (upd H p (.lst (Ux k.toNat xs).flatten))
def GH:OpR X (binaryOp .Mult) (Cg X.K):=by
 intro pins s σ H x y v u Q I rx ry h;obtain⟨l,k,xs,rfl,rfl,hH,h1,h2,hz,q⟩:=h;cases rx;obtain⟨t,rfl⟩:=ry;obtain⟨its,r,⟨⟨c1,d1,t1,sl⟩,n,e,b6,bZ,bY⟩,z⟩:=I.list hH;simp only at b6 bZ bY;subst b6 bZ bY;have hl:=r.length;have hlen:its.toArray.size*k.toNat<=Us:=by rw[Jf,←hl];exact hz
 have hcap:¬its.toArray.size*k.toNat > (2 ^ 63-1) / 8:=by
  have:(Us:Nat)<=(2 ^ 63-1) / 8:=by decide
  lia
 have hfit:¬(!Builtin.List.listFitsIndex k)=zk:=by rw[fitsIndex_both h1 h2];exact Bool.false_ne_true
 have bD:¬Builtin.List.listTooLong (its.toArray.size*k.toNat)=zk:=by rw[kB hlen];exact Bool.false_ne_true
 have hnew:List.foldl (λx1 x2=>x1++x2) #[] (Ux (if its.toArray.isEmpty=zk then 0 else k.toNat) its.toArray)=(Ux k.toNat its).flatten.toArray:=by
  have f0   :=λm=>by have:=Ey its m [];rw[Qy]at this;exact this
  rw[f0];cases its with
  |nil=>simp
  |cons a r'=>rw[if_neg (by simp)]
 refine wpAny_binaryOp_repeat_ref  (U:= "int") (by decide) ⟨_,e,rfl⟩ (λs'=>typeIs_int s' k t) noFill_list_mul F.fills_int_mul F.slot_int_rmul repeat_list F.slot_int_index.lookup
  (call_meets F.slot_int_rmul (typeIs_int s k t) F.entry_int_rmul (F.args_int_rmul_2 _ _) (Ch k t l its.toArray n sl)
   ⟨e,rfl,⟨_,e,rfl⟩,call_meets F.slot_list_mul ⟨_,e,rfl⟩ F.entry_list_mul (F.args_list_mul_2 _ _) (mulW l its.toArray n k t sl hfit hcap bD) ⟨e,?_⟩⟩)
 rw[hnew];exact⟨.ref _,_,I.lnew  (r.rep k.toNat) (by rw[ql,Nat.mul_comm];exact hz),rfl,q _ I.fresh⟩
noncomputable def LK:D->D->zp
 |.list x,.list y=>if x.length+y.length<=1000000 then zd (.list (x++y))else zj
 |_,_=>zj
def qI:OpD X (binaryOp .Add) LK:=by
 refine⟨_,GI,λv u G H x y d Q s rx ry e k=>?_⟩;unfold LK at e;split at e
 .split at e
  .rename_i c
   cases e;obtain⟨l,vs,rfl,h1,r1⟩:=rx.lst_inv;obtain⟨b,ws,rfl,h2,r2⟩:=ry.lst_inv;refine⟨l,b,vs,ws,rfl,rfl,s.seq h1,s.seq h2,by rw[r1.length,r2.length];exact QP c lim,λp hp=>k _ _ _ (Ext.new s hp) ?_⟩;exact .lst (SqL.of Zp) ((r1.append r2).mono (ZM (s.free hp)))
  simp_all
 simp_all
def Reps.rep{K}{G}{vs}{ds}(r:Reps K G vs ds):∀n:Nat,Reps K G (Ux n vs).flatten (Ux n ds).flatten
 |0=>.nil
 |n+1=>by exact r.append (r.rep n)
noncomputable def LJ:D->D->zp
 |.list x,.int k=>if -1000000<=k/\k<=1000000/\x.length*k.toNat<=1000000 then zd (.list (Ux k.toNat x).flatten)else zj
 |_,_=>zj
def qH:OpD X (binaryOp .Mult) LJ:=by
 refine⟨_,GH,λv u G H x y d Q s rx ry e k=>?_⟩;unfold LJ at e;split at e
 .split at e
  .rename_i c
   cases e;obtain⟨l,vs,rfl,h1,r1⟩:=rx.lst_inv;refine⟨l,_,vs,rfl,ry.int_inv,s.seq h1,by lia,by lia,by rw[r1.length];exact QP c.2.2 lim,λp hp=>k _ _ _ (Ext.new s hp) ?_⟩;exact .lst (SqL.of Zp) ((r1.rep _).mono (ZM (s.free hp)))
  simp_all
 simp_all
noncomputable def U1:D->D->zp
 |.int i,.int j=>zd (.int (i+j))
 |.str x,.str y=>if x.length+y.length<=1000000 then zd (.str (x++y))else zj
 |.list x,.list y=>if x.length+y.length<=1000000 then zd (.list (x++y))else zj
 |_,_=>zj
noncomputable def K0:D->D->zp
 |.int i,.int j=>zd (.int (i-j))
 |_,_=>zj
noncomputable def Ks:D->D->zp
 |.int i,.int j=>XI i j
 |.list x,.int k=>if -1000000<=k/\k<=1000000/\x.length*k.toNat<=1000000 then zd (.list (Ux k.toNat x).flatten)else zj
 |_,_=>zj
noncomputable def Zy:D->D->zp
 |.int i,.int j=>Rm i j
 |_,_=>zj
noncomputable def WR:D->D->zp
 |.int i,.int j=>Rn i j
 |_,_=>zj
noncomputable def VA:D->D->zp
 |.int i,.int j=>Rl i j
 |_,_=>zj
noncomputable def OpD.congr   (h:OpD X f p)(e:∀x y,q x y=p x y):OpD X f q:=by
 have   :=by funext x y;exact e x y
 simp_all
def Lw:OpD X (binaryOp .Add) U1:=(Ah.or (qJ.or qI)).congr λx y=>by cases x<;>cases y<;>first|rfl|(done)|(simp only[U1,NA];split<;>rfl)
def Lv:OpD X (binaryOp .Sub) K0:=Ag.congr λx y=>by cases x<;>cases y<;>rfl
def Lu:OpD X (binaryOp .Mult) Ks:=(qK.or qH).congr λx y=>by cases x<;>cases y<;>first|rfl|(done)|(simp only[Option.orElse];split<;>first|rfl|assumption)
def Cf:OpD X (binaryOp .Mod) Zy:=Af.congr λx y=>by cases x<;>cases y<;>rfl
def Ce:OpD X (binaryOp .FloorDiv) WR:=Ae.congr λx y=>by cases x<;>cases y<;>rfl
def Cd:OpD X (binaryOp .Pow) VA:=Ad.congr λx y=>by cases x<;>cases y<;>rfl
end
section
variable{X:Cx}{B G0:Hp}{e a b c:Ur}{pos:Pos}
def OpB(X:Cx)(f:Ul->Ul->Sem Ul)(op:D->D->zE):Prop:=
 ∃r:R2,OpR X f r/\∀v u G H x y d Q,Same G H->Rep X.K G v x->Rep X.K G u y->op x y=zd d->Q (.bl d) H->r v u H Q
def OpB.or   (h:OpB X f p)(h':OpB X f q):OpB X f (λx y=>(p x y).orElse λ_=>q x y):=by
 obtain⟨r,h1,i1⟩:=h;obtain⟨r',h2,i2⟩:=h';refine⟨_,h1.or h2,λv u G H x y d Q s rx ry e k=>?_⟩;dsimp only at e;cases z:p x y with
 |some d'=>rw[z]at e;have e'   :=Q8 e;subst e';exact .inl (i1 v u G H x y d' Q s rx ry z k)
 |none=>rw[z]at e;exact .inr (i2 v u G H x y d Q s rx ry e k)
noncomputable def OpB.congr   (h:OpB X f p)(e:∀x y,q x y=p x y):OpB X f q:=by
 have   :=by funext x y;exact e x y
 simp_all
def N6    (o:OpB X (Uv op) p)(ha:PE X a (tD X.K B G0 f))(hb:PE X b (tD X.K B G0 g))(hm:behindInMarks op b=zm) :
  PT X (.Compare a [op] [b] pos) (tBo X.K B G0 (UQ p f g)):=by
 obtain⟨r,h,i⟩:=o;refine YA (Ma h ha hb hm) λσ H Q q=>?_;refine tM.two q λv u H2 G ρ x y k rx ry a=>?_
 obtain⟨d,e,a⟩:=a.opt;exact i v u G H2 x y d _ k.gh rx ry e ⟨d,rfl,a.now k zh⟩
noncomputable def U0{α β:Type}(h:α->β)(f:M α):M β:=Kd f λx=>UR (h x)
def tM.map{K}{α β γ δ}{R}{S}{σ}{H}{h:α->β}{f}{Q}(j:γ->δ)(q:tM K B G0 S (U0 h f) σ H Q)
  (i:∀G v x,R G v x->S G (j v) (h x)):tM K B G0 R f σ H (λv H'=>Q (j v) H'):=
 tM.one   q λv H2 G ρ x k r a=>aft.now (a) k (i G v x r)
def tBo.val{K}{σ}{H}{f}{Q}(q:tD K B G0 (U0 Uz f) σ H Q):tBo K B G0 f σ H (λb H'=>Q (.bl b) H'):=
 tM.map  V.bl q λG v x e=>by rw[e];exact .bl x
def qG    (o:OpB X (Uv op) p)(ha:PE X a (tD X.K B G0 f))(hb:PE X b (tD X.K B G0 g))(hm:behindInMarks op b=zm) :
  PE X (.Compare a [op] [b] pos) (tD X.K B G0 (U0 Uz (UQ p f g))):=by
 obtain⟨r,h,i⟩:=o;refine Kz (GM h ha hb hm) λσ H Q q=>?_;refine tM.two (tBo.val q) λv u H2 G ρ x y k rx ry a=>?_
 obtain⟨d,e,a⟩:=a.opt;exact i v u G H2 x y d _ k.gh rx ry e (a.now k zh)
noncomputable def RK(p q:D->D->zE)(f g h:M D):M Bool:=Kd f λx=>Kd g λy=>Kd (Ka (p x y)) λt=>if t=zk then Kd h λz=>Ka (q y z)else UR zm
def vf  {p q}{f g h}(o:OpB X (Uv op) p)(o':OpB X (Uv op') q)(ha:PE X a (tD X.K B G0 f))(hb:PE X b (tD X.K B G0 g))(hc:PE X c (tD X.K B G0 h))
  (hm:lastMarks [op,op'] [b,c]=zm:=by with_unfolding_all rfl):PT X (.Compare a [op,op'] [b,c] pos) (tBo X.K B G0 (RK p q f g h)):=by
 obtain⟨r,h1,i⟩:=o;obtain⟨r',h2,i'⟩:=o';refine YA (kF h1 h2 ha hb hc hm) λσ H Q w=>?_;refine tM.two w λv u H2 G ρ x y k rx ry a=>?_
 cases z:p x y with
 |none=>rw[z]at a;exact a.elim
 |some t=>
  rw[z]at a;refine i v u G H2 x y t _ k.gh rx ry z ⟨t,rfl,?_⟩;cases t with
  |false=>exact⟨zm,rfl,aft.now a k zh⟩
  |true=>
   refine⟨G,ρ,k,?_⟩;have a4:aft X.K B G0 _ ((Kd h λz=>Ka _) ρ) G σ Q:=a;unfold Kd at a4;cases z2:h ρ with
   |bad=>rw[z2]at a4;exact a4.elim
   |ok d ρ1=>rw[z2]at a4;intro w G5 H5 k5 s5 r5;obtain⟨t2,e2,a6⟩:=a4.opt;exact i' u w G5 H5 y d t2 _ k5.gh (ry.mono s5) r5 e2 ⟨t2,rfl,a6 t2 G5 H5 k5 s5 zh⟩
def ve  {p q}{f g h}(o:OpB X (Uv op) p)(o':OpB X (Uv op') q)(ha:PE X a (tD X.K B G0 f))(hb:PE X b (tD X.K B G0 g))(hc:PE X c (tD X.K B G0 h))
  (hm:lastMarks [op,op'] [b,c]=zm:=by with_unfolding_all rfl):PE X (.Compare a [op,op'] [b,c] pos) (tD X.K B G0 (U0 Uz (RK p q f g h))):=by
 obtain⟨r,h1,i⟩:=o;obtain⟨r',h2,i'⟩:=o';refine Kz (kG h1 h2 ha hb hc hm) λσ H Q w=>?_;refine tM.two (tBo.val w) λv u H2 G ρ x y k rx ry a=>?_
 cases z:p x y with
 |none=>rw[z]at a;exact a.elim
 |some t=>
  rw[z]at a;refine i v u G H2 x y t _ k.gh rx ry z ⟨t,rfl,?_⟩;cases t with
  |false=>exact aft.now (v:=zm) a k zh
  |true=>
   refine⟨G,ρ,k,?_⟩;have a4:aft X.K B G0 _ ((Kd h λz=>Ka _) ρ) G σ _:=a;unfold Kd at a4;cases z2:h ρ with
   |bad=>rw[z2]at a4;exact a4.elim
   |ok d ρ1=>rw[z2]at a4;intro w G5 H5 k5 s5 r5;obtain⟨t2,e2,a6⟩:=a4.opt;exact i' u w G5 H5 y d t2 _ k5.gh (ry.mono s5) r5 e2 (a6 t2 G5 H5 k5 s5 zh)
noncomputable def oIB(g:Int->Int->Bool):D->D->zE
 |.int i,.int j=>zd (g i j)
 |_,_=>zj
def OpB.int   (h:OpR X f (rI0 λi j=>.bl (g i j))):OpB X f (oIB g):=by
 refine⟨_,h,λv u G H x y d Q s rx ry e k=>?_⟩;unfold oIB at e;split at e
 .cases e
  exact⟨_,_,rx.int_inv,ry.int_inv,k⟩
 simp_all
def B_lt:OpB X (Uv .Lt) (oIB λi j=>decide (i<j)):=.int DG
def B_le:OpB X (Uv .LtE) (oIB λi j=>decide (i<=j)):=.int DF
def B_gt:OpB X (Uv .Gt) (oIB λi j=>decide (j<i)):=.int DE
def B_ge:OpB X (Uv .GtE) (oIB λi j=>decide (j<=i)):=.int DD
mutual
theorem XF{pins:List (Up×Obj)}{s:Um}{σ:St}{G H:Hp}(I:Inv X pins σ H s)(sg:Same G H):∀{v:V}{d:D}{u:Ul},Rep X.K G v d->RelV v u->d.canLay0=zk->∃as,Reads s.heap u d as
 |_,_,_,.non,r,_=>by cases r;exact⟨_,.none⟩
 |_,_,_,.bl b,r,_=>by cases r;exact⟨_,.bool b⟩
 |_,_,_,.int i,r,_=>by obtain⟨t,rfl⟩:=r;exact⟨_,.int i t⟩
 |_,_,_,.str x,r,_=>by obtain⟨t,rfl⟩:=r;exact⟨_,.str x t⟩
 |_,_,_,.lst h q,r,c=>by cases r;obtain⟨its,rv,⟨o,n,e,hc,_,hd⟩,hz⟩:=I.list (sg.seq h);obtain⟨as,ra⟩:=readsAll_of I sg q rv (show UC _=zk by simpa[PyData.canLay0]using c);exact⟨_,.list e hc hd (by simpa using ra)⟩
 |_,_,_,.tup h q,r,c=>by cases r;obtain⟨its,rv,p,hz⟩:=I.tuple (XA sg h);obtain⟨o,e,hc,n,hd⟩:=p;obtain⟨as,ra⟩:=readsAll_of I sg q rv (show UC _=zk by simpa[PyData.canLay0]using c);exact⟨_,.tuple e hc hd (by simpa using ra)⟩
 |_,_,_,.dic h,r,c=>by simp[PyData.canLay0]at c
 |_,_,_,.exc _ _ _ _,r,c=>by simp[PyData.canLay0]at c
 |_,_,_,.dct _ _ _ _ _,r,c=>by simp[PyData.canLay0]at c
 |_,_,_,.dtt _ _ _ _,r,c=>by simp[PyData.canLay0]at c
theorem readsAll_of{pins:List (Up×Obj)}{s:Um}{σ:St}{G H:Hp}(I:Inv X pins σ H s)(sg:Same G H):∀{vs:List V}{ds:zn}{us:zr},Reps X.K G vs ds->Vals vs us->UC ds=zk->∃as,ReadsAll s.heap us ds as
 |_,_,_,.nil,r,_=>by cases r;exact⟨_,.nil⟩
 |_,_,_,.cons h t,r,c=>by
  cases r with
  |cons r1 r2=>have c':=c;rw[UC,QM]at c';obtain⟨as,ra⟩:=XF I sg h r1 c'.1;obtain⟨bs,rb⟩:=readsAll_of I sg t r2 c'.2;exact⟨_,.cons ra rb⟩
end
noncomputable def oEq(x y:D):zE:=if x.canLay0=zk/\y.canLay0=zk/\x.depth<=60 then zd (UE x y)else zj
noncomputable def oNe(x y:D):zE:=if x.canLay0=zk/\y.canLay0=zk/\x.depth<=60 then zd (!UE x y)else zj
def B_eq(hu:X.A.units+64<cLine):OpB X (Uv .Eq) oEq:=by
 refine⟨λv u H Q=>∃G x y d,Same G H/\Rep X.K G v x/\Rep X.K G u y/\oEq x y=zd d/\Q _ H,?_,λv u G H x y d Q s rx ry e k=>⟨G,x,y,d,s,rx,ry,e,k⟩⟩;intro pins s σ H x y v u Q I rx ry ⟨G,dx,dy,d,sg,px,py,e,q⟩;unfold oEq at e;split at e
 .rename_i c
  cases e;obtain⟨as,ra⟩:=XF I sg px rx c.1;obtain⟨bs,rb⟩:=XF I sg py ry c.2.1;exact SeqAt.compareEq_reads ra rb c.1 c.2.1 (by lia) ⟨.bl _,H,I,rfl,q⟩
 simp_all
def B_ne(hu:X.A.units+64<cLine):OpB X (Uv .NotEq) oNe:=by
 refine⟨λv u H Q=>∃G x y d,Same G H/\Rep X.K G v x/\Rep X.K G u y/\oNe x y=zd d/\Q _ H,?_,λv u G H x y d Q s rx ry e k=>⟨G,x,y,d,s,rx,ry,e,k⟩⟩;intro pins s σ H x y v u Q I rx ry ⟨G,dx,dy,d,sg,px,py,e,q⟩;unfold oNe at e;split at e
 .rename_i c
  cases e;obtain⟨as,ra⟩:=XF I sg px rx c.1;obtain⟨bs,rb⟩:=XF I sg py ry c.2.1;exact SeqAt.compareNe_reads ra rb c.1 c.2.1 (by have:=c.2.2;lia) ⟨.bl _,H,I,rfl,q⟩
 simp_all
noncomputable def isNon:D->Bool
 |.none=>zk
 |_=>zm
noncomputable def Rep.isNon{K}{G}{v}{d}(r:Rep K G v d):DL.isNon d=decide (v=.non):=by cases r<;>simp[DL.isNon]
end
section
variable{X:Cx}{B G0:Hp}{e a b c:Ur}{pos:Pos}{es rest:zq}
def tM.nx{K}{α β γ δ}{R}{S}{σ}{G H}{ρ}{f}{g:α->M β}{Q:δ->Hp->Prop}{P:γ->Hp->Prop}
  (k:EOk K B G0 G H σ ρ) (a:aft K B G0 S (Kd f g ρ) G σ Q) (i:∀v H' G' ρ' x,EOk K B G0 G' H' σ ρ'->Same G G'->R G' v x->aft K B G0 S (g x ρ') G' σ Q->P v H'):tM K B G0 R f σ H P:=by
 refine⟨G,ρ,k,?_⟩;unfold Kd at a;cases q:f ρ with
 |bad=>rw[q]at a;exact a.elim
 |ok d ρ1=>rw[q]at a;exact λv G' H' e s r=>i v H' G' ρ1 d e s r (aft.mono s a)
noncomputable def Zi(f g:M Bool):M Bool:=Kd f λt=>if t=zk then g else UR zm
noncomputable def mOr(f g:M Bool):M Bool:=Kd f λt=>if t=zk then UR zk else g
noncomputable def KB(f:M Bool):M Bool:=U0 (λt=>!t) f
def qF{K}{f g}{σ}{H}{Q}(q:tBo K B G0 (Zi f g) σ H Q):tAnd (tBo K B G0 f) (tBo K B G0 g) σ H Q:=
 tM.one  q λv H2 G ρ x k r a=>by
  subst r;cases v with
  |true=>exact⟨G,ρ,k,a⟩
  |false=>exact aft.now  a k zh
def CS{K}{f g}{σ}{H}{Q}(q:tBo K B G0 (mOr f g) σ H Q):tOr (tBo K B G0 f) (tBo K B G0 g) σ H Q:=
 tM.one  q λv H2 G ρ x k r a=>by
  subst r;cases v with
  |false=>exact⟨G,ρ,k,a⟩
  |true=>exact aft.now  a k zh
noncomputable def pwof  (h:PW X e t)(i:∀σ H Q,t' σ H Q->t σ H Q):PW X e t':=λwh pins s σ H Q I q=>h wh pins s σ H Q I (i σ H Q q)
def kq  (ha:PT X a (tBo X.K B G0 f)):PW X (.BoolOp .And [a] pos) (tBo X.K B G0 f):=qB ha
def AF{f:M Bool}(ha:PT X a (tBo X.K B G0 f)):PW X (.BoolOp .Or [a] pos) (tBo X.K B G0 f):=Bt ha
def AE  (ha:PT X a (tBo X.K B G0 f))(hb:PW X (.BoolOp .And (b::rest) pos) (tBo X.K B G0 g)):PW X (.BoolOp .And (a::b::rest) pos) (tBo X.K B G0 (Zi f g)):=pwof (Br ha hb) λ_ _ _ q=>qF q
def CQ  (ha:PT X a (tBo X.K B G0 f))(hb:PW X (.BoolOp .Or (b::rest) pos) (tBo X.K B G0 g)):PW X (.BoolOp .Or (a::b::rest) pos) (tBo X.K B G0 (mOr f g)):=pwof (DS ha hb) λ_ _ _ q=>CS q
def AD  (ha:PT X a (tBo X.K B G0 f)):PT X (.UnaryOp .Not a pos) (tBo X.K B G0 (KB f)):=YA (Bq ha) λσ H Q q=>tM.map  _ q λ_ v x e=>by rw[e]
noncomputable def Zt(f:M D):M Bool:=Kd f λx=>match x with | .bool t=>UR t|_=>λ_=>.bad
def AC  (h:PE X e (tD X.K B G0 f))(he:∀whole,isTrue e X.env whole=(do let v ←whole;standAt e.pos;holding [v] (truthy v)):=by intro _;rfl):PT X e (tBo X.K B G0 (Zt f)):=
 YA (Bu h he) λσ H Q q=>tM.one  q λv H2 G ρ x k r a=>by
  cases x with
  |bool t=>exact⟨t,r.bl_inv,aft.now  a k zh⟩
  |_=>exact a.elim
noncomputable def WD(f g:M D):M D:=Kd f λx=>match x with | .bool zk=>g | .bool zm=>UR (.bool zm)|_=>λ_=>.bad
noncomputable def Y4(f g:M D):M D:=Kd f λx=>match x with | .bool zk=>UR (.bool zk) | .bool zm=>g|_=>λ_=>.bad
noncomputable def Np(f:M D):M D:=Kd f λx=>match x with | .bool t=>UR (.bool (!t))|_=>λ_=>.bad
def AB  (ha:PE X a (tD X.K B G0 f))(hb:PE X (.BoolOp .And (b::rest) pos) (tD X.K B G0 g)):PE X (.BoolOp .And (a::b::rest) pos) (tD X.K B G0 (WD f g)):=
 Kz (Ac ha hb) λσ H Q q=>tM.one  q λv H2 G ρ x k r a=>by
  cases x with
  |bool t=>
   refine⟨t,r.bl_inv,?_⟩;cases t with
   |true=>exact⟨G,ρ,k,a⟩
   |false=>exact aft.now a k (.bl zm)
  |_=>exact a.elim
def CP  (ha:PE X a (tD X.K B G0 f))(hb:PE X (.BoolOp .Or (b::rest) pos) (tD X.K B G0 g)):PE X (.BoolOp .Or (a::b::rest) pos) (tD X.K B G0 (Y4 f g)):=
 Kz (DP ha hb) λσ H Q q=>tM.one  q λv H2 G ρ x k r a=>by
  cases x with
  |bool t=>
   refine⟨t,r.bl_inv,?_⟩;cases t with
   |false=>exact⟨G,ρ,k,a⟩
   |true=>exact aft.now a k (.bl zk)
  |_=>exact a.elim
def AA{op}{f:M D}(h:PE X a (tD X.K B G0 f)):PE X (.BoolOp op [a] pos) (tD X.K B G0 f):=Bp h
def Az  (ha:PE X a (tD X.K B G0 f)):PE X (.UnaryOp .Not a pos) (tD X.K B G0 (Np f)):=
 Kz (Ab ha) λσ H Q q=>tM.one  q λv H2 G ρ x k r a=>by
  cases x with
  |bool t=>exact⟨t,r.bl_inv,aft.now a k (.bl _)⟩
  |_=>exact a.elim
noncomputable def mIf{α:Type}(f:M Bool)(g h:M α):M α:=Kd f λt=>if t=zk then g else h
def vN   (hc:PT X c (tBo X.K B G0 f))(ha:PE X a (tD X.K B G0 g))(hb:PE X b (tD X.K B G0 h)):PE X (.IfExp c a b pos) (tD X.K B G0 (mIf f g h)):=
 Kz (jS hc ha hb) λσ H Q q=>tM.one  q λv H2 G ρ x k r a=>by
  subst r;cases v with
  |true=>exact⟨G,ρ,k,a⟩
  |false=>exact⟨G,ρ,k,a⟩
def Ay   (ha:PE X a (tD X.K B G0 f)):PT X (.Compare a [.Is] [.Constant .none j p2] pos) (tBo X.K B G0 (U0 isNon f)):=
 YA (Ot (Hl ha)) λσ H Q q=>tM.one  q λv H2 G ρ x k r a=>⟨_,rfl,aft.now a k (by rw[r.isNon])⟩
def Fd   (ha:PE X a (tD X.K B G0 f)):PT X (.Compare a [.IsNot] [.Constant .none j p2] pos) (tBo X.K B G0 (U0 (λd=>!isNon d) f)):=
 YA (Ot (qC ha)) λσ H Q q=>tM.one  q λv H2 G ρ x k r a=>⟨_,rfl,aft.now a k (by dsimp only;rw[r.isNon])⟩
def Ax   (ha:PE X a (tD X.K B G0 f)):PE X (.Compare a [.Is] [.Constant .none j p2] pos) (tD X.K B G0 (U0 (λd=>.bool (isNon d)) f)):=
 Kz (Bv (Hl ha)) λσ H Q q=>tM.one  q λv H2 G ρ x k r a=>aft.now a k (by dsimp only;rw[r.isNon];exact .bl _)
noncomputable def UN:M zn:=UR []
noncomputable def UO(f:M D)(g:M zn):M zn:=Kd f λx=>Kd g λxs=>UR (x::xs)
def RS:PA X [] (tDs X.K B G0 UN):=paof RC λσ H Q ⟨G,ρ,k,a⟩=>aft.now a k .nil
def tM.twoA{K}{σ}{H}{f}{g}{β δ}{S}{k:D->zn->M β}{Q:δ->Hp->Prop}{P:V->List V->Hp->Prop}
  (h:tM K B G0 S (Kd f λx=>Kd g λy=>k x y) σ H Q)
  (i:∀v u H2 G ρ x y,EOk K B G0 G H2 σ ρ->Rep K G v x->Reps K G u y->aft K B G0 S (k x y ρ) G σ Q->P v u H2) :
  tD K B G0 f σ H (λv H1=>tDs K B G0 g σ H1 λu H2=>P v u H2):=by
 obtain⟨G,ρ,e,a⟩:=tM.bind2   GK h;refine⟨G,ρ,e,?_⟩;cases q:f ρ with
 |bad=>rw[q]at a;exact a.elim
 |ok d ρ1=>
  rw[q]at a;intro v G' H' e' s r;obtain⟨x,G2,ρ2,e2,a2⟩:=a v G' H' e' s r;refine⟨G2,ρ2,e2,?_⟩;cases q2:g ρ2 with
  |bad=>rw[q2]at a2;exact a2.elim
  |ok d3 ρ3=>rw[q2]at a2;intro u G3 H3 e3 s3 r3;obtain⟨G4,ρ4,y,e4,r4,r5,a5⟩:=a2 u G3 H3 e3 s3 r3;exact i v u H3 G4 ρ4 x y e4 r4 r5 a5
def X8   (ha:PE X e (tD X.K B G0 f))(hr:PA X es (tDs X.K B G0 g))(hs:Uu (e::es) X.env=(zm,eval e X.env)::Uu es X.env:=by rfl) :
  PA X (e::es) (tDs X.K B G0 (UO f g)):=paof (T4 ha hr hs) λσ H Q q=>tM.twoA q λv u H2 G ρ x y k r1 r2 a=>aft.now a k (.cons r1 r2)
noncomputable def Kl(f:M zn):M D:=Kd f λxs=>if xs.length<=1000000 then UR (.tuple xs)else λ_=>.bad
noncomputable def Kh(f:M zn):M D:=Kd f λxs=>if xs.length<=1000000 then UR (.list xs)else λ_=>.bad
def OP  {f}(h:PA X es (tDs X.K B G0 f)):PE X (.Tuple es x1 pos) (tD X.K B G0 (Kl f)):=
 Kz (BW h) λσ H Q q=>tM.one  q λv H2 G ρ x k r a=>by
  split at a
  .rename_i c
   refine⟨by rw[r.length];exact QP c lim,λp hp=>?_⟩;exact aft.done a k (Ext.new k.gh hp) (.tup (SqT.of Zp) (r.mono (ZM (k.gh.free hp))))
  .exact a.elim
def N5  (h:PA X es (tDs X.K B G0 f)):PE X (.List es pos) (tD X.K B G0 (Kh f)):=
 Kz (Hj h) λσ H Q q=>tM.one  q λv H2 G ρ x k r a=>by
  split at a
  .rename_i c
   refine⟨by rw[r.length];exact QP c lim,λp hp=>?_⟩;exact aft.done a k (Ext.new k.gh hp) (.lst (SqL.of Zp) (r.mono (ZM (k.gh.free hp))))
  .exact a.elim
def oIx:D->D->zp
 |.list xs,.int i=>atI xs i
 |.tuple xs,.int i=>atI xs i
 |.str z,.int i=>if z.length<=1000000 then(atI z.cps.toList i).map λc=>.str ⟨#[c]⟩else zj
 |_,_=>zj
def Reps.atI{K}{G}{vs}{ds}{i}{d}(r:Reps K G vs ds)(h:L2.atI ds i=zd d):∃v,L2.atI vs i=zd v/\Rep K G v d:=by
 unfold L2.atI at h⊢;rw[r.length];cases z:ixN ds.length i with
 |none=>simp_all
 |some j=>rw[z]at h;exact r.get  h
def Hf{K}{v u}{G H}{x y d:D}{Q}(s:Same G H)(rx:Rep K G v x)(ry:Rep K G u y)(e:oIx x y=zd d)(k:∀w,Rep K G w d->Q w H):rIx K v u H Q:=by
 unfold oIx at e;split at e
 .obtain⟨l,vs,rfl,h1,r1⟩:=rx.lst_inv
  obtain⟨w,e1,r2⟩:=r1.atI e;exact .inl ⟨l,vs,_,w,rfl,ry.int_inv,s.seq h1,e1,k w r2⟩
 .obtain⟨l,vs,rfl,h1,r1⟩:=rx.tup_inv
  obtain⟨w,e1,r2⟩:=r1.atI e;exact .inr (.inl ⟨l,vs,_,w,rfl,ry.int_inv,XA s h1,e1,k w r2⟩)
 .split at e
  .rename_i z i hz
   cases q:L2.atI z.cps.toList i with
   |none=>rw[q]at e;cases e
   |some ch=>rw[q]at e;cases e;exact .inr (.inr ⟨z,i,ch,rx.str_inv,ry.int_inv,QP hz lim,q,k _ (.str _)⟩)
  .cases e
 .cases e
def CO  (ha:PE X a (tD X.K B G0 f))(hb:PE X b (tD X.K B G0 g))(hs:N8 b):PE X (.Subscript a b pos) (tD X.K B G0 (UQ oIx f g)):=
 Kz (LH Hi ha hb hs) λσ H Q q=>tM.two q λv u H2 G ρ x y k rx ry a=>by obtain⟨d,e,a⟩:=a.opt;exact Hf k.gh rx ry e λw r=>a.now k r
def UY(i:Nat)(g:M D):M D:=λρ=>match ρ[i]? with
 |some (zd (.pub d))=>(Kd g λy=>Ka (oIx d y)) ρ
 |some (zd (.own _))=>(Kd g λy=>λρ'=>match ρ'[i]? with|some (zd (.own ds))=>Ka (oIx (.list ds) y) ρ'|_=>.bad) ρ
 |_=>.bad
def RR   (ha:PE X a (Zm i))(hb:PE X b (tD X.K B G0 g))(hs:N8 b):PE X (.Subscript a b pos) (tD X.K B G0 (UY i g)):=
 Kz (LH Hi ha hb hs) λσ H Q ⟨G,ρ,k,a⟩=>by
  unfold UY at a;cases q:ρ[i]? with
  |none=>rw[q]at a;exact a.elim
  |some o=>
   cases o with
   |none=>rw[q]at a;exact a.elim
   |some sl=>
    cases sl with
    |deep _ _=>rw[q]at a;exact a.elim
    |pub d=>
     rw[q]at a;obtain⟨v,h1,h2⟩:=k.pub i d q;refine⟨v,h1,G,ρ,k,?_⟩;dsimp only[Kd]at a;cases z:g ρ with
     |bad=>rw[z]at a;exact a.elim
     |ok y ρ1=>rw[z]at a;intro u G' H' k' s' r';obtain⟨d',e',a'⟩:=aft.opt a;exact Hf k'.gh (h2.mono s') r' e' λw r=>a' w G' H' k' s' r
    |own ds=>
     rw[q]at a;obtain⟨ad,vs,h1,h2,h3,h4,h5⟩:=k.own i ds q;refine⟨.ref ad,h1,G,ρ,k,?_⟩;dsimp only[Kd]at a;cases z:g ρ with
     |bad=>rw[z]at a;exact a.elim
     |ok y ρ1=>
      rw[z]at a;dsimp only at a;intro u G' H' k' s' r';cases z2:ρ1[i]? with
      |none=>rw[z2]at a;exact a.elim
      |some o2=>
       cases o2 with
       |none=>rw[z2]at a;exact a.elim
       |some sl2=>
        cases sl2 with
        |deep _ _=>rw[z2]at a;exact a.elim
        |pub d2=>rw[z2]at a;exact a.elim
        |own es2=>
         rw[z2]at a;obtain⟨d',e',a'⟩:=aft.opt a;obtain⟨ad',vs',g1,g2,g3,g4,g5⟩:=k'.own i es2 z2;rw[h1]at g1;cases g1;cases y with
         |int j=>obtain⟨w,e1,r2⟩:=g5.atI e';exact .inl ⟨ad,vs',j,w,rfl,r'.int_inv,SqL.of g4,e1,a' w G' H' k' s' r2⟩
         |_=>cases e'
def cutD(xs:zn)(lo hi:zx):zn:=(xs.drop (HT.sIx xs.length 0 lo)).take (HT.sIx xs.length xs.length hi-HT.sIx xs.length 0 lo)
def Reps.cut{K}{G}{vs}{ds}(r:Reps K G vs ds)(lo hi):Reps K G (WT vs lo hi) (cutD ds lo hi):=by unfold WT cutD;rw[r.length];exact(r.drop _).take _
noncomputable def Zo:D->Option zx
 |.int i=>zd (zd i)
 |_=>zj
def ko:PO X zj (tOi X.K B G0 (UR zj)):=poof qu λσ H Q ⟨G,ρ,k,a⟩=>aft.now a k zh
def kn  (h:PE X e (tD X.K B G0 f)):PO X (zd e) (tOi X.K B G0 (Kd f λx=>Ka (Zo x))):=poof (qt h) λσ H Q q=>tM.one  q λv H2 G ρ x k r a=>by
 cases x with
 |int i=>exact⟨i,r.int_inv,aft.now  a k zh⟩
 |_=>exact a.elim
end
noncomputable def XM:List (D×D)->Bool
 |(.none,_)::_=>zk
 |_=>zm
def Wg:D->String
 |.none=> "NoneType"
 |.bool _=> "bool"
 |.int _=> "int"
 |.str _=> "str"
 |.list _=> "list"
 |.tuple _=> "tuple"
 |.dict kvs=>if XM kvs=zk then "" else "dict"
def KR(d:D)(c:String):Bool:=Wg d==c || (Wg d == "bool" && c == "int")
def Og:D->Bool
 |.dict kvs=>XM kvs
 |_=>zm
def nty{kvs:List (D×D)}{c}(h:(("dict" == c) || ("" == c))=zm):KR (.dict kvs) c=zm:=by
 obtain⟨h1,h2⟩:=Bool.or_eq_false_iff.mp h
 show((if XM kvs=zk then "" else "dict")==c || ((if XM kvs=zk then "" else "dict") == "bool" && c == "int"))=zm
 cases XM kvs with
 |true=>rw[Qu zh,h2];rfl
 |false=>rw[QH (by decide),h1];rfl
def He{ks:zB}{ds:zn}:Wg (.dict ((ks.map kD).zip ds)) = "dict" /\ Og (.dict ((ks.map kD).zip ds))=zm:=by
 cases ks with
 |nil=>exact⟨rfl,rfl⟩
 |cons k ks=>
  cases ds with
  |nil=>exact⟨rfl,rfl⟩
  |cons d ds=>cases k<;>exact⟨rfl,rfl⟩
def Aw(K)(d:D)(c)(nx:Og d=zm)(hc:c = "int" ∨ c = "bool" ∨ c = "str" ∨ c = "list" ∨ c = "tuple" ∨ c = "dict"):PySem.W.kitOne K (.type (Wg d)) (.type c)=zd (KR d c):=by
 cases d with
 |dict kvs=>
  have e:Wg (.dict kvs) = "dict" :=by
   have nx:XM kvs=zm:=nx
   show(if XM kvs=zk then "" else "dict")=_
   rw[nx];rfl
  unfold KR;rw[e];rcases hc with rfl|rfl|rfl|rfl|rfl|rfl<;>rfl
 |_=>rcases hc with rfl|rfl|rfl|rfl|rfl|rfl<;>rfl
section
variable{X:Cx}{B G0:Hp}{e a b c:Ur}{pos:Pos}{es rest:zq}
def YV(X:Cx)(f:Ul)(p:zn->zp):Prop:=
 ∃r,YS X f r/\∀vs G H ds d Q,Same G H->Reps X.K G vs ds->p ds=zd d->(∀w G' H',Ext G H G' H'->Rep X.K G' w d->Q w H')->r vs H Q
noncomputable def K4(p:zn->zp)(f:M zn):M D:=Kd f λxs=>Ka (p xs)
def Vw  {p2}{id}{p}{f}(hc:YV X (.builtin id) p)(hg:Gl X x)(hm:X.mg x=zj)(hv:bootBuiltins x=zd (.builtin id))(ha:PA X (e::es) (tDs X.K B G0 f))(hn:x ≠ "__name__" :=by decide)(hdb:(x==("__debug__" : Str))=zm:=by decide)
  (he:Uu (e::es) X.env=(zm,eval e X.env)::Uu es X.env:=by rfl) (hpl:(backTo pos (Uu es X.env)).any (·.1)=zm:=by rfl):PE X (.Call (.Name x p2) (e::es) [] pos) (tD X.K B G0 (K4 p f)):=by
 obtain⟨r,h,i⟩:=hc;refine Kz (OZ h hg hm hv ha hn hdb he hpl) λσ H Q q=>tM.one  q λv H2 G ρ x k rr a=>?_
 obtain⟨d,e,a⟩:=a.opt;exact i v G H2 x d Q k.gh rr e λw G' H' ex rw=>a.done k ex rw
def EV  {p2}{T}{p}{f}(hc:YV X (.type T) p)(hg:Gl X x)(hm:X.mg x=zj)(hv:bootBuiltins x=zd (.type T))(ha:PA X (e::es) (tDs X.K B G0 f))(hn:x ≠ "__name__" :=by decide)(hdb:(x==("__debug__" : Str))=zm:=by decide)
  (he:Uu (e::es) X.env=(zm,eval e X.env)::Uu es X.env:=by rfl) (hpl:(backTo pos (Uu es X.env)).any (·.1)=zm:=by rfl):PE X (.Call (.Name x p2) (e::es) [] pos) (tD X.K B G0 (K4 p f)):=by
 obtain⟨r,h,i⟩:=hc;refine Kz (Lb h hg hm hv ha hn hdb he hpl) λσ H Q q=>tM.one  q λv H2 G ρ x k rr a=>?_
 obtain⟨d,e,a⟩:=a.opt;exact i v G H2 x d Q k.gh rr e λw G' H' ex rw=>a.done k ex rw
noncomputable def Reps.nil_inv{K:Frag}{G:Hp}{vs:List V}(r:Reps K G vs []):vs=[]:=by cases r;rfl
noncomputable def Reps.one_inv{K}{G}{vs}{d}(r:Reps K G vs [d]):∃v,vs=[v]/\Rep K G v d:=by
 cases r with
 |cons h t=>cases t;exact⟨_,rfl,h⟩
def Reps.two_inv{K}{G}{vs}{d d'}(r:Reps K G vs [d,d']):∃v v',vs=[v,v']/\Rep K G v d/\Rep K G v' d':=by
 cases r with
 |cons h t=>obtain⟨v',rfl,r'⟩:=t.one_inv;exact⟨_,v',rfl,h,r'⟩
noncomputable def Ki:zn->zp
 |[.list xs]=>zd (.int xs.length)
 |[.tuple xs]=>zd (.int xs.length)
 |[.str z]=>if z.length<=1000000 then zd (.int z.length)else zj
 |_=>zj
def Cc:YV X (.builtin "len") Ki:=by
 refine⟨_,Fe,λvs G H ds d Q s r e k=>?_⟩;unfold Ki at e;split at e
 .cases e
  obtain⟨v,rfl,q⟩:=r.one_inv;obtain⟨l,ws,rfl,h1,r1⟩:=q.lst_inv;exact⟨.ref l,ws.length,rfl,.inl ⟨ws,s.seq h1,rfl⟩,by rw[r1.length];exact k _ G H (.refl s) (.int _)⟩
 .cases e
  obtain⟨v,rfl,q⟩:=r.one_inv;obtain⟨l,ws,rfl,h1,r1⟩:=q.tup_inv;exact⟨.ref l,ws.length,rfl,.inr ⟨ws,XA s h1,rfl⟩,by rw[r1.length];exact k _ G H (.refl s) (.int _)⟩
 .split at e
  .rename_i z hz
   cases e;obtain⟨v,rfl,q⟩:=r.one_inv;exact⟨.str z,z.length,by rw[q.str_inv],⟨QP hz lim,rfl⟩,k _ G H (.refl s) (.int _)⟩
  simp_all
 simp_all
noncomputable def Rt:zn->zp
 |[.int i,.int j]=>zd (.int (if j > i then j else i))
 |_=>zj
def CN(hc:X.calm=zk):YV X (.builtin "max") Rt:=by
 refine⟨_,vz hc,λvs G H ds d Q s r e k=>?_⟩;unfold Rt at e;split at e
 .cases e
  obtain⟨v,v',rfl,r1,r2⟩:=r.two_inv;exact⟨_,_,by rw[r1.int_inv,r2.int_inv],k _ G H (.refl s) (.int _)⟩
 simp_all
noncomputable def Of:zn->zp
 |[.int i,.int j]=>zd (.int (if j<i then j else i))
 |_=>zj
def CM(hc:X.calm=zk):YV X (.builtin "min") Of:=by
 refine⟨_,vy hc,λvs G H ds d Q s r e k=>?_⟩;unfold Of at e;split at e
 .cases e
  obtain⟨v,v',rfl,r1,r2⟩:=r.two_inv;exact⟨_,_,by rw[r1.int_inv,r2.int_inv],k _ G H (.refl s) (.int _)⟩
 simp_all
noncomputable def K5(i:Nat):M D:=λρ=>match ρ[i]? with
 |some (zd (.pub d))=>Ka (Ki [d]) ρ
 |some (zd (.own ds))=>.ok (.int ds.length) ρ
 |_=>.bad
def Fc  {p2:Pos}(hg:Gl X "len")(hm:X.mg "len" = zj)(ha:PE X e (Zm i))(he:Uu [e] X.env=[(zm,eval e X.env)]:=by rfl):PE X (.Call (.Name "len" p2) [e] [] pos) (tD X.K B G0 (K5 i)):=by
 refine Kz (OZ Fe hg hm PySem.boot_len (T4 ha RC (by rw[he];rfl)) (by decide) (by decide) (by rw[he];rfl) zh) λσ H Q ⟨G,ρ,k,a⟩=>?_
 unfold K5 at a;cases q:ρ[i]? with
 |none=>rw[q]at a;exact a.elim
 |some o=>
  cases o with
  |none=>rw[q]at a;exact a.elim
  |some sl=>
   cases sl with
   |deep _ _=>rw[q]at a;exact a.elim
   |pub d=>
    rw[q]at a;obtain⟨v,h1,h2⟩:=k.pub i d q;refine⟨v,h1,?_⟩;obtain⟨d',e',a'⟩:=aft.opt a;show ∃x n,[v]=[x]/\LenV X.K x H n/\Q (.int n) H;unfold Ki at e';split at e'
    .rename_i xs he'
     injection he' with bL aq;subst bL;cases e'
     obtain⟨l,ws,rfl,g1,r1⟩:=h2.lst_inv;exact⟨.ref l,ws.length,rfl,.inl ⟨ws,k.gh.seq g1,rfl⟩,by rw[r1.length];exact a'.now k (.int _)⟩
    .rename_i xs he'
     injection he' with bL aq;subst bL;cases e'
     obtain⟨l,ws,rfl,g1,r1⟩:=h2.tup_inv;exact⟨.ref l,ws.length,rfl,.inr ⟨ws,XA k.gh g1,rfl⟩,by rw[r1.length];exact a'.now k (.int _)⟩
    .rename_i z he'
     injection he' with bL aq;subst bL
     split at e'
     .rename_i hz
      cases e';exact⟨.str z,z.length,by rw[h2.str_inv],⟨QP hz lim,rfl⟩,a'.now k (.int _)⟩
     .cases e'
    .cases e'
   |own ds=>rw[q]at a;obtain⟨ad,vs,h1,g2,g3,h4,h5⟩:=k.own i ds q;exact⟨.ref ad,h1,.ref ad,vs.length,rfl,.inl ⟨vs,SqL.of h4,rfl⟩,by rw[h5.length];exact aft.now a k (.int _)⟩
def Av  {s:Um}{σ:St}{G H:Hp}{v:V}{u:Ul}{d:D}{cv:Ul}{t:Bool}{A:Around}{E}{Q}(I:Inv X pins σ H s)(sg:Same G H)(r:Rep X.K G v d)(rv:RelV v u)(nx:Og d=zm)
  (ek:PySem.W.kitOne X.K (.type (Wg d)) cv=zd t) (h:∀tk,Q (.bool t) {s with toks:=tk}):Ut (model X.prog X.w) A (call (.builtin "isinstance") [u,cv]) Q E s:=by
 cases r with
 |non=>cases rv;exact JC PySem.W.kitx_none I.kIn True.intro ek (λz=>nomatch z) h
 |bl y=>cases rv;exact JC PySem.W.kitx_bool I.kIn True.intro ek (λz=>nomatch z) h
 |int i=>obtain⟨t',rfl⟩:=rv;exact JC PySem.W.kitx_int I.kIn True.intro ek (λz=>nomatch z) h
 |str y=>obtain⟨t',rfl⟩:=rv;exact JC PySem.W.kitx_str I.kIn True.intro ek (λz=>nomatch z) h
 |lst hl _=>cases rv;obtain⟨its,r,⟨o,n,e,hc,_,hd⟩,hz⟩:=I.list (sg.seq hl);exact JC PySem.W.kitx_list I.kIn ⟨o,e,hc⟩ ek (λz=>nomatch z) h
 |tup hl _=>cases rv;obtain⟨its,r,p,hz⟩:=I.tuple (XA sg hl);obtain⟨o,e,hc,_⟩:=p;exact JC PySem.W.kitx_tuple I.kIn ⟨o,e,hc⟩ ek (λz=>nomatch z) h
 |@dic ad hd=>
  cases rv;obtain⟨_,_,vs,_,p⟩:=(I.hok ad _ (sg _ _ hd))
  obtain⟨o,es,ep,h1,h2,_⟩:=p;exact JC PySem.W.kitx_dict I.kIn ⟨o,h1,h2.1⟩ ek (λz=>nomatch z) h
 |exc _ _ _ _=>cases nx
 |@dct ad ks vs ds kvs e0 _ _ hd _=>
  cases rv;subst e0;rw[He.1]at ek;obtain⟨_,_,vs,_,p⟩:=(I.hok ad _ (sg _ _ hd))
  obtain⟨o,es,ep,h1,h2,_⟩:=p;exact JC PySem.W.kitx_dict I.kIn ⟨o,h1,h2.1⟩ ek (λz=>nomatch z) h
 |@dtt ad ob ks vs ds kvs e0 _ hd _=>
  cases rv;subst e0;obtain⟨_,_,_,xs,_,o,es,ep,h1,h2,_⟩:=(I.hok ad _ (sg _ _ hd))
  exact JC PySem.W.kitx_dict I.kIn ⟨o,h1,h2.1⟩ ek (λz=>nomatch z) h
def Au(c)(hc:c = "int" ∨ c = "bool" ∨ c = "str" ∨ c = "list" ∨ c = "tuple" ∨ c = "dict"):typeOf (.type c)=pure (.type "type"):=by rcases hc with rfl|rfl|rfl|rfl|rfl|rfl<;>kernel_rfl
def km:YS X (.builtin "isinstance") (λxs H Q=>∃v c G d,xs=[v,.ty c]/\Same G H/\Rep X.K G v d/\(c = "int" ∨ c = "bool" ∨ c = "str" ∨ c = "list" ∨ c = "tuple" ∨ c = "dict")/\Q (.bl (KR d c)) H):=by
 intro pins s σ H xs us Q I r h;obtain⟨v,c,G,d,rfl,sg,rp,hc,q⟩:=h;obtain⟨u,w',rfl,r1,r2⟩:=Oh r;cases (r2);by_cases nx:Og d=zk
 .cases rp with
  |@exc a C dd bm nm vs ds ck hx hd rr=>
   refine kt (Cj I.ok.mod.kin) pins s σ H [.ref a,.ty c] [u,.type c] Q I r ⟨a,C,dd,bm,zm,.ty c,zm,rfl,⟨nm,ck⟩,sg _ _ hx,.inr ⟨c,rfl,Au c hc,?_⟩,?_⟩
   .rw[ck.ty];rcases hc with rfl|rfl|rfl|rfl|rfl|rfl<;>rfl
   .have e:KR (.dict [(.none,.tuple [.str nm,.list ds])]) c=zm:=by rcases hc with rfl|rfl|rfl|rfl|rfl|rfl<;>rfl
    simp_all
  |dct e _ _ _ _=>subst e;rw[He.2]at nx;simp_all
  |dtt e _ _ _=>subst e;cases nx
  |_=>cases nx
 .have nx   :=by simpa using nx
  exact Av I sg rp r1 nx (Aw X.K d c nx hc) λtk=>⟨.bl _,H,I.tok tk,rfl,q⟩
noncomputable def y0:bootBuiltins "isinstance" = zd (.builtin "isinstance"):=by decide +kernel
def P5  {p2 p3}{c}(hc:c = "int" ∨ c = "bool" ∨ c = "str" ∨ c = "list" ∨ c = "tuple" ∨ c = "dict")(hg:Gl X "isinstance")(hm:X.mg "isinstance" = zj)(hg2:Gl X (UG c))(hm2:X.mg (UG c)=zj)
  (hv2:bootBuiltins (UG c)=zd (.type c)) (ha:PE X e (tD X.K B G0 f)) (hn2:(UG c) ≠ "__name__") (hd2:((UG c)==("__debug__" : Str))=zm)
  (hs:Uu [e,.Name (UG c) p3] X.env=(zm,eval e X.env)::Uu [.Name (UG c) p3] X.env:=by rfl)
  (hs2:Uu [.Name (UG c) p3] X.env=[(zm,eval (.Name (UG c) p3) X.env)]:=by rfl) :
  PE X (.Call (.Name "isinstance" p2) [e,.Name (UG c) p3] [] pos) (tD X.K B G0 (U0 (λd=>.bool (KR d c)) f)):=by
 refine Kz (OZ km hg hm y0 (T4 ha (T4 (qD (v:=.ty c) hg2 hm2 hv2 zh hn2 hd2) RC (by rfl)) hs) (by decide) (by decide) hs (by rfl)) λσ H Q q=>?_
 refine tM.one  q λv H2 G ρ x k r a=>?_
 exact⟨v,c,G,x,rfl,k.gh,r,hc,aft.now a k (.bl _)⟩
end
def spD(K:Frag)(n:Nat)(F:zn->zp):Sp:=λvs H Q _=>∃G ds d,vs.length=n/\Same G H/\Reps K G vs ds/\F ds=zd d/\∀v G' H',Ext G H G' H'->Rep K G' v d->Q v H'
section
variable{K:Frag}{B G0 G H:Hp}{σ:St}{ρ:UU}
noncomputable def EOk.exit(k:EOk K B G0 G H σ ρ):Ext G0 B G H:=⟨k.bh,k.g0,k.gh,k.np⟩
def Yx{α:Type}{l:List α}{i}{x y}(h:(l.set i x)[i]?=zd y):y=x:=by
 by_cases hl:i<l.length
 .simp_all
 .simp_all
def DpOk.setOther   {y}(k:DpOk K B G H σ ρ)(hy:∀s,y=zd s->∃d,s=.pub d):DpOk K B G H (σ.set i x) (ρ.set i y):=by
 have nz:∀{m:Nat}{s:Sl},(ρ.set i y)[m]?=zd (zd s)->(∃d,s=.pub d)∨(ρ[m]?=zd _/\(σ.set i x)[m]?=σ[m]?):=λ{m s} q=>by
  by_cases z:i=m
  .subst z
   exact .inl (hy s (Yx q).symm)
  .rw[Qr z]at q⊢;exact .inr ⟨q,rfl⟩
 refine k.map (λm p d q=>?_) (λm es q=>?_) λm p d v fp q s r w n=>⟨r,w⟩
 .rcases nz q with ⟨_,e⟩|q
  .cases e
  .exact q
 .rcases nz q with ⟨_,e⟩|q
  .cases e
  .exact⟨es,q⟩
def EOk.setPub  {v:V}{d}(k:EOk K B G0 G H σ ρ)(r:Rep K G v d)(hi:i<ρ.length):EOk K B G0 G H (σ.set i (zd v)) (ρ.set i (zd (.pub d))) where
 bh:=k.bh
 gh:=k.gh
 g0:=k.g0
 np:=k.np
 len:=by rw[Jc,Jc];exact k.len
 pub:=λj d' q=>by
  by_cases z:i=j
  .subst z
   have:=Yx q;cases this;exact⟨v,QQ (by rw[←k.len];exact hi),r⟩
  .rw[Qr z]at q⊢
   exact k.pub j d' q
 own:=λj ds q=>by
  by_cases z:i=j
  .subst z
   have:=Yx q;cases this
  .rw[Qr z]at q⊢
   exact k.own j ds q
 sep:=λj l c es fs q1 q2 s1 s2=>by
  have z1:i≠j:=λz=>by subst z;have:=Yx q1;cases this
  have z2:i≠l:=λz=>by subst z;have:=Yx q2;cases this
  rw[Qr z1]at q1 s1;rw[Qr z2]at q2 s2;exact k.sep j l c es fs q1 q2 s1 s2
 dp:=k.dp.setOther (λs e=>by cases e;exact⟨_,rfl⟩)
structure NewL(K:Frag)(B G H:Hp)(σ:St)(ρ:UU)(a:Up)(vs:List V)(ds:zn):Prop where
 b:B a=zj
 g:G a=zj
 h:H a=zd (.lst vs)
 r:Reps K G vs ds
 f:∀(j:Nat) es,ρ[j]?=zd (zd (.own es))->σ[j]?≠zd (zd (.ref a))
 dp:∀(j:Nat) p d v fp,ρ[j]?=zd (zd (.deep p d))->σ[j]?=zd (zd v)->RepO K G H p v d fp->a∉fp
def EOk.freshD   (k:EOk K B G0 G H σ ρ)(e:Same H H')(ha:H a=zj){G'}{j:Nat}{p}{d}{v}{fp}(q:ρ[j]?=zd (zd (.deep p d)))(s:σ[j]?=zd (zd v))(r:RepO K G' H' p v d fp):a∉fp:=λm=>by
 obtain⟨ω,k1,k2⟩:=k.dp;obtain⟨v',fp',s',r',n,w⟩:=k1 j p d q;rw[s]at s';cases s';have u:=r'.uniq e r;subst u;obtain⟨ws,hl⟩:=r'.isl a m
 lia
def EOk.setOwn  {a:Up}{vs:List V}{ds:zn}(k:EOk K B G0 G H σ ρ)(n:NewL K B G H σ ρ a vs ds)(hi:i<ρ.length):EOk K B G0 G H (σ.set i (zd (.ref a))) (ρ.set i (zd (.own ds))) where
 bh:=k.bh
 gh:=k.gh
 g0:=k.g0
 np:=k.np
 len:=by rw[Jc,Jc];exact k.len
 pub:=λj d' q=>by
  by_cases z:i=j
  .subst z
   have:=Yx q;cases this
  .rw[Qr z]at q⊢
   exact k.pub j d' q
 own:=λj es q=>by
  by_cases z:i=j
  .subst z
   have:=Yx q;cases this;exact⟨a,vs,QQ (by rw[←k.len];exact hi),n.b,n.g,n.h,n.r⟩
  .rw[Qr z]at q⊢
   exact k.own j es q
 sep:=λj l c es fs q1 q2 s1 s2=>by
  have hs:i<σ.length:=by rw[←k.len];exact hi
  by_cases z1:i=j
  .subst z1
   rw[QQ hs]at s1;cases s1;by_cases z2:i=l
   .exact z2
   .rw[Qr z2]at q2 s2
    exact absurd s2 (n.f l fs q2)
  .by_cases z2:i=l
   .subst z2
    rw[QQ hs]at s2;cases s2;rw[Qr z1]at q1 s1;exact absurd s1 (n.f j es q1)
   .rw[Qr z1]at q1 s1
    rw[Qr z2]at q2 s2;exact k.sep j l c es fs q1 q2 s1 s2
 dp:=by
  obtain⟨ω,k1,k2⟩:=k.dp;have hs:i<σ.length:=by rw[←k.len];exact hi
  refine⟨λb=>if b=a then i else ω b,λj p d q=>?_,λj es b q s=>?_⟩
  .by_cases z:i=j
   .subst z;have:=Yx q;cases this
   .rw[Qr z]at q⊢
    obtain⟨v,fp,s,r,nn,w⟩:=k1 j p d q;refine⟨v,fp,s,r,nn,λb m=>⟨(w b m).1,(w b m).2.1,?_⟩⟩;dsimp only;rw[QH (λz=>n.dp j p d v fp q s r (by rw[←z];exact m))];exact(w b m).2.2
  .by_cases z:i=j
   .subst z
    rw[QQ hs]at s;cases s;dsimp only;rw[Qu zh]
   .rw[Qr z]at q s
    dsimp only;rw[QH (λe=>n.f j es q (by rw[←e];exact s))];exact k2 j es b q s
def EOk.change  {a:Up}{vs:List V}{ds es:zn}(k:EOk K B G0 G H σ ρ)(q:ρ[i]?=zd (zd (.own ds)))(ha:σ[i]?=zd (zd (.ref a)))(r:Reps K G vs es) :
  EOk K B G0 G (upd H a (.lst vs)) σ (ρ.set i (zd (.own es))):=by
 obtain⟨a',ws,h1,h2,h3,h4,h5⟩:=k.own i ds q;rw[ha]at h1;cases h1;refine⟨λb o e=>?_,λb o e=>?_,k.g0,k.np,by rw[Jc];exact k.len,λj d' e=>?_,λj fs e=>?_,λj l c fs gs q1 q2 s1 s2=>?_,?_⟩
 .rw[KP (YN e h2)];exact k.bh b o e
 .rw[KP (YN e h3)];exact k.gh b o e
 .by_cases z:i=j
  .subst z
   have:=Yx e;cases this
  .rw[Qr z]at e
   exact k.pub j d' e
 .by_cases z:i=j
  .subst z
   have:=Yx e;cases this;exact⟨a,vs,ha,h2,h3,Zp,r⟩
  .rw[Qr z]at e
   obtain⟨c,us,g1,g2,g3,g4,g5⟩:=k.own j fs e;have zc:c≠a:=λw=>z (k.sep i j a ds fs q e ha (by rw[←w];exact g1))
   exact⟨c,us,g1,g2,g3,by rw[KP zc];exact g4,g5⟩
 .have f:∀{m:Nat}{ts:zn},(ρ.set i (zd (Sl.own es)))[m]?=zd _->∃ts',ρ[m]?=zd (zd (.own ts')):=λ{m ts} e=>by
   by_cases z:i=m
   .subst z;exact⟨ds,q⟩
   .rw[Qr z]at e;exact⟨ts,e⟩
  obtain⟨f1,w1⟩:=f q1;obtain⟨f2,w2⟩:=f q2;exact k.sep j l c f1 f2 w1 w2 s1 s2
 .refine k.dp.map (λj p d e=>?_) (λj fs e=>?_) λj p d v fp qj s rj w n=>⟨rj.upd (λ_ z=>by rw[h4]at z;cases z) (n i ds a q ha),w⟩
  .by_cases z:i=j
   .subst z;have:=Yx e;cases this
   .rw[Qr z]at e;exact⟨e,rfl⟩
  .by_cases z:i=j
   .subst z;exact⟨ds,q,rfl⟩
   .rw[Qr z]at e;exact⟨fs,e,rfl⟩
end
inductive Out where
 |nx (ρ:UU)|rt (d:D)|bk (ρ:UU)|ct (ρ:UU)|ex (ρ:UU) (d:D)|ro (ds:zn)|bad
abbrev SM:=UU->Out
section
variable(K:Frag)(B G0:Hp)(KX:XW)
def aftS(o:Out)(G1:Hp)(Dn:Ends):Prop:=
 match o with
 |.nx ρ=>∀σ G H,EOk K B G0 G H σ ρ->Same G1 G->Dn.nx σ H
 |.bk ρ=>∀σ G H,EOk K B G0 G H σ ρ->Same G1 G->Dn.bk σ H
 |.ct ρ=>∀σ G H,EOk K B G0 G H σ ρ->Same G1 G->Dn.ct σ H
 |.rt d=>∀v G H,Ext G0 B G H->Rep K G v d->Dn.rt v H
 |.ro ds=>∀a vs G H,Ext G0 B G H->B a=zj->G a=zj->H a=zd (.lst vs)->Reps K G vs ds->Dn.rt (.ref a) H
 |.ex ρ d=>∀v σ G H,EOk K B G0 G H σ ρ->Same G1 G->Rep K G v d->KX v σ H
 |.bad=>False
noncomputable def tS(g:SM):TS:=λDn σ H=>∃G ρ,EOk K B G0 G H σ ρ/\aftS K B G0 KX (g ρ) G Dn
noncomputable def sB{α:Type}(f:M α)(g:α->SM):SM:=λρ=>match f ρ with | .ok a ρ'=>g a ρ' | .bad=>.bad
end
section
variable{X:Cx}{B G0:Hp}{KX:XW}{e a b c:Ur}{pos:Pos}{es rest:zq}{st:Stmt}{sts sts2:List Stmt}
def aftS.mono{K}{o}{G G'}{Dn}(e:Same G G')(h:aftS K B G0 KX o G Dn):aftS K B G0 KX o G' Dn:=by
 cases o with
 |nx ρ=>exact λσ G2 H2 k s=>h σ G2 H2 k (e.trans s)
 |bk ρ=>exact λσ G2 H2 k s=>h σ G2 H2 k (e.trans s)
 |ct ρ=>exact λσ G2 H2 k s=>h σ G2 H2 k (e.trans s)
 |rt d=>exact h
 |ro ds=>exact h
 |ex ρ d=>exact λv σ G2 H2 k s r=>h v σ G2 H2 k (e.trans s) r
 |bad=>exact h
def tS.bnd{K}{α γ}{R}{f:M α}{g}{Dn}{σ}{H}{P:γ->Hp->Prop}(q:tS K B G0 KX (sB f g) Dn σ H)
  (i:∀v H' G' ρ' x,EOk K B G0 G' H' σ ρ'->R G' v x->aftS K B G0 KX (g x ρ') G' Dn->P v H'):tM K B G0 R f σ H P:=by
 obtain⟨G,ρ,k,a⟩:=q;refine⟨G,ρ,k,?_⟩;unfold sB at a;cases z:f ρ with
 |bad=>rw[z]at a;exact a.elim
 |ok d ρ1=>rw[z]at a;exact λv G' H' e s r=>i v H' G' ρ1 d e r (aftS.mono s a)
noncomputable def sNx:SM:=λρ=>.nx ρ
noncomputable def US(g h:SM):SM:=λρ=>match g ρ with | .nx ρ'=>h ρ'|o=>o
def NS:PSs X [] (tS X.K B G0 KX sNx):=LM qA λD σ H ⟨G,ρ,k,a⟩=>a σ G H k (.refl _)
def RQ  (h1:PS X st (tS X.K B G0 KX g))(h2:PSs X sts (tS X.K B G0 KX h)):PSs X (st::sts) (tS X.K B G0 KX (US g h)):=LM (jR h1 h2) λD σ H ⟨G,ρ,k,a⟩=>by
 refine⟨G,ρ,k,?_⟩;unfold US at a;cases z:g ρ with
 |nx ρ1=>rw[z]at a;exact λσ' G' H' k' s'=>⟨G',ρ1,k',aftS.mono s' a⟩
 |rt d=>rw[z]at a;exact a
 |ro ds=>rw[z]at a;exact a
 |bk ρ1=>rw[z]at a;exact a
 |ct ρ1=>rw[z]at a;exact a
 |ex ρ1 d=>rw[z]at a;exact a
 |bad=>rw[z]at a;exact a.elim
def RJ{g:SM}(h1:PS X st (tS X.K B G0 KX g)):PSs X [st] (tS X.K B G0 KX g):=qz h1
noncomputable def Vb:SM:=λ_=>.bad
def kj:PS X st (tS X.K B G0 KX Vb):=λ_ _ _ _ _ _ ⟨_,_,_,a⟩=>a.elim
noncomputable def U3(f:M D):SM:=sB f λd _=>.rt d
def Hd  (h:PE X e (tD X.K B G0 f)):PS X (.Return (zd e) pos) (tS X.K B G0 KX (U3 f)):=ZP (Aa h) λD σ H q=>tS.bnd  q λv H' G' ρ' x k r a=>a v G' H' k.exit r
noncomputable def Xz(f:M D):SM:=sB f λ_ ρ=>.nx ρ
def At  (h:PE X e (tD X.K B G0 f))(hs:swapsWith e zj pos.line X.env=pure zm:=by rfl):PS X (.Expr e pos) (tS X.K B G0 KX (Xz f)):=ZP (GU h hs) λD σ H q=>tS.bnd  q λv H' G' ρ' x k r a=>a σ G' H' k (.refl _)
noncomputable def sIf(f:M Bool)(g h:SM):SM:=sB f λt=>if t=zk then g else h
def No   (hc:PT X c (tBo X.K B G0 f))(ha:PSs X sts (tS X.K B G0 KX g))(hb:PSs X sts2 (tS X.K B G0 KX h)):PS X (.If c sts sts2 pos) (tS X.K B G0 KX (sIf f g h)):=
 ZP (DM hc ha hb) λD σ H q=>tS.bnd  q λv H' G' ρ' x k r a=>by
  subst r;cases v with
  |true=>exact⟨G',ρ',k,a⟩
  |false=>exact⟨G',ρ',k,a⟩
noncomputable def tG(K:Frag)(B G0:Hp)(s:D->UU->zy):TG:=λv σ H Q=>∃G ρ d ρ',EOk K B G0 G H σ ρ/\Rep K G v d/\s d ρ=zd ρ'/\∀σ' G' H',EOk K B G0 G' H' σ' ρ'->Same G G'->Q σ' H'
noncomputable def tGs(K:Frag)(B G0:Hp)(s:zn->UU->zy):TGs:=λv σ H Q=>∃G ρ d ρ',EOk K B G0 G H σ ρ/\Reps K G v d/\s d ρ=zd ρ'/\∀σ' G' H',EOk K B G0 G' H' σ' ρ'->Same G G'->Q σ' H'
noncomputable def pgof  (h:PG X e t)(i:∀v σ H Q,t' v σ H Q->t v σ H Q):PG X e t':=λpins s σ H v u Q I r q=>h pins s σ H v u Q I r (i v σ H Q q)
noncomputable def Lr  (h:PGs X es t)(i:∀v σ H Q,t' v σ H Q->t v σ H Q):PGs X es t':=λpins s σ H v u Q I r q=>h pins s σ H v u Q I r (i v σ H Q q)
noncomputable def gN(i:Nat):D->UU->zy:=λd ρ=>if i<ρ.length then zd (ρ.set i (zd (.pub d)))else zj
def Vc  (h:PG X e (Nz i)):PG X e (tG X.K B G0 (gN i)):=pgof h λv σ H Q ⟨G,ρ,d,ρ',k,r,e,q⟩=>by
 unfold gN at e;split at e
 .rename_i hi
  cases e;exact q _ G H (k.setPub r hi) (.refl _)
 simp_all
noncomputable def gN0:zn->UU->zy:=λd ρ=>match d with | []=>zd ρ|_=>zj
noncomputable def gNC(s:D->UU->zy)(t:zn->UU->zy):zn->UU->zy:=λds ρ=>match ds with|d::r=>(s d ρ).bind (t r) | []=>zj
def Om:PGs X [] (tGs X.K B G0 gN0):=Lr qy λv σ H Q ⟨G,ρ,d,ρ',k,r,e,q⟩=>by
 cases r with
 |nil=>cases e;exact⟨rfl,q σ G H k (.refl _)⟩
 |cons _ _=>cases e
def Vq   (h1:PG X e (tG X.K B G0 s))(h2:PGs X es (tGs X.K B G0 t))
  (hs:(UJ (e::es) X.env).map (·.2)=assign e X.env::(UJ es X.env).map (·.2):=by rfl):PGs X (e::es) (tGs X.K B G0 (gNC s t)):=Lr (kI h1 h2 hs) λv σ H Q ⟨G,ρ,d,ρ',k,r,e,q⟩=>by
 cases r with
 |nil=>cases e
 |@cons w dw ws dws rw rt=>
  unfold gNC at e;dsimp only at e;cases z:s dw ρ with
  |none=>simp_all
  |some ρ1=>rw[z]at e;refine⟨w,ws,rfl,G,ρ,dw,ρ1,k,rw,z,λσ' G' H' k' s'=>?_⟩;exact⟨G',ρ1,dws,ρ',k',rt.mono s',e,λσ2 G2 H2 k2 s2=>q σ2 G2 H2 k2 (s'.trans s2)⟩
noncomputable def gT(n:Nat)(t:zn->UU->zy):D->UU->zy:=λd ρ=>match d with | .tuple ds=>if ds.length=n then t ds ρ else zj|_=>zj
def Ol{k1}{t}{n}(hc:X.calm=zk)(h:PGs X es (tGs X.K B G0 t))
  (hn:(UJ es X.env).length=n:=by rfl) (hst:(UJ es X.env).findIdx? (·.1)=zj:=by rfl):PG X (.Tuple es k1 pos) (tG X.K B G0 (gT n t)):=pgof (B9 hc h hn hst) λv σ H Q ⟨G,ρ,d,ρ',k,r,e,q⟩=>by
 unfold gT at e;split at e
 .split at e
  .rename_i hl
   obtain⟨ad,vs,rfl,h1,r1⟩:=r.tup_inv;exact⟨ad,vs,rfl,XA k.gh h1,by rw[r1.length];exact hl,G,ρ,_,ρ',k,r1,e,q⟩
  simp_all
 simp_all
noncomputable def Zd(f:M D)(s:D->UU->zy):SM:=sB f λd ρ=>match s d ρ with|some ρ'=>.nx ρ'|none=>.bad
def CL  {f}{s}(he:PE X e (tD X.K B G0 f))(hg:PG X tg (tG X.K B G0 s))(hs:swapsWithSole [tg] e pos.line X.env=pure zm:=by rfl)(hw:swappedStores [tg] e X.env=pure zj:=by rfl)
  (h1:(UJ [tg] X.env).map (·.2)=[assign tg X.env]:=by rfl):PS X (.Assign [tg] e pos) (tS X.K B G0 KX (Zd f s)):=
 ZP (B8 he hg hs hw h1) λD σ H q=>tS.bnd  q λv H' G' ρ' x k r a=>by
  cases z:s x ρ' with
  |none=>rw[z]at a;exact a.elim
  |some ρ2=>rw[z]at a;exact⟨G',ρ',x,ρ2,k,r,z,λσ2 G2 H2 k2 s2=>a σ2 G2 H2 k2 s2⟩
noncomputable def U5(i:Nat)(f:M D):SM:=Zd f (gN i)
def CK     (hN:X.N.Nodup)(hi:X.N[i]?=zd x)(hx:Loc X.env.scope x)(he:PE X e (tD X.K B G0 f))(hs:swapsWith e (zd (.Name x p2)) pos.line X.env=pure zm:=by rfl)
  (hf:X.fn x=zk∨X.env.scope.names.lookup x=zd .local:=by first|exact .inl rfl|exact .inr rfl|assumption):PS X (.Assign [.Name x p2] e pos) (tS X.K B G0 KX (U5 i f)):=
 ZP (NT hN hi hx he hs hf) λD σ H q=>tS.bnd  q λv H' G' ρ' x k r a=>by
  unfold gN at a;split at a
  .rename_i ρ2 hz
   split at hz
   .rename_i hi2
    cases hz;exact a _ G' H' (k.setPub r hi2) (.refl _)
   simp_all
  .exact a.elim
def tL(K:Frag)(B G0:Hp)(f:M zn):TE:=λσ H Q=>∃G ρ,EOk K B G0 G H σ ρ/\match f ρ with
 |.ok ds ρ'=>∀a vs G' H',EOk K B G0 G' H' σ ρ'->Same G G'->NewL K B G' H' σ ρ' a vs ds->Q (.ref a) H'
 |.bad=>False
noncomputable def Zc(i:Nat)(f:M zn):SM:=sB f λds ρ=>if i<ρ.length then .nx (ρ.set i (zd (.own ds)))else .bad
def GR     (hN:X.N.Nodup)(hi:X.N[i]?=zd x)(hx:Loc X.env.scope x)(he:PE X e (tL X.K B G0 f))(hs:swapsWith e (zd (.Name x p2)) pos.line X.env=pure zm:=by rfl)
  (hf:X.fn x=zk∨X.env.scope.names.lookup x=zd .local:=by first|exact .inl rfl|exact .inr rfl|assumption):PS X (.Assign [.Name x p2] e pos) (tS X.K B G0 KX (Zc i f)):=
 ZP (NT hN hi hx he hs hf) λD σ H ⟨G,ρ,k,a⟩=>by
  refine⟨G,ρ,k,?_⟩;unfold Zc sB at a;cases z:f ρ with
  |bad=>rw[z]at a;exact a.elim
  |ok ds ρ1=>
   rw[z]at a;intro ad vs G' H' k' s' n;dsimp only at a;split at a
   .rename_i hl
    exact a _ G' H' (k'.setOwn n hl) s'
   .exact a.elim
def NewL.of{K}{G H}{σ}{ρ}{p}{vs}{ds}(k:EOk K B G0 G H σ ρ)(hp:H p=zj)(r:Reps K G vs ds):NewL K B G (upd H p (.lst vs)) σ ρ p vs ds where
 b:=k.bh.free hp
 g:=k.gh.free hp
 h:=Zp
 r:=r
 f:=λj es q z=>by
  obtain⟨a,ws,h1,h2,h3,h4,h5⟩:=k.own j es q
  lia
 dp:=λj pt d v fp q s rr=>k.freshD (ZM hp) hp q s rr
def GQ  (h:PA X es (tDs X.K B G0 f)):PE X (.List es pos) (tL X.K B G0 (Kd f λxs=>if xs.length<=1000000 then UR xs else λ_=>.bad)):=
 Kz (Hj h) λσ H Q ⟨G,ρ,k,a⟩=>by
  refine⟨G,ρ,k,?_⟩;unfold Kd at a;cases z:f ρ with
  |bad=>simp_all
  |ok ds ρ1=>
   rw[z]at a;dsimp only at a;intro v G' H' k' s' r;by_cases c:ds.length<=1000000
   .rw[Qu c]at a
    refine⟨by rw[r.length];exact QP c lim,λp hp=>?_⟩;exact a p v G' _ (k'.ext (Ext.hid k'.gh hp)) s' (NewL.of k' hp r)
   simp_all
noncomputable def ZG(i:Nat)(f:M D):SM:=λρ0=>match ρ0[i]? with
 |some (zd (.own _))=>sB f (λd ρ=>match ρ[i]? with
  |some (zd (.own ds))=>if ds.length<1000000 then .nx (ρ.set i (zd (.own (ds++[d]))))else .bad
  |_=>.bad) ρ0
 |_=>.bad
def Hc  {f:M D}{o:Ur}{apos cpos:Pos}(ho:PE X o (Zm i))(he:PE X e (tD X.K B G0 f))
  (hbase:attributeBase o "append" X.env (eval o X.env)=eval o X.env:=by rfl)
  (hfew:((backTo cpos (Uu [e] X.env)).all (λx=>!x.1)&&(backToKw cpos (keywordEach [] X.env)).all (λx=>x.1.isSome)
   && decide ([e].length+([]:List Keyword).length+(if([]:List Keyword).isEmpty then 0 else 1)<30))=zk:=by rfl)
  (hline:(apos.endLine==cpos.line)=zk:=by rfl) (hs:Uu [e] X.env=[(zm,eval e X.env)]:=by rfl)
  (hsw:swapsWith (.Call (.Attribute o "append" apos) [e] [] cpos) zj pos.line X.env=pure zm:=by rfl) :
  PS X (.Expr (.Call (.Attribute o "append" apos) [e] [] cpos) pos) (tS X.K B G0 KX (ZG i f)):=
 ZP (GU (Nx PySem.F.plainAttrs_list PySem.F.slot_list_append PySem.F.type_list_append Ex ho (T4 he RC (by rw[hs];rfl)) hbase hfew hline (by rw[hs];rfl) zh) hsw) λD σ H ⟨G,ρ,k,a⟩=>by
  unfold ZG at a;cases q0:ρ[i]? with
  |none=>rw[q0]at a;exact a.elim
  |some o0=>
   cases o0 with
   |none=>rw[q0]at a;exact a.elim
   |some sl0=>
    cases sl0 with
    |deep _ _=>rw[q0]at a;exact a.elim
    |pub d=>rw[q0]at a;exact a.elim
    |own aP=>
     rw[q0]at a;obtain⟨ad,vs0,h1,h2,h3,h4,h5⟩:=k.own i aP q0;refine⟨.ref ad,h1,.inl ⟨rfl,_,SqL.of h4⟩,G,ρ,k,?_⟩;unfold sB at a;cases z:f ρ with
     |bad=>rw[z]at a;exact a.elim
     |ok d ρ1=>
      rw[z]at a;dsimp only at a;intro v G' H' k' s' r';cases q:ρ1[i]? with
      |none=>rw[q]at a;exact a.elim
      |some o=>
       cases o with
       |none=>rw[q]at a;exact a.elim
       |some sl=>
        cases sl with
        |deep _ _=>rw[q]at a;exact a.elim
        |pub d=>rw[q]at a;exact a.elim
        |own ds=>
         rw[q]at a;dsimp only at a;split at a
         .rename_i hl
          obtain⟨ad',vs,g1,g2,g3,g4,g5⟩:=k'.own i ds q;rw[h1]at g1;cases g1;refine⟨ad,vs,v,rfl,rfl,g4,by rw[g5.length];exact QE hl lim,?_⟩;exact a σ G' _ (k'.change q h1 (g5.append (.cons r' .nil))) s'
         .exact a.elim
end
structure WC(K:Frag)(J:It)(ds:zn)(G1:Hp):Prop where
 go:∀i G H,Same G1 G->Same G H->i<ds.length->J.go i H
 stop:∀i G H,Same G1 G->Same G H->ds.length<=i->J.stop i H
 yld:∀i G H x H' d,Same G1 G->Same G H->ds[i]?=zd d->J.yld i H x H'->∃G',Ext G H G' H'/\Rep K G' x d
def iD(K:Frag)(B G0:Hp)(f:M zn):TI:=λσ H R=>∃G ρ,EOk K B G0 G H σ ρ/\match f ρ with
 |.ok ds ρ'=>∀J G' H',EOk K B G0 G' H' σ ρ'->Same G G'->WC K J ds G'->R J H'
 |.bad=>False
section
variable{X:Cx}{B G0:Hp}{KX:XW}{e a b c tg:Ur}{pos:Pos}{es rest:zq}{st:Stmt}{sts sts2:List Stmt}
noncomputable def Wj  (h:PI X tg e t)(i:∀σ H R,t' σ H R->t σ H R):PI X tg e t':=λpins s σ H R I q=>h pins s σ H R I (i σ H R q)
def tM.toI{K}{α γ}{R0}{f:M α}{g}{σ}{H}{R}{P:γ->Hp->Prop}(q:iD K B G0 (Kd f g) σ H R)
  (i:∀v H' G' ρ' x,EOk K B G0 G' H' σ ρ'->R0 G' v x->(match g x ρ' with
   |.ok ds ρ2=>∀J G2 H2,EOk K B G0 G2 H2 σ ρ2->Same G' G2->WC K J ds G2->R J H2
   |.bad=>False)->P v H'):tM K B G0 R0 f σ H P:=by
 obtain⟨G,ρ,k,a⟩:=q;refine⟨G,ρ,k,?_⟩;unfold Kd at a;cases z:f ρ with
 |bad=>rw[z]at a;exact a.elim
 |ok d ρ1=>
  rw[z]at a;intro v G' H' e s r;refine i v H' G' ρ1 d e r ?_;dsimp only at a;cases z2:g d ρ1 with
  |bad=>rw[z2]at a;exact a.elim
  |ok ds ρ2=>rw[z2]at a;exact λJ G2 H2 k2 s2 it=>a J G2 H2 k2 (s.trans s2) it
def wk{K}{G1}{ad}{vs}{ds}(h:SqL K G1 ad vs)(r:Reps K G1 vs ds):WC K (Itl K ad) ds G1 where
 go:=λi G H s1 s2 hi=>by
  have hi':i<vs.length:=by rw[r.length];simp_all
  exact⟨vs,vs[i],(s1.trans s2).seq h,Qe hi'⟩
 stop:=λi G H s1 s2 hi=>⟨vs,(s1.trans s2).seq h,by rw[r.length];simp_all⟩
 yld:=λi G H x H' d s1 s2 e y=>by obtain⟨rfl,y⟩:=y;obtain⟨v,e1,r1⟩:=r.get e;have:=y vs ((s1.trans s2).seq h);rw[e1]at this;cases this;exact⟨G,.refl s2,r1.mono s1⟩
noncomputable def YM(lo hi:Int):zn:=(Uw (hi-lo).toNat).map λ(k:Nat)=>.int (lo+k)
def YX(lo hi):(YM lo hi).length=(hi-lo).toNat:=by unfold YM;simp_all
def E7{K}{G1}(lo hi):WC K (Itr lo (hi-lo).toNat) (YM lo hi) G1 where
 go:=λi G H s1 s2 h=>by rw[YX]at h;exact h
 stop:=λi G H s1 s2 h=>by rw[YX]at h;exact h
 yld:=λi G H x H' d s1 s2 e y=>by
  obtain⟨rfl,rfl⟩:=y;unfold YM at e;rw[Qd]at e;have hi:i<(Uw (hi-lo).toNat).length:=by refine Nat.lt_of_not_le λz=>?_;rw[JD z]at e;cases e
  rw[Qe hi,List.getElem_range]at e;cases e;exact⟨G,.refl s2,.int _⟩
noncomputable def Pq:zn->Option zn
 |[.int j]=>if j<=1000000 /\ -1000000<=j then zd (YM 0 j)else zj
 |_=>zj
noncomputable def Po:zn->Option zn
 |[.int i,.int j]=>if j<=1000000 /\ -1000000<=j/\i<=1000000 /\ -1000000<=i then zd (YM i j)else zj
 |_=>zj
noncomputable def Xw(f:M zn):M zn:=Kd f λx=>Ka (Pq x)
noncomputable def Nn(f:M zn):M zn:=Kd f λx=>Ka (Po x)
def vM   (hg:Gl X "range")(hm:X.mg "range" = zj)(ha:PA X [a] (tDs X.K B G0 f))(hs:Uu [a] X.env=[(zm,eval a X.env)]:=by rfl) :
  PI X tg (.Call (.Name "range" p2) [a] [] pos) (iD X.K B G0 (Xw f)):=Wj (wR hg hm ha hs) λσ H R q=>tM.toI  q λv H' G' ρ' x k r a=>by
 cases z:Pq x with
 |none=>rw[z]at a;exact a.elim
 |some ds=>
  rw[z]at a;unfold Pq at z;split at z
  .split at z
   .rename_i j c
    cases z;obtain⟨w,rfl,r'⟩:=r.one_inv;refine⟨j,by rw[r'.int_inv],by lia,by lia,?_⟩;have it:=E7 (K:=X.K) (G1:=G') 0 j;rw[Int.sub_zero]at it;exact a _ G' H' k (.refl _) it
   simp_all
  simp_all
def vL  {p2}(hg:Gl X "range")(hm:X.mg "range" = zj)(ha:PA X [a,b] (tDs X.K B G0 f))(hs:Uu [a,b] X.env=[(zm,eval a X.env),(zm,eval b X.env)]:=by rfl)(hs2:Uu [b] X.env=[(zm,eval b X.env)]:=by rfl) :
  PI X tg (.Call (.Name "range" p2) [a,b] [] pos) (iD X.K B G0 (Nn f)):=Wj (wQ hg hm ha hs hs2) λσ H R q=>tM.toI  q λv H' G' ρ' x k r a=>by
 cases z:Po x with
 |none=>rw[z]at a;exact a.elim
 |some ds=>
  rw[z]at a;unfold Po at z;split at z
  .split at z
   .rename_i i j c
    cases z;obtain⟨w,w',rfl,r1,r2⟩:=r.two_inv;refine⟨i,j,by rw[r1.int_inv,r2.int_inv],⟨by lia,by lia,by lia,by lia⟩,?_⟩;exact a _ G' H' k (.refl _) (E7 i j)
   simp_all
  simp_all
noncomputable def Yu(n:Nat):zn->zn
 |[]=>[]
 |d::r=>.tuple [.int n,d]::Yu (n+1) r
theorem Yt:∀(n)(ds),(Yu n ds).length=ds.length
 |_,[]=>rfl
 |n,d::r=>by rw[Yu,QL,QL,Yt]
theorem Nf:∀(n)(ds)(i:Nat),(Yu n ds)[i]?=ds[i]?.map λd=>.tuple [.int ((n+i:Nat):Int),d]
 |_,[],i=>by simp[Yu]
 |n,d::r,0=>by simp[Yu]
 |n,d::r,i+1=>by
  rw[Yu,JX,JX,Nf _ r i];have:n+1+i=n+(i+1):=by lia
  rw[this]
def wj{K}{G1}{ad}{vs}{ds}(h:SqL K G1 ad vs)(r:Reps K G1 vs ds):WC K (Ite K ad) (Yu 0 ds) G1 where
 go:=λi G H s1 s2 hi=>by
  rw[Yt]at hi;have hi':i<vs.length:=by rw[r.length];exact hi
  exact⟨vs,vs[i],(s1.trans s2).seq h,Qe hi'⟩
 stop:=λi G H s1 s2 hi=>by rw[Yt]at hi;exact⟨vs,(s1.trans s2).seq h,by rw[r.length];exact hi⟩
 yld:=λi G H x H' d s1 s2 e y=>by
  obtain⟨p,v,hp,rfl,y,rfl⟩:=y;rw[Nf]at e;cases z:ds[i]? with
  |none=>rw[z]at e;cases e
  |some d0=>rw[z]at e;cases e;obtain⟨w,e1,r1⟩:=r.get z;have:=y vs ((s1.trans s2).seq h);rw[e1]at this;cases this;refine⟨upd G p _,Ext.new s2 hp,.tup (SqT.of Zp) (.cons ?_ (.cons ((r1.mono s1).mono (ZM (s2.free hp))) .nil))⟩;rw[QU];exact .int _
noncomputable def Pn:zn->Option zn
 |[.list ds]=>zd (Yu 0 ds)
 |_=>zj
noncomputable def YG(f:M zn):M zn:=Kd f λx=>Ka (Pn x)
def GP   {elts}{x1}{tp}(hg:Gl X "enumerate")(hm:X.mg "enumerate" = zj)(ha:PA X [a] (tDs X.K B G0 f))(hs:Uu [a] X.env=[(zm,eval a X.env)]:=by rfl) :
  PI X (.Tuple elts x1 tp) (.Call (.Name "enumerate" p2) [a] [] pos) (iD X.K B G0 (YG f)):=Wj (qk hg hm ha hs) λσ H R q=>tM.toI  q λv H' G' ρ' x k r a=>by
 cases z:Pn x with
 |none=>rw[z]at a;exact a.elim
 |some ds=>
  unfold Pn at z;split at z
  .obtain⟨w,rfl,r'⟩:=r.one_inv
   obtain⟨ad,vs,rfl,h1,r1⟩:=r'.lst_inv;exact⟨ad,vs,rfl,k.gh.seq h1,a _ G' H' k (.refl _) (wj h1 r1)⟩
  simp_all
noncomputable def TQ(s:D->UU->zy)(g:SM):zn->SM
 |[],ρ=>.nx ρ
 |d::r,ρ=>match s d ρ with
  |none=>.bad
  |some ρ1=>match g ρ1 with
   |.nx ρ2=>TQ s g r ρ2
   |.ct ρ2=>TQ s g r ρ2
   |.bk ρ2=>.nx ρ2
   |.rt d=>.rt d
   |.ro ds=>.ro ds
   |.ex ρ2 d=>.ex ρ2 d
   |.bad=>.bad
noncomputable def Ku(f:M zn)(s:D->UU->zy)(g:SM):SM:=sB f λds=>TQ s g ds
def NR{iter:Ur}{body:List Stmt}{f:M zn}{s}{g:SM}(hp:PassesOwn (model X.prog X.w) X.A X.env X.xe)(hc:X.calm=zk)(hi:PI X tg iter (iD X.K B G0 f))(hg:PG X tg (tG X.K B G0 s))(hb:PSs X body (tS X.K B G0 KX g))
  (hs:∀x,UK iter X.env x=pure x:=by intro _;rfl):PS X (.For tg iter body [] pos) (tS X.K B G0 KX (Ku f s g)):=
 ZP (B5 hp hc hi hg hb hs) λDn σ H ⟨G,ρ,k,a⟩=>by
  refine⟨G,ρ,k,?_⟩;unfold Ku sB at a;cases z:f ρ with
  |bad=>rw[z]at a;exact a.elim
  |ok ds ρ1=>
   rw[z]at a;intro J G1 H1 k1 s1 it;refine⟨λi m σ' H'=>m=ds.length-i/\∃G' ρ',EOk X.K B G0 G' H' σ' ρ'/\Same G1 G'/\aftS X.K B G0 KX (TQ s g (ds.drop i) ρ') G' Dn,⟨ds.length,by lia,G1,ρ1,k1,.refl _,by rw[List.drop_zero];exact aftS.mono s1 a⟩,?_⟩;rintro i m σ' H' ⟨rfl,G',ρ',k',s',a'⟩;by_cases hi:i<ds.length
   .right
    refine⟨it.go i G' H' s' k'.gh hi,λσ2 H2=>∃G2 ρ2,EOk X.K B G0 G2 H2 σ2 ρ2/\Same G1 G2/\aftS X.K B G0 KX _ G2 Dn,λσ2 H2 h2=>⟨ds.length-(i+1),by lia,rfl,h2⟩,λx H2 y=>?_⟩;obtain⟨G2,ex,rx⟩:=it.yld i G' H' x H2 ds[i] s' k'.gh (Qe hi) y;rw[Jr hi,TQ]at a';cases z2:s ds[i] ρ' with
    |none=>rw[z2]at a';exact a'.elim
    |some ρ2=>
     rw[z2]at a';dsimp only at a';refine⟨G2,ρ',ds[i],ρ2,k'.ext ex,rx,z2,λσ3 G3 H3 k3 s3=>⟨G3,ρ2,k3,?_⟩⟩;have s13:Same G1 G3:=(s'.trans ex.g).trans s3;cases z3:g ρ2 with
     |nx ρ3=>rw[z3]at a';exact λσ4 G4 H4 k4 s4=>⟨G4,ρ3,k4,s13.trans s4,aftS.mono ((ex.g.trans s3).trans s4) a'⟩
     |ct ρ3=>rw[z3]at a';exact λσ4 G4 H4 k4 s4=>⟨G4,ρ3,k4,s13.trans s4,aftS.mono ((ex.g.trans s3).trans s4) a'⟩
     |bk ρ3=>rw[z3]at a';exact λσ4 G4 H4 k4 s4=>a' σ4 G4 H4 k4 ((ex.g.trans s3).trans s4)
     |rt d=>rw[z3]at a';exact a'
     |ro ds=>rw[z3]at a';exact a'
     |ex ρ3 d=>rw[z3]at a';exact λv σ4 G4 H4 k4 s4 r4=>a' v σ4 G4 H4 k4 ((ex.g.trans s3).trans s4) r4
     |bad=>rw[z3]at a';exact a'.elim
   .left
    rw[List.drop_eq_nil_of_le (by lia)]at a';exact⟨it.stop i G' H' s' k'.gh (by lia),a' σ' G' H' k' (.refl _)⟩
def ki    {ps}{F}{g}{x:Str}{p2:Pos}{n:Nat}(FK:FnOk X.prog X.w X.K X.mg X.base CX0 k f fd ps (spD X.K n F))(hr:Room k X.A)(hg:Gl X x)(hm:X.mg x=zd (.ref f))(hk:PySem.W.keepIn X.K (.ref f)=zk)
  (hb:Tu X.K fd ps []) (ha:PA X (e::es) (tDs X.K B G0 g)) (hn:(e::es).length=n) (hdb:(x==("__debug__" : Str))=zm:=by decide) (he:Uu (e::es) X.env=(zm,eval e X.env)::Uu es X.env:=by rfl) (hpl:(backTo pos (Uu es X.env)).any (·.1)=zm:=by rfl) :
  PE X (.Call (.Name x p2) (e::es) [] pos) (tD X.K B G0 (Kd g λxs=>if xs.length=n then Ka (F xs)else λ_=>.bad)):=
 Kz (qw FK hr hg hm hk hb .nil Dx ha hdb he hpl) λσ H Q q=>tM.one  q λv H2 G ρ ds k r a=>by
  split at a
  .rename_i hl
   obtain⟨d,e,a⟩:=a.opt;exact⟨G,ds,d,by rw[Jd,r.length];exact hl,k.gh,by rw[Jd];exact r,e,λw G' H' ex rw=>a.done k ex rw⟩
  .exact a.elim
end
noncomputable def WI(N:List Str)(ds:zn):UU:=(ds.map λd=>zd (Sl.pub d))++Ux (N.length-ds.length) zj
def kh{K}{N:List Str}{G H:Hp}{vs:List V}{ds:zn}(s:Same G H)(r:Reps K G vs ds):EOk K H G G H (L2.WM N vs) (WI N ds) where
 bh:=.refl _
 gh:=s
 g0:=.refl _
 np:=λ_ _ _ n=>n
 len:=by unfold L2.WM WI;rw[Qi,Qi,Qb,Qb,QF,QF,r.length]
 pub:=λi d q=>by
  unfold WI at q;unfold L2.WM;by_cases hi:i<ds.length
  .rw[Qw (by rw[Qb];exact hi),Qd]at q
   cases z:ds[i]? with
   |none=>rw[z]at q;cases q
   |some d'=>rw[z]at q;cases q;obtain⟨v,e1,r1⟩:=r.get z;refine⟨v,?_,r1⟩;rw[Qw (by rw[Qb,r.length];exact hi),Qd,e1];rfl
  .rw[Qx (by rw[Qb];lia),Qz]at q
   split at q<;>cases q
 own:=λi es q=>by
  unfold WI at q;by_cases hi:i<ds.length
  .rw[Qw (by rw[Qb];exact hi),Qd]at q
   cases z:ds[i]? with
   |none=>rw[z]at q;cases q
   |some d'=>rw[z]at q;cases q
  .rw[Qx (by rw[Qb];lia),Qz]at q
   split at q<;>cases q
 sep:=λi j a es fs q _ _ _=>by
  unfold WI at q;by_cases hi:i<ds.length
  .rw[Qw (by rw[Qb];exact hi),Qd]at q
   cases z:ds[i]? with
   |none=>rw[z]at q;cases q
   |some d'=>rw[z]at q;cases q
  .rw[Qx (by rw[Qb];lia),Qz]at q
   split at q<;>cases q
 dp:=by
  have key:∀{i:Nat}{s:Sl},(WI N ds)[i]?=zd (zd s)->∃d,s=.pub d:=λ{i s} q=>by
   unfold WI at q;by_cases hi:i<ds.length
   .rw[Qw (by rw[Qb];exact hi),Qd]at q
    cases z:ds[i]? with
    |none=>rw[z]at q;cases q
    |some d'=>rw[z]at q;cases q;exact⟨_,rfl⟩
   .rw[Qx (by rw[Qb];lia),Qz]at q
    split at q<;>cases q
  exact .of (λi p d q=>by obtain⟨_,e⟩:=key q;cases e) λi ds q=>by obtain⟨_,e⟩:=key q;cases e
noncomputable def U8(N:List Str)(g:SM)(ds:zn):zp:=match g (WI N ds)with
 |.rt d=>zd d
 |.nx _=>zd .none
 |_=>zj
def okD   {K}{mg}{base:Heap}{x qual:Str}{st:Stmt}{f:Up}{fd:Uq}{N ps}{k n:Nat}{g:SM}(F:Fun K x qual st f fd)(S:PM N ps (Yo st))(hn:ps.length=n)
  (der:∀(cdv:Ul)(A:Around)(outer)(s:Um)(H:Hp)(E:XK)(B G0:Hp),Room k (A.deeper (envOfC qual (Yo st) s.heap.objs.size f cdv)) ->
   PSs (XS CX0 P w K mg base N qual (Yo st) f cdv A outer s H E).nox (Vd st) (tS K B G0 KX0 g)):FnOk P w K mg base CX0 (k+1) f fd ps (spD K n (U8 N g)):=by
 refine F.ok S (λvs H Q E h=>?_) (λcdv A outer s H vs Q E hr h=>?_)
 .obtain⟨_,_,_,hl,_⟩:=h
  rw[hl,hn]
 .obtain⟨G,ds,d,hl,sg,r,hF,q⟩:=h
  refine⟨_,der cdv A outer s H E H G hr,G,WI N ds,kh sg r,?_⟩;unfold U8 at hF;cases z:g _ with
  |rt d'=>rw[z]at hF;cases hF;exact λv G' H' ex rr=>q v G' H' ex rr
  |nx ρ=>rw[z]at hF;cases hF;exact λσ' G' H' k' _=>q .non G' H' k'.exit .non
  |ro ds=>rw[z]at hF;cases hF
  |bk ρ=>rw[z]at hF;cases hF
  |ct ρ=>rw[z]at hF;cases hF
  |ex ρ d=>rw[z]at hF;cases hF
  |bad=>rw[z]at hF;cases hF
section
variable{X:Cx}{B G0:Hp}{e a b c tg:Ur}{pos:Pos}{es rest:zq}
noncomputable def oNeg:D->zp
 |.int i=>zd (.int (-i))
 |_=>zj
noncomputable def ZH(f:M D):M D:=Kd f λx=>Ka (oNeg x)
def GO  (h:PE X a (tD X.K B G0 f)):PE X (.UnaryOp .USub a pos) (tD X.K B G0 (ZH f)):=
 Kz (DH BY h) λσ H Q q=>tM.one  q λv H2 G ρ x k r a=>by
  cases x with
  |int i=>exact⟨i,r.int_inv,aft.now a k (.int _)⟩
  |_=>exact a.elim
end
def Def(P:Uo)(w:World)(K:Frag)(mg:Str->zw)(base:Heap)(x:Str)(k n:Nat)(F:zn->zp):Prop:=
 ∃(f:Up)(fd:Uq)(ps:List Str),mg x=zd (.ref f)/\PySem.W.keepIn K (.ref f)=zk/\Tu K fd ps []/\FnOk P w K mg base CX0 k f fd ps (spD K n F)
noncomputable def UX(n:Nat)(F:zn->zp)(g:M zn):M D:=Kd g λxs=>if xs.length=n then Ka (F xs)else λ_=>.bad
section
variable{X:Cx}{B G0:Hp}{e:Ur}{pos:Pos}{es:zq}
def As    {x}{p2}(d:Def X.prog X.w X.K X.mg X.base x k n F)(hr:Room k X.A)(hg:Gl X x)(ha:PA X (e::es) (tDs X.K B G0 g))(hn:(e::es).length=n:=by rfl)
  (hdb:(x==("__debug__" : Str))=zm:=by decide) (he:Uu (e::es) X.env=(zm,eval e X.env)::Uu es X.env:=by rfl) (hpl:(backTo pos (Uu es X.env)).any (·.1)=zm:=by rfl) :
  PE X (.Call (.Name x p2) (e::es) [] pos) (tD X.K B G0 (UX n F g)):=by
 obtain⟨f,fd,ps,h1,h2,h3,h4⟩:=d;exact ki h4 hr hg h1 h2 h3 ha hn hdb he hpl
end
def Def.mk   {K}{mg}{base}{x}{k n}{F}{st}{f}{fd}{ps}(hm:mg x=zd (.ref f))(FU:Fun K x x st f fd)(hb:Tu K fd ps [])(ok:FnOk P w K mg base CX0 k f fd ps (spD K n F)) :
  Def P w K mg base x k n F:=⟨f,fd,ps,hm,FU.kp,hb,ok⟩
def CJ{K}{H}{a}{ns:zo}{F}{E}(hS:SqL K H a (ns.map V.int))(h:F [.list (ns.map int)]=zd (.bool zk)):spD K 1 F [.ref a] H (λv _=>v=.bl zk) E:=
 ⟨H,[.list _],.bool zk,rfl,.refl _,.cons (.lst hS (Reps.ints ns)) .nil,h,λ_ _ _ _ r=>r.bl_inv⟩
end DL
namespace L2
open PySem PySem.Spec PyProof.Rows
theorem mem_of_lookup   : ∀{l:List (Str×NameKind)},l.lookup x=zd k->(x,k)∈l
 |[],h=>by cases h
 |(y,j)::r,h=>by
  rw[Q6]at h;split at h
  .simp_all
  .exact Qj _ (mem_of_lookup h)
theorem La{env:Env}:∀(l:List (Str×NameKind))(acc:List (Str×Up)),(∀y∈l,y.2=.free->∃c,env.cells.lookup y.1=zd c) ->
  ∃cl,(forIn l acc (λx r=>if(x.2==NameKind.free)=zk then(do let a ←cellOf env x.1;pure (ForInStep.yield ((x.1,a)::r)))else pure (ForInStep.yield r)):Sem (List (Str×Up)))=pure cl /\
   (∀x c,cl.lookup x=zd c->acc.lookup x=zd c∨env.cells.lookup x=zd c)/\(∀y∈l,y.2=.free->∃c,cl.lookup y.1=zd c)/\(∀x c,acc.lookup x=zd c->∃c',cl.lookup x=zd c')
 |[],acc,_=>⟨acc,rfl,λ_ _ h=>.inl h,λ_ h=>absurd h (by simp),λx c h=>⟨c,h⟩⟩
 |(n,k)::r,acc,h=>by
  by_cases hk:k=.free
  .subst hk
   obtain⟨c,hc⟩:=h (n,.free) Ql zh;obtain⟨cl,e,p1,p2,p3⟩:=La r ((n,c)::acc) λy hy=>h y (Qj _ hy)
   have hco:cellOf env n=pure c:=by unfold cellOf;rw[hc]
   have key:∀x c',((n,c)::acc).lookup x=zd c'->acc.lookup x=zd c'∨env.cells.lookup x=zd c':=λx c' q=>by
    rw[Q6]at q;split at q
    .rename_i e1
     cases q;have:x=n:=by simpa using e1
     subst this;exact .inr hc
    .exact .inl q
   have own:((n,c)::acc).lookup n=zd c:=by simp
   refine⟨cl,?_,λx c' q=>?_,λy hy hf=>?_,λx c' q=>?_⟩
   .rw[List.forIn_cons]
    have:(if(((n,NameKind.free):Str×NameKind).2==NameKind.free)=zk then(do let a ←cellOf env n;pure (ForInStep.yield ((n,a)::acc)))else pure (ForInStep.yield acc):Sem _)=pure (ForInStep.yield ((n,c)::acc)):=by rw[hco];rfl
    refine Eq.trans ?_ e;rw[this];rfl
   .rcases p1 x c' q with z|z
    .exact key x c' z
    .exact .inr z
   .rcases QB.mp hy with z|z
    .subst z
     exact p3 n c own
    .exact p2 y z hf
   .by_cases hx:x=n
    .subst hx;exact p3 x c own
    .refine p3 x c' ?_
     have hb:(x==n)=zm:=by simpa using hx
     rw[Q6,hb];exact q
  .obtain⟨cl,e,p1,p2,p3⟩:=La r acc λy hy=>h y (Qj _ hy)
   refine⟨cl,?_,p1,λy hy hf=>?_,p3⟩
   .rw[List.forIn_cons]
    have hb:(k==NameKind.free)=zm:=by cases k<;>first|rfl|exact absurd zh hk
    refine Eq.trans ?_ e;dsimp only;rw[hb,QH (by decide)];rfl
   .rcases QB.mp hy with z|z
    .subst z;exact absurd hf hk
    .exact p2 y z hf
def wg   (h:∀y∈scope.names,y.2=.free->∃c,env.cells.lookup y.1=zd c) :
  ∃cl,closureFor scope env=pure cl/\(∀x c,cl.lookup x=zd c->env.cells.lookup x=zd c)/\∀y∈scope.names,y.2=.free->∃c,cl.lookup y.1=zd c:=by
 obtain⟨cl,e,p1,p2,_⟩:=La scope.names [] h;refine⟨cl,?_,λx c q=>(p1 x c q).elim (λz=>by cases z) id,p2⟩;have e2:((forIn scope.names [] (λx r=>if(x.2==NameKind.free)=zk then(do let a ←cellOf env x.1;pure (ForInStep.yield ((x.1,a)::r)))else pure (ForInStep.yield r)):Sem _) >>= λs=>pure s)=pure cl:=by rw[e];rfl
 exact e2
theorem E6{env:Env}{x}{k}:∀{names:List (Str×NameKind)},(names.map λ(n,k)=>if(k==NameKind.free&&env.scope.kind==.function&&env.kindOf n==zd .cell)then(n,NameKind.cell)else(n,k)).lookup x=zd k ->
  names.lookup x=zd k∨(names.lookup x=zd .free/\k=.cell)
 |[],h=>by cases h
 |(n,j)::r,h=>by
  have ih:=@E6 env x k r;have h:List.lookup x ((if _=zk then(n,NameKind.cell)else(n,j))::_)=zd k:=h;cases hx:x==n with
  |true=>
   by_cases hc:(j==NameKind.free&&env.scope.kind==.function&&env.kindOf n==zd .cell)=zk
   .rw[Qu hc]at h
    simp only[Q6,hx]at h⊢;cases h;simp only[QM]at hc;have:j=.free:=by have:=hc.1.1;cases j<;>first|rfl|cases this
    subst this;exact .inr ⟨rfl,rfl⟩
   .rw[QH hc]at h
    simp only[Q6,hx]at h⊢;exact .inl h
  |false=>
   by_cases hc:(j==NameKind.free&&env.scope.kind==.function&&env.kindOf n==zd .cell)=zk
   .rw[Qu hc]at h
    simp only[Q6,hx]at h⊢;exact ih h
   .rw[QH hc]at h
    simp only[Q6,hx]at h⊢;exact ih h
theorem Lm{env:Env}{x}:∀{names:List (Str×NameKind)},names.lookup x=zd .free ->
  (names.map λ(n,k)=>if(k==NameKind.free&&env.scope.kind==.function&&env.kindOf n==zd .cell)then(n,NameKind.cell)else(n,k)).lookup x=zd .free ∨
  (names.map λ(n,k)=>if(k==NameKind.free&&env.scope.kind==.function&&env.kindOf n==zd .cell)then(n,NameKind.cell)else(n,k)).lookup x=zd .cell
 |[],h=>by cases h
 |(n,j)::r,h=>by
  have ih:=@Lm env x r;show List.lookup x ((if _=zk then(n,NameKind.cell)else(n,j))::_)=_∨List.lookup x ((if _=zk then(n,NameKind.cell)else(n,j))::_)=_;cases hx:x==n with
  |true=>
   simp only[Q6,hx]at h;cases h;by_cases hc:(NameKind.free==NameKind.free&&env.scope.kind==.function&&env.kindOf n==zd .cell)=zk
   .rw[if_pos hc];simp[List.lookup_cons,hx]
   .rw[if_neg hc];simp[List.lookup_cons,hx]
  |false=>
   simp only[Q6,hx]at h;by_cases hc:(j==NameKind.free&&env.scope.kind==.function&&env.kindOf n==zd .cell)=zk
   .rw[Qu hc];simp only[Q6,hx];exact ih h
   .rw[QH hc];simp only[Q6,hx];exact ih h
theorem TJ{env:Env}{x}{k}(hk:k≠.free):∀{names:List (Str×NameKind)},names.lookup x=zd k ->
  (names.map λ(n,k)=>if(k==NameKind.free&&env.scope.kind==.function&&env.kindOf n==zd .cell)then(n,NameKind.cell)else(n,k)).lookup x=zd k
 |[],h=>by cases h
 |(n,j)::r,h=>by
  have ih:=@TJ env x k hk r;show List.lookup x ((if _=zk then(n,NameKind.cell)else(n,j))::_)=_;cases hx:x==n with
  |true=>
   simp only[Q6,hx]at h;cases h;have:(k==NameKind.free)=zm:=by cases k<;>first|rfl|exact absurd zh hk
   rw[if_neg (by rw[this];simp)];simp[List.lookup_cons,hx]
  |false=>
   simp only[Q6,hx]at h;by_cases hc:(j==NameKind.free&&env.scope.kind==.function&&env.kindOf n==zd .cell)=zk
   .rw[Qu hc];simp only[Q6,hx];exact ih h
   .rw[QH hc];simp only[Q6,hx];exact ih h
structure ClOk(env:Env)(scope:Scope)(cl:List (Str×Up))(L:Up)(h':Heap):Prop where
 old:∀x c,cl.lookup x=zd c->env.cells.lookup x=zd c∨(L<c/\h'.IsCell c zj)
 fre:∀x,scope.names.lookup x=zd .free->∃c,cl.lookup x=zd c/\env.cells.lookup x=zd c
 cel:∀x,scope.names.lookup x=zd .cell->∃c,cl.lookup x=zd c/\L<c
 inj:∀x y c,cl.lookup x=zd c->cl.lookup y=zd c->L<c->x=y
theorem P8:∀(names)(n)(acc),cellsFrom n names acc=cellsFrom n names []++acc
 |[],_,_=>rfl
 |(x,k)::r,n,acc=>by
  unfold cellsFrom;split
  .rw[P8 r _ _,P8 r _ [(x,n)],Q5];rfl
  .exact P8 r n acc
theorem Lk:∀(names)(n)(x)(c),(x,c)∈cellsFrom n names []->(x,NameKind.cell)∈names
 |[],_,_,_,h=>by cases h
 |(y,k)::r,n,x,c,h=>by
  unfold cellsFrom at h;split at h
  .rw[P8]at h
   rcases QG.mp h with h|h
   .exact Qj _ (Lk r _ x c h)
   grind
  .exact Qj _ (Lk r _ x c h)
def CI{M:Model}{A:Around}{E}{scope:Scope}{env:Env}{bj:List (Str×Up)}{s:Um}{Q:Env->Um->Prop}(bi:∀x c,bj.lookup x=zd c->env.cells.lookup x=zd c)(cl2:∀y∈scope.names,y.2=.free->∃c,bj.lookup y.1=zd c)(hn:∀y∈scope.names,scope.names.lookup y.1=zd y.2)
  (hlt:∀x c,env.cells.lookup x=zd c->c<s.heap.objs.size)
  (h:∀h' cl,h'.Ns s.heap.objs.size (λ_=>zj)->(∀b o,s.heap.get? b=zd o->h'.get? b=zd o)->ClOk env scope cl s.heap.objs.size h'->Q (newEnv scope s.heap.objs.size env.globals cl env.qual zj .none (zd env) builtinsNs) {s with heap:=h'}) :
  Ut M A (newFunctionEnv scope env.globals bj [] env.qual zj .none (zd env)) Q E s:=by
 simp only[newFunctionEnv,Option.isSome_some,if_true];refine Qf (wpAny_alloc ?_);refine wpAny_bind (wpAny_layCells _ (λname kind cells=>by cases hkc:kind==NameKind.cell<;>simp[hkc]) _ _ _ _ ?_);have ok:=cellsFrom_ok scope.names (s.heap.push {cls:=.type "dict", data:=.dict #[]}) (s.heap.objs.size+1) [] ⟨λ_ _ hm=>(nomatch hm),List.Pairwise.nil⟩ (by rw[JF];exact Qp _);rw[JF]at ok;rw[JF ..];rw[List.forIn_nil];refine Qf (Qn (Qn (h _ _ ((Heap.Ns.new s.heap (.type "dict")).keeps (pushCells_keeps _ _)) (λb o e=>pushCells_keeps _ _ b o (Qk _ e)) ?_)));have look:∀x,(cellsFrom (s.heap.objs.size+1) scope.names bj).lookup x=((cellsFrom (s.heap.objs.size+1) scope.names []).lookup x).or (bj.lookup x):=λx=>by rw[P8,List.lookup_append]
 have own:∀x c,(cellsFrom (s.heap.objs.size+1) scope.names []).lookup x=zd c->scope.names.lookup x=zd .cell:=λx c e=>hn _ (Lk _ _ _ _ (Jh e))
 refine⟨λx c e=>?_,λx e=>?_,λx e=>?_,λx y c e1 e2 hc=>?_⟩
 .rw[look]at e
  cases z:(cellsFrom (s.heap.objs.size+1) scope.names []).lookup x with
  |none=>rw[z]at e;exact .inl (bi x c e)
  |some c'=>rw[z]at e;cases e;obtain⟨h1,h2⟩:=ok.empty x c (Jh z);exact .inr ⟨h2,h1⟩
 .obtain⟨c,hc⟩:=cl2 (x,.free) (mem_of_lookup e) zh
  refine⟨c,?_,bi x c hc⟩;rw[look];cases z:(cellsFrom (s.heap.objs.size+1) scope.names []).lookup x with
  |none=>exact hc
  |some c'=>have:=own x c' z;rw[e]at this;cases this
 .obtain⟨c,hc⟩:=MW  e
  refine⟨c,by rw[look,hc];rfl,(ok.empty x c (Jh hc)).2⟩
 .rw[look]at e1 e2
  cases z1:(cellsFrom (s.heap.objs.size+1) scope.names []).lookup x with
  |none=>rw[z1]at e1;exact absurd (hlt x c (bi x c e1)) (Nat.lt_asymm hc)
  |some c1=>
  cases z2:(cellsFrom (s.heap.objs.size+1) scope.names []).lookup y with
  |none=>rw[z2]at e2;exact absurd (hlt y c (bi y c e2)) (Nat.lt_asymm hc)
  |some c2=>rw[z1]at e1;rw[z2]at e2;cases e1;cases e2;exact name_of_addr ok.apart (Jh z1) (Jh z2)
def Cx.blk(X:Cx)(N':List Str)(scope:Scope)(cl:List (Str×Up))(C:Up)(s₀:Um)(H₀:Hp)(ex:zu):Cx:=
 {X with N:=N',s₀:=s₀,H₀:=H₀,env:=compEnvC scope cl C X.env,outer:=X.stack,ex:=ex,fn:=λx=>scope.names.lookup x==zd .cell,xe:=λ_ _=>False}
section
variable{X:Cx}{N':List Str}{scope:Scope}{cl:List (Str×Up)}{C:Up}{s₀:Um}{H₀:Hp}{ex:zu}{x:Str}
noncomputable def visK:Option NameKind->Bool
 |some .local=>zk|some .free=>zk|some .cell=>zk|_=>zm
def Ar(h:visK (scope.names.lookup x)=zk):Vis (X.blk N' scope cl C s₀ H₀ ex).env.scope x:=by
 cases z:scope.names.lookup x with
 |none=>rw[z]at h;cases h
 |some y=>
  rw[z]at h;cases y with
  | «local»=>exact .inl (TJ (by decide) z)
  |cell=>exact .inr (.inl (TJ (by decide) z))
  |free=>
   rcases Lm  z with z|z
   .exact .inr (.inr z)
   .exact .inr (.inl z)
  |_=>cases h
noncomputable def locK:Option NameKind->Bool
 |some .local=>zk|some .cell=>zk|_=>zm
def RP(h:locK (scope.names.lookup x)=zk):Loc (X.blk N' scope cl C s₀ H₀ ex).env.scope x/\((X.blk N' scope cl C s₀ H₀ ex).fn x=zk∨(X.blk N' scope cl C s₀ H₀ ex).env.scope.names.lookup x=zd .local):=by
 cases z:scope.names.lookup x with
 |none=>rw[z]at h;cases h
 |some y=>
  rw[z]at h;cases y with
  | «local»=>exact⟨.inl (TJ (by decide) z),.inr (TJ (by decide) z)⟩
  |cell=>exact⟨.inr (TJ (by decide) z),.inl (by show(scope.names.lookup x==zd .cell)=zk;rw[z];rfl)⟩
  |_=>cases h
def CH(h:scope.names.lookup x=zd .globalImplicit):Gl (X.blk N' scope cl C s₀ H₀ ex) x:=TJ (by decide) h
end
noncomputable def PZ(names:List (Str×NameKind))(N N2:List Str)(k:Nat):Bool:=
 N2.length==N.length+k&&(Uw N2.length).all λi=>match N2[i]? with
  |none=>zk
  |some x=>match names.lookup x with
   |some .free=>N[i]?==zd x
   |some .local=>decide (N.length<=i)&&decide (i<N.length+k)
   |some .cell=>decide (N.length<=i)&&decide (i<N.length+k)
   |_=>zk
def yL    (h:PZ names N N2 k=zk) :
  N2.length=N.length+k/\∀(i) x,N2[i]?=zd x->(names.lookup x=zd .free->N[i]?=zd x)/\(names.lookup x=zd .local∨names.lookup x=zd .cell->N.length<=i/\i<N.length+k):=by
 unfold PZ at h;simp only[QM,beq_iff_eq,Q2,QN]at h;refine⟨h.1,λi x e=>?_⟩;have hi:=(Qg.mp e).1;have:=h.2 i hi;rw[e]at this;refine⟨λq=>?_,λq=>?_⟩
 .simp_all
 .rcases q with q|q<;>(simp only[q]at this;simpa using this)
def Inv.enter{X:Cx}{pins:List (Up×Obj)}{σ:St}{H:Hp}{s3:Um}(I:Inv X pins σ H s3){scope:Scope}{cl:List (Str×Up)}{N2:List Str}{k:Nat}{h':Heap}{fp:zu}{t':Nat}{m0:Str->zw}
  (hb:PZ scope.names X.N N2 k=zk) (hkind:scope.kind=.function)
  (hfree:∀y∈scope.names,y.2=.free->X.env.scope.names.lookup y.1=zd .cell∨X.env.scope.names.lookup y.1=zd .free)
  (hc:ClOk X.env scope cl s3.heap.objs.size h')
  (hn:h'.Ns s3.heap.objs.size m0) (hk:∀b o,s3.heap.get? b=zd o->h'.get? b=zd o) (hf:∀b∈fp,ZY X pins H b) (hfo:∀b∈fp,∃o,s3.heap.get? b=zd o) :
  Inv (X.blk N2 scope cl s3.heap.objs.size s3 H fp) pins (σ++Ux k zj) H {s3 with heap:=h',toks:=t'}:=by
 obtain⟨hl,hN⟩:=yL hb;have lt:∀b o,s3.heap.get? b=zd o->b≠s3.heap.objs.size:=λb o e=>QS (Qh e);have ofl:∀x,scope.names.lookup x=zd .free->(x,NameKind.free)∈scope.names:=λx h=>mem_of_lookup h;have kinv:∀x kk,(X.blk N2 scope cl s3.heap.objs.size s3 H fp).env.scope.names.lookup x=zd kk->scope.names.lookup x=zd kk∨(scope.names.lookup x=zd .free/\kk=.cell):=λx kk h=>E6 (env:=X.env) h
 have isfc:∀x,(X.blk N2 scope cl s3.heap.objs.size s3 H fp).env.scope.names.lookup x=zd .cell∨(X.blk N2 scope cl s3.heap.objs.size s3 H fp).env.scope.names.lookup x=zd .free->scope.names.lookup x=zd .free∨scope.names.lookup x=zd .cell:=λx h=>by
  rcases h with h|h
  .rcases kinv x _ h with z|z
   .exact .inr z
   .exact .inl z.1
  .rcases kinv x _ h with z|z
   .exact .inl z
   .exact .inl z.1
 have lto   :=λx c e=>let ⟨_,q⟩:=I.cell x c e;q.lt
 have ok:(X.blk N2 scope cl s3.heap.objs.size s3 H fp).Ok:=
  {
   mod:=I.ok.mod
   kind:=hkind
   glob:=I.ok.glob
   blt:=I.ok.blt
   above:=Qp _
   inj:=λx y c a b=>by
    rcases hc.old x c a with q|⟨q,_⟩
    .rcases hc.old y c b with q'|⟨q',_⟩
     .exact I.ok.inj x y c q q'
     .exact absurd (lto x c q) (Nat.lt_asymm q')
    .exact hc.inj x y c a b q
   has:=λx h=>by
    rcases isfc x h with z|z
    .exact let ⟨c,e,_⟩:=hc.fre x z;⟨c,e⟩
    .exact let ⟨c,e,_⟩:=hc.cel x z;⟨c,e⟩
   cab:=λx c h e=>by
    have z:scope.names.lookup x=zd .cell:=by have h:(scope.names.lookup x==zd .cell)=zk:=h;simpa using h
    obtain⟨c',e',l⟩:=hc.cel x z;have e:cl.lookup x=zd c:=e;rw[e]at e';cases e';exact Uh l
   hd:=I.ok.hd
   frames:=I.ok.frames
   stk:=.inl zh
   exf:=λb hb=>⟨let ⟨o,e⟩:=hfo b hb;lt b o e,λx c e=>by
    rcases hc.old x c e with q|⟨q,_⟩
    .exact(hf b hb).2.2.2.2.1 x c q
    .obtain⟨o,e'⟩:=hfo b hb
     exact JE (Nat.lt_trans (Qh e') q)⟩
   bs:=I.bs
   bsz:=QP I.ok.bsz I.sz
   noex:=λb o e hb=>by
    rcases(hf b hb).2.2.2.1 with z|z
    .exact I.ok.noex b o e z
    .exact absurd (QE (Qh e) (QP I.ok.bsz z)) (Jo _)
   exfs:=λb hb hx=>by
    rcases QB.mp (I.stkSub b hx)with z|z
    .exact(hf b hb).2.1 z
    .exact(hf b hb).2.2.1 z
   funs:=I.stack
   frf:=I.stkFree}
 refine⟨ok,rfl,I.bare,Un.kept hk,⟨m0,hn,λi x v e1 e2 e3=>?_⟩,λx c e=>?_,I.hok.fresh (Qp _),λx c e=>(hc.old x c e).elim (I.freeC x c) λq=>I.hok.fresh (Uh q.1),λp hp=>?_,I.hok.kept hk,?_⟩
 .have nl:¬_:=λz=>by
   obtain⟨g1,g2⟩:=(hN i x e1).2 z;rw[←I.len]at g1 g2;rw[Qx g1,Qz]at e2;split at e2<;>cases e2
  have fr:scope.names.lookup x=zd .free:=by
   rcases e3 with z|z
   .rcases kinv x _ z with q|q
    .exact absurd (.inl q) nl
    .cases q.2
   .rcases isfc x z with q|q
    .exact q
    .exact absurd (.inr q) nl
  have eN:=(hN i x e1).1 fr;have hi:i<σ.length:=by rw[I.len];exact(Qg.mp eN).1
  rw[Qw hi]at e2;obtain⟨m,hm,hlk⟩:=I.loc;have hkd:=hfree _ (ofl x fr) zh;obtain⟨u,r,l⟩:=hlk i x v eN e2 (.inr hkd);refine⟨u,r,.inr ⟨?_,?_⟩⟩
  .rcases e3 with z|z|z
   .rcases kinv x _ z with q|q
    .exact absurd (.inl q) nl
    .cases q.2
   .exact .inl z
   .exact .inr z
  .rcases l with l|⟨_,c,ec,z⟩
   .have:X.env.scope.names.lookup x=zd .local:=l.1
    rcases hkd with q|q<;>(dsimp only at q;rw[this]at q;cases q)
   .obtain⟨c',ec',this⟩:=hc.fre x fr
    rw[ec]at this;cases this;obtain⟨o,ho,hd⟩:=z;exact⟨c,ec',o,hk c o ho,hd⟩
 .rcases hc.old x c e with q|⟨_,q⟩
  .obtain⟨v,o,ho,hd⟩:=I.cell x c q
   exact⟨v,o,hk c o ho,hd⟩
  .exact⟨_,q⟩
 .obtain⟨e,n,ne,nf,d⟩:=I.pin p hp
  refine⟨hk _ _ e,n,lt _ _ e,λz=>?_,d⟩;rcases QB.mp (I.stkSub _ z)with q|q
  .exact ne q
  .exact nf q
 .rw[Qi,QF,I.len]
  exact hl.symm
noncomputable abbrev nox:Ul->Um->Prop:=λ_ _=>False
def PY(prog:Uo)(w:World)(A:Around)(tg:Ur)(ifs:zq)(env:Env)(it:Ul)(code:Code)(W:(Um->Prop)->Um->Prop):Prop:=
 ∀(R:Result->Um->Prop)(I:Nat->Um->Prop)(n:Nat)(s:Um),I n s ->
  (∀n s,I n s->Ut (model prog w) A (pyNext it) (λr s₁=>match r with
   |none=>R (.ok .next) s₁
   |some v=>Ut (model prog w) A (letOwnedTupleGo tg it v) (λ_ s₁'=>Ut (model prog w) A (assign tg env v) (λ_ s₂=>
     Ut (model prog w) A (forIn ifs zk λc r=>if r=zk then do let ok ←isTrue c env (eval c env);pure (ForInStep.yield ok)else pure (ForInStep.yield r)) (λok s₃=>
      if ok=zk then W (λs₅=>∃m,m<n/\I m s₅) s₃ else ∃m,m<n/\I m s₃) nox s₂) nox s₁') nox s₁) nox s)->codeAny (model prog w) A code R s
section
variable{prog:Uo}{w:World}{A:Around}{elt tg i:Ur}{ifs:zq}{gens:List Comprehension}{scope:Scope}{pos:Pos}{it acc:Ul}{env:Env}{j:Nat}
def vK(hg:gens[j]?=zd ⟨tg,i,ifs,0⟩)(hn:gens[j+1]?=zj):PY prog w A tg ifs env it (.compLoop (.ListComp elt gens scope pos) j it acc env)
  (λQ s=>Ut (model prog w) A (eval elt env) (λx s₄=>Ut (model prog w) A (call (.builtin "list.append") [acc,x]) (λ_ s₅=>Q s₅) nox s₄) nox s):=by
 intro R I n s h turn;refine codeAny_loop zh I (λn s hI=>?_) n h;refine wpAny_noted ?_;unfold compTurn;dsimp only;simp only[hg,hn];refine Qf (JA (Qf (QK (turn n s hI) (λr s₁ h₁=>?_) λ_ _ h'=>h'.elim)));cases r with
 |none=>exact Qn h₁
 |some v=>
  refine Qf (QK h₁ (λ_ s₁' h₁'=>?_) λ_ _ h'=>h'.elim);refine Qf (QK h₁' (λ_ s₂ h₂=>Qf (QK h₂ (λok s₃ h₃=>?_) λ_ _ h'=>h'.elim)) λ_ _ h'=>h'.elim);cases ok with
  |false=>exact Qn ⟨rfl,h₃⟩
  |true=>exact Qf (Qf (QK h₃ (λx s₄ h₄=>Qf (QK h₄ (λ_ s₅ h₅=>Qn (Qn ⟨rfl,h₅⟩)) λ_ _ h'=>h'.elim)) λ_ _ h'=>h'.elim))
def vJ  {ifs1:zq}(hg:gens[j]?=zd ⟨tg,i,ifs,0⟩)(hn:gens[j+1]?=zd ⟨aj,i1,ifs1,0⟩)(hs:∀x,UK i1 env x=pure x):PY prog w A tg ifs env it (.compLoop (.ListComp elt gens scope pos) j it acc env)
  (λQ s=>Ut (model prog w) A (eval i1 env) (λx s₄=>Ut (model prog w) A (pyIter x) (λzO s₅=>codeAny (model prog w) A (.compStart (.ListComp elt gens scope pos) (j+1) zO acc env)
   (λr s₆=>match r with | .ok _=>Q s₆ | .error _=>False) s₅) nox s₄) nox s):=by
 intro R I n s h turn;refine codeAny_loop zh I (λn s hI=>?_) n h;refine wpAny_noted ?_;unfold compTurn;dsimp only;simp only[hg,hn];refine Qf (JA (Qf (QK (turn n s hI) (λr s₁ h₁=>?_) λ_ _ h'=>h'.elim)));cases r with
 |none=>exact Qn h₁
 |some v=>
  refine Qf (QK h₁ (λ_ s₁' h₁'=>?_) λ_ _ h'=>h'.elim);refine Qf (QK h₁' (λ_ s₂ h₂=>Qf (QK h₂ (λok s₃ h₃=>?_) λ_ _ h'=>h'.elim)) λ_ _ h'=>h'.elim);cases ok with
  |false=>exact Qn ⟨rfl,h₃⟩
  |true=>
   refine Qf (QK h₃ (λx s₄ h₄=>Qf (JA (Qf (wpAny_of_eq (hs x) (Qf (wpAny_holding (QK h₄ (λzO s₅ h₅=>?_) λ_ _ h'=>h'.elim))))))) λ_ _ h'=>h'.elim);refine Qf (wpAny_runOwn (codeAny_mono h₅ λr s₆ h₆=>?_));cases r with
   |ok f=>exact Qn ⟨rfl,h₆⟩
   |error x=>exact h₆.elim
def yK   (hg:gens[j]?=zd ⟨tg,i,ifs,0⟩)
  (h0:codeAny (model prog w) A (.compLoop (.ListComp elt gens scope pos) j it acc env) R s)
  (h:Ut (model prog w) A (pyIter it) (λit' s'=>codeAny (model prog w) A (.compLoop (.ListComp elt gens scope pos) j it' acc env) R s') nox s) :
  codeAny (model prog w) A (.compStart (.ListComp elt gens scope pos) j it acc env) R s:=by
 refine codeAny_of_tree ?_;refine wpAny_notedAt ?_;unfold compStart;have hc:(clausesOf (.ListComp elt gens scope pos))[j]?=zd ⟨tg,i,ifs,0⟩:=hg;simp only[hc];refine Qf (wpAny_askSetting (wpAny_ite ?_));split
 .first
   |exact Qf _
   |exact Qn (And.intro rfl h0)
 .first
   |exact Qf _
   |(refine Qf (wpAny_rule ?_);exact Qf (JA (Qf (QK h (λit' s' h'=>Qn (And.intro rfl h')) λ_ _ x=>x.elim))))
end
end L2
namespace DL
open PySem PySem.Spec L2
open PyProof.Rows hiding St
noncomputable def WN:Option Sl->Option Sl
 |some (.own _)=>zj
 |some (.deep _ _)=>zj
 |x=>x
def KD(ρ:UU):UU:=ρ.map WN
def vI  {i:Nat}{d}(h:(KD ρ)[i]?=zd (zd (.pub d))):ρ[i]?=zd (zd (.pub d)):=by
 unfold KD at h;rw[Qd]at h;cases e:ρ[i]? with
 |none=>simp_all
 |some o=>
  rw[e]at h;cases o with
  |none=>cases h
  |some sl=>cases sl with
   |pub d'=>cases h;rfl
   |own ds=>cases h
   |deep p d'=>cases h
def Vv  {i:Nat}{ds}(h:(KD ρ)[i]?=zd (zd (.own ds))):False:=by
 unfold KD at h;rw[Qd]at h;cases e:ρ[i]? with
 |none=>simp_all
 |some o=>
  rw[e]at h;cases o with
  |none=>cases h
  |some sl=>cases sl with
   |pub d'=>cases h
   |own ds=>cases h
   |deep p d'=>cases h
def M9  {i:Nat}{p}{d}(h:(KD ρ)[i]?=zd (zd (.deep p d))):False:=by
 unfold KD at h;rw[Qd]at h;cases e:ρ[i]? with
 |none=>simp_all
 |some o=>
  rw[e]at h;cases o with
  |none=>cases h
  |some sl=>cases sl<;>cases h
def K6(s:D->UU->zy)(t:M Bool)(g:M D):zn->UU->zn->Option zn
 |[],_,es=>zd es
 |d::r,ρ,es=>match s d ρ with
  |none=>zj
  |some ρ1=>match t ρ1 with
   |.bad=>zj
   |.ok b ρ2=>if b=zk then(match g ρ2 with
     |.bad=>zj
     |.ok e ρ3=>if es.length<1000000 then K6 s t g r (KD ρ3) (es++[e])else zj)
    else K6 s t g r (KD ρ2) es
def Zb(f:M zn)(k:Nat)(s:D->UU->zy)(t:M Bool)(g:M D):M zn:=λρ=>match f ρ with
 |.bad=>.bad
 |.ok ds ρ1=>match K6 s t g ds (KD ρ1++Ux k zj) []with
  |none=>.bad
  |some es=>.ok es ρ1
def XU(X:Cx)(ifs:zq)(t:TT):Prop:=
 ∀(pins:List (Up×Obj))(s:Um)(σ:St)(H:Hp)(Q:Bool->Hp->Prop),Inv X pins σ H s->t σ H Q ->
  Ut (model X.prog X.w) X.A (forIn ifs zk λc r=>if r=zk then do let ok ←isTrue c X.env (eval c X.env);pure (ForInStep.yield ok)else pure (ForInStep.yield r)) (TP X pins σ Q) X.xe s
section
variable{X:Cx}{B G0:Hp}
def Aq:XU X [] (tBo X.K B G0 (UR zk)):=λpins s σ H Q I ⟨G,ρ,k,a⟩=>wpAny_tests_nil ⟨H,I,a zk G H k (.refl _) zh⟩
def GN   (h:PT X c (tBo X.K B G0 t)):XU X [c] (tBo X.K B G0 t):=λpins s σ H Q I q=>wpAny_tests_one (h pins s σ H Q I q)
def EOk.rebase{K}{G H}{σ}{ρ}(k:EOk K B G0 G H σ ρ):EOk K H G G H σ (KD ρ) where
 bh:=.refl _
 gh:=k.gh
 g0:=.refl _
 np:=λ_ _ _ n=>n
 len:=by unfold KD;rw[Qb];exact k.len
 pub:=λi d q=>k.pub i d (vI q)
 own:=λi ds q=>(Vv q).elim
 sep:=λi j a ds es q=>(Vv q).elim
 dp:=.of (λ_ _ _ q=>M9 q) λ_ _ q=>Vv q
def EOk.more{K}{G H:Hp}{σ:St}{ρ}(k:EOk K H G G H σ (KD ρ))(n:Nat):EOk K H G G H (σ++Ux n zj) (KD ρ++Ux n zj) where
 bh:=.refl _
 gh:=k.gh
 g0:=.refl _
 np:=λ_ _ _ n=>n
 len:=by rw[Qi,Qi,k.len,QF,QF]
 pub:=λi d q=>by
  by_cases hi:i<(KD ρ).length
  .rw[Qw hi]at q
   rw[Qw (by rw[←k.len];exact hi)];exact k.pub i d q
  .rw[Qx (Jj hi),Qz]at q
   split at q<;>cases q
 own:=λi ds q=>by
  by_cases hi:i<(KD ρ).length
  .rw[Qw hi]at q
   exact(Vv q).elim
  .rw[Qx (Jj hi),Qz]at q
   split at q<;>cases q
 sep:=λi j a ds es q=>by
  by_cases hi:i<(KD ρ).length
  .rw[Qw hi]at q
   exact(Vv q).elim
  .rw[Qx (Jj hi),Qz]at q
   split at q<;>cases q
 dp:=by
  refine .of (λi p d q=>?_) λi ds q=>?_
  .by_cases hi:i<(KD ρ).length
   .rw[Qw hi]at q;exact M9 q
   .rw[Qx (Jj hi),Qz]at q;split at q<;>cases q
  .by_cases hi:i<(KD ρ).length
   .rw[Qw hi]at q;exact Vv q
   .rw[Qx (Jj hi),Qz]at q;split at q<;>cases q
def EOk.beside{K}{G H}{σ}{ρ}{a}{o}(k:EOk K B G0 G H σ ρ)(hg:G a=zj):EOk K (upd H a o) G G (upd H a o) σ (KD ρ) where
 bh:=.refl _
 gh:=λb u e=>by rw[KP (λz=>by lia)];exact k.gh b u e
 g0:=.refl _
 np:=λ_ _ _ n=>n
 len:=k.rebase.len
 pub:=k.rebase.pub
 own:=λi ds q=>(Vv q).elim
 sep:=λi j a ds es q=>(Vv q).elim
 dp:=.of (λ_ _ _ q=>M9 q) λ_ _ q=>Vv q
def lim1:1000000<=Us:=lim
noncomputable def Cb:Option Sl->Option Sl
 |some (.own ds)=>zd (.pub (.list ds))
 |some (.deep _ d)=>zd (.pub d)
 |x=>x
noncomputable def Yn(ρ:UU):UU:=ρ.map Cb
def Ev  {i:Nat}{d}(h:(Yn ρ)[i]?=zd (zd (.pub d))):ρ[i]?=zd (zd (.pub d))∨(∃ds,d=.list ds/\ρ[i]?=zd (zd (.own ds))) ∨ ∃p,ρ[i]?=zd (zd (.deep p d)):=by
 unfold Yn at h;rw[Qd]at h;cases e:ρ[i]? with
 |none=>simp_all
 |some o=>
  rw[e]at h;cases o with
  |none=>cases h
  |some sl=>cases sl with
   |pub d'=>cases h;exact .inl zh
   |own ds=>cases h;exact .inr (.inl ⟨ds,rfl,rfl⟩)
   |deep p d'=>cases h;exact .inr (.inr ⟨p,rfl⟩)
def R8  {i:Nat}{ds}(h:(Yn ρ)[i]?=zd (zd (.own ds))):False:=by
 unfold Yn at h;rw[Qd]at h;cases e:ρ[i]? with
 |none=>simp_all
 |some o=>
  rw[e]at h;cases o with
  |none=>cases h
  |some sl=>cases sl with
   |pub d'=>cases h
   |own ds=>cases h
   |deep p d'=>cases h
def EU  {i:Nat}{p}{d}(h:(Yn ρ)[i]?=zd (zd (.deep p d))):False:=by
 unfold Yn at h;rw[Qd]at h;cases e:ρ[i]? with
 |none=>simp_all
 |some o=>
  rw[e]at h;cases o with
  |none=>cases h
  |some sl=>cases sl<;>cases h
noncomputable def flat:D->Bool
 |.none=>zk | .bool _=>zk | .int _=>zk | .str _=>zk|_=>zm
def Rep.flat{K}{G G'}{v}{d}(r:Rep K G v d)(h:DL.flat d=zk):Rep K G' v d:=by
 cases r with
 |non=>exact .non
 |bl b=>exact .bl b
 |int i=>exact .int i
 |str x=>exact .str x
 |lst _ _=>cases h
 |tup _ _=>cases h
 |dic _=>cases h
 |exc _ _ _ _=>cases h
 |dct _ _ _ _ _=>cases h
 |dtt _ _ _ _=>cases h
def Reps.flat{K}{G G'}:∀{vs}{ds},Reps K G vs ds->ds.all DL.flat=zk->Reps K G' vs ds
 |_,_,.nil,_=>.nil
 |_,_,.cons r t,h=>by rw[Uk,QM]at h;exact .cons (r.flat h.1) (Reps.flat t h.2)
def EOk.lend{K}{B G0 G H:Hp}{σ:St}{ρ:UU}{D:Up}{o:HO}(k:EOk K B G0 G H σ ρ)(hD:H D=zj)(n:Nat):EOk K (upd H D o) H H (upd H D o) (σ++Ux n zj) (Yn ρ++Ux n zj) where
 bh:=.refl _
 gh:=ZM hD
 g0:=.refl _
 np:=λ_ _ _ n=>n
 len:=by unfold Yn;rw[Qi,Qi,Qb,k.len,QF,QF]
 pub:=λi d q=>by
  have hl:(Yn ρ).length=ρ.length:=by unfold Yn;rw[Qb]
  by_cases hi:i<(Yn ρ).length
  .rw[Qw hi]at q
   rw[Qw (by rw[←k.len,←hl];exact hi)];rcases Ev q with e|⟨ds,rfl,e⟩|⟨p,e⟩
   .obtain⟨v,h1,h2⟩:=k.pub i d e
    exact⟨v,h1,h2.mono k.gh⟩
   .obtain⟨a,vs,h1,h2,h3,h4,h5⟩:=k.own i ds e
    exact⟨.ref a,h1,.lst (SqL.of h4) (h5.mono k.gh)⟩
   .obtain⟨ω,k1,k2⟩:=k.dp
    obtain⟨v,fp,s,r,_⟩:=k1 i p d e;exact⟨v,s,r.rep k.gh⟩
  .rw[Qx (Jj hi),Qz]at q
   split at q<;>cases q
 own:=λi ds q=>by
  by_cases hi:i<(Yn ρ).length
  .rw[Qw hi]at q
   exact(R8 q).elim
  .rw[Qx (Jj hi),Qz]at q
   split at q<;>cases q
 sep:=λi j a ds es q=>by
  by_cases hi:i<(Yn ρ).length
  .rw[Qw hi]at q
   exact(R8 q).elim
  .rw[Qx (Jj hi),Qz]at q
   split at q<;>cases q
 dp:=by
  refine .of (λi p d q=>?_) λi ds q=>?_
  .by_cases hi:i<(Yn ρ).length
   .rw[Qw hi]at q;exact EU q
   .rw[Qx (Jj hi),Qz]at q;split at q<;>cases q
  .by_cases hi:i<(Yn ρ).length
   .rw[Qw hi]at q;exact R8 q
   .rw[Qx (Jj hi),Qz]at q;split at q<;>cases q
def RI(f:M zn)(k:Nat)(s:D->UU->zy)(t:M Bool)(g:M D):M zn:=λρ=>match f ρ with
 |.bad=>.bad
 |.ok ds ρ1=>match K6 s t g ds (Yn ρ1++Ux k zj) []with
  |none=>.bad
  |some es=>if es.all flat=zk then .ok es ρ1 else .bad
end
def Xl(s:D->UU->zy)(t:M Bool)(g:M D):zn->UU->zn->Option (zn×UU)
 |[],ρ,es=>zd (es,ρ)
 |d::r,ρ,es=>match s d ρ with
  |none=>zj
  |some ρ1=>match t ρ1 with
   |.bad=>zj
   |.ok b ρ2=>if b=zk then(match g ρ2 with
     |.bad=>zj
     |.ok e ρ3=>if es.length<1000000 then Xl s t g r (KD ρ3) (es++[e])else zj)
    else Xl s t g r (KD ρ2) es
def Va(s0:D->UU->zy)(t0:M Bool)(f1:M zn)(s1:D->UU->zy)(t1:M Bool)(g:M D):zn->UU->zn->Option zn
 |[],_,es=>zd es
 |d::r,ρ,es=>match s0 d ρ with
  |none=>zj
  |some ρ1=>match t0 ρ1 with
   |.bad=>zj
   |.ok b ρ2=>if b=zk then(match f1 ρ2 with
     |.bad=>zj
     |.ok ds ρ3=>match Xl s1 t1 g ds (KD ρ3) es with
      |none=>zj
      |some (es',ρ4)=>Va s0 t0 f1 s1 t1 g r ρ4 es')
    else Va s0 t0 f1 s1 t1 g r (KD ρ2) es
def PD(f:M zn)(k:Nat)(s:D->UU->zy)(t:M Bool)(f1:M zn)(aY:D->UU->zy)(t1':M Bool)(g:M D):M zn:=λρ=>match f ρ with
 |.bad=>.bad
 |.ok ds ρ1=>match Va s t f1 aY t1' g ds (KD ρ1++Ux k zj) []with
  |none=>.bad
  |some es=>.ok es ρ1
def X5(s0:D->UU->zy)(t0:M Bool)(f1:M zn)(Rd:zn->UU->zn->Option (zn×UU)):zn->UU->zn->Option (zn×UU)
 |[],ρ,es=>zd (es,ρ)
 |d::r,ρ,es=>match s0 d ρ with
  |none=>zj
  |some ρ1=>match t0 ρ1 with
   |.bad=>zj
   |.ok b ρ2=>if b=zk then(match f1 ρ2 with
     |.bad=>zj
     |.ok ds ρ3=>match Rd ds (KD ρ3) es with
      |none=>zj
      |some (es',ρ4)=>X5 s0 t0 f1 Rd r ρ4 es')
    else X5 s0 t0 f1 Rd r (KD ρ2) es
noncomputable def Sf(Rd:zn->UU->zn->Option (zn×UU))(ds:zn)(ρ:UU)(es:zn):Option zn:=(Rd ds ρ es).map (·.1)
def PB(f:M zn)(k:Nat)(s:D->UU->zy)(t:M Bool)(f1:M zn)(aY:D->UU->zy)(t1':M Bool)(fx2:M zn)(s2':D->UU->zy)(t2':M Bool)(g:M D):M zn:=λρ=>match f ρ with
 |.bad=>.bad
 |.ok ds ρ1=>match Sf (X5 s t f1 (X5 aY t1' fx2 (Xl s2' t2' g))) ds (KD ρ1++Ux k zj) []with
  |none=>.bad
  |some es=>.ok es ρ1
abbrev RdB:=UU->zn->Option (zn×UU)
def rL(g:M D):RdB:=λρ es=>match g ρ with
 |.bad=>zj
 |.ok e ρ3=>if es.length<1000000 then zd (es++[e],KD ρ3)else zj
def cT(s:D->UU->zy)(t:M Bool)(rd:RdB):zn->UU->zn->Option (zn×UU)
 |[],ρ,es=>zd (es,ρ)
 |d::r,ρ,es=>match s d ρ with
  |none=>zj
  |some ρ1=>match t ρ1 with
   |.bad=>zj
   |.ok b ρ2=>if b=zk then(match rd ρ2 es with
     |none=>zj
     |some (es',ρ')=>cT s t rd r ρ' es')
    else cT s t rd r (KD ρ2) es
def rN(f:M zn)(s:D->UU->zy)(t:M Bool)(rd:RdB):RdB:=λρ es=>match f ρ with
 |.bad=>zj
 |.ok ds ρ3=>cT s t rd ds (KD ρ3) es
structure Left(Y:Cx)(D':Up)(pins:List (Up×Obj))(H G:Hp)(es':zn)(ρ':UU)(σ':St)(H' G':Hp)(vs':List V)(s':Um):Prop where
 inv:Inv Y pins σ' H' s'
 eok:EOk Y.K H' G' G' H' σ' ρ'
 hh:∀a o,a≠D'->H a=zd o->H' a=zd o
 gg:Same G G'
 np:∀a(u:MO),a≠D'->H a=zd u.ho->G a=zj->G' a=zj
 hd:H' D'=zd (.lst vs')
 gd:G' D'=zj
 rp:Reps Y.K G' vs' es'
def Pm(Y:Cx)(D':Up)(W:(Um->Prop)->Um->Prop)(rd:RdB):Prop:=
 ∀(pins:List (Up×Obj))(sh:Um)(σ:St)(B1 G1 H G:Hp)(ρ ρ':UU)(vs:List V)(es es':zn)(Q:Um->Prop),
  Inv Y pins σ H sh->EOk Y.K B1 G1 G H σ ρ->B1 D'=zd (.lst vs)->G1 D'=zj->Reps Y.K G1 vs es->rd ρ es=zd (es',ρ') ->
  (∀σ' H' G' vs' s',Left Y D' pins B1 G1 es' ρ' σ' H' G' vs' s'->Q s')->W Q sh
section
variable{Y:Cx}{D':Up}
def vH   (hx:Y.xe=nox)(he:∀B1 G1,PE Y elt (tD Y.K B1 G1 g)) :
  Pm Y D' (λQ s=>Ut (model Y.prog Y.w) Y.A (eval elt Y.env) (λx s₄=>Ut (model Y.prog Y.w) Y.A (call (.builtin "list.append") [.ref D',x]) (λ_ s₅=>Q s₅) nox s₄) nox s) (rL g):=by
 intro pins sh σ B1 G1 H G ρ ρ' vs es es' Q I k hD gD r z fin;unfold rL at z;cases zg:g ρ with
 |bad=>simp_all
 |ok e ρ4=>
 rw[zg]at z;dsimp only at z;split at z
 .cases z
  have h:=he B1 G1 pins sh σ H (λv H8=>∃G8,EOk Y.K B1 G1 G8 H8 σ ρ4/\Rep Y.K G8 v e) I ⟨G,ρ,k,by rw[zg];exact λv G8 H8 k8 _ q=>⟨G8,k8,q⟩⟩;rw[hx]at h;refine thn h λev s8 ⟨v,H8,I8,rv,G8,k8,r8⟩=>?_;have h2:=Ex pins s8 σ H8 (.ref D') [v] _ [ev] (λ_ H9=>H9=upd H8 D' _) I8 zh (.cons rv .nil) ⟨D',vs,v,rfl,rfl,k8.bh _ _ hD,by have:=lim1;rw[r.length];lia,rfl⟩
  rw[hx]at h2;refine thn h2 λ_ s9 ⟨_,H9,I9,_,e9⟩=>?_;subst e9;have g8:=k8.np _ (.l _) hD gD;exact fin σ _ G8 _ s9 ⟨I9,k8.beside g8,λa o z q=>by rw[KP z];exact k8.bh a o q,k8.g0,λa o _ q w=>k8.np a o q w,Zp,g8,(r.mono k8.g0).append (.cons r8 .nil)⟩
 simp_all
def Fb{tg:Ur}{ifs:zq}{code:Code}{W:(Um->Prop)->Um->Prop}{s:D->UU->zy}{t:M Bool}{rd:RdB}{it:Up}(hx:Y.xe=nox)(hc:Y.calm=zk)(rule:PY Y.prog Y.w Y.A tg ifs Y.env (.ref it) code W)
  (hg:∀B1 G1,PG Y tg (tG Y.K B1 G1 s)) (ht:∀B1 G1,XU Y ifs (tBo Y.K B1 G1 t)) (hb:Pm Y D' W rd)
  {pins:List (Up×Obj)} {sh:Um} {σ:St} {H G:Hp} {ρ ρF:UU} {fp:zu} {tn:Nat->Heap->Prop} {J:It} {ds es esF:zn} {vs:List V} {R:Result->Um->Prop}
  (I:Inv Y pins σ H sh) (T:Turn Y.prog Y.w Y.K tg J fp it tn) (st:tn 0 sh.heap) (hf:∀b∈fp,ZY Y pins H b)
  (k:EOk Y.K H G G H σ ρ) (its:WC Y.K J ds G) (hD:H D'=zd (.lst vs)) (gD:G D'=zj) (r:Reps Y.K G vs es) (zl:cT s t rd ds ρ es=zd (esF,ρF))
  (ac:∀σ' H' G' vs' s',Left Y D' pins H G esF ρF σ' H' G' vs' s'->R (.ok .next) s'):codeAny (model Y.prog Y.w) Y.A code R sh:=by
 have stat:∀{H':Hp},(∀b∈fp,H' b=zj)->∀b∈fp,ZY Y pins H' b:=λhn b hb=>⟨hn b hb,(hf b hb).2⟩
 refine rule R (λn s'=>∃i σ' H' G' ρ' vs' es',n=ds.length-i/\tn i s'.heap/\(∀b∈fp,H' b=zj)/\Left Y D' pins H G es' ρ' σ' H' G' vs' s'/\cT s t rd (ds.drop i) ρ' es'=zd (esF,ρF)) ds.length sh
  ⟨0,σ,H,G,ρ,vs,es,rfl,st,λb hb=>(hf b hb).1,⟨I,k,λ_ _ _ q=>q,.refl _,λ_ _ _ _ n=>n,hD,gD,r⟩,by rw[List.drop_zero];exact zl⟩ ?_
 rintro n s' ⟨i,σ',H',G',ρ',vs',es',rfl,tn',fr',⟨I',k',bn,aX,np',bf,gD',r'⟩,zc⟩;by_cases hlt:i<ds.length
 .rw[Jr hlt,cT]at zc
  cases zs:s ds[i] ρ' with
  |none=>rw[zs]at zc;cases zc
  |some ρ2=>
  rw[zs]at zc;dsimp only at zc;cases zt:t ρ2 with
  |bad=>rw[zt]at zc;cases zc
  |ok b ρ3=>
  rw[zt]at zc;dsimp only at zc;refine thn (T.item Y zh zh zh hc i pins s' σ' H' nox I' (stat fr') tn' (its.go i G' H' aX k'.gh hlt)) λrr s4 ⟨u,hr,h4⟩=>?_;subst hr;refine thn h4 λ_ s5 ⟨x,H5,I5,r5,y5,zY,fr5⟩=>?_
  obtain⟨G5,e5,rx⟩:=its.yld i G' H' x H5 ds[i] aX k'.gh (Qe hlt) y5;have h6:=hg H' G' _ s5 σ' H5 x u (λσ6 H6=>∃G6,EOk Y.K H' G' G6 H6 σ6 ρ2) (I5.pinned (stat fr5) (T.obj _ _ zY)) r5 ⟨G5,ρ',ds[i],ρ2,k'.ext e5,rx,zs,λσ6 G6 H6 k6 _=>⟨G6,k6⟩⟩;rw[hx]at h6;refine thn h6 λ_ s6 ⟨σ6,H6,I6,G6,k6⟩=>?_;have h7:=ht H' G' _ s6 σ6 H6 (λc H7=>c=b/\∃G7,EOk Y.K H' G' G7 H7 σ6 ρ3) I6 ⟨G6,ρ2,k6,by unfold aft;rw[zt];exact λc G7 H7 k7 _ q=>⟨q,G7,k7⟩⟩
  rw[hx]at h7;refine thn h7 λok s7 ⟨H7,I7,hb7,G7,k7⟩=>?_;subst hb7
  have again:∀{H9:Hp}{σ9:St}{s9:Um},Inv Y (pins++Oq fp s5.heap) σ9 H9 s9->Inv Y pins σ9 H9 s9/\tn (i+1) s9.heap/\∀b∈fp,H9 b=zj:=λ{H9 σ9 s9} I9=>by refine⟨I9.unpinned,T.keep _ _ _ zY λb hb o e=>(I9.pin (b,o) (QI _ (QI _ (O6 hb e)))).1,λb hb=>?_⟩;obtain⟨o,e,d⟩:=T.obj _ _ zY b hb;exact(I9.pin (b,o) (QI _ (QI _ (O6 hb e)))).2.1
  have lt:ds.length-(i+1)<ds.length-i:=Nat.sub_lt_sub_left hlt (JJ i);cases ok with
  |false=>obtain⟨J1,J2,J3⟩:=again I7;exact⟨_,lt,i+1,σ6,H7,G7,KD ρ3,vs',es',rfl,J2,J3,⟨J1,k7.rebase,λa o z q=>k7.bh a o (bn a o z q),aX.trans k7.g0,λa o z q w=>k7.np a o (bn a _ z q) (np' a o z q w),k7.bh _ _ bf,k7.np _ (.l _) bf gD',r'.mono k7.g0⟩,zc⟩
  |true=>
   rw[Qu zh]at zc⊢;cases ze:rd ρ3 es' with
   |none=>rw[ze]at zc;cases zc
   |some pr=>
   obtain⟨es1,ρ5⟩:=pr;rw[ze]at zc;refine hb _ s7 σ6 H' G' H7 G7 ρ3 ρ5 vs' es' es1 _ I7 k7 bf gD' r' ze λσ9 H9 G9 vs9 s9 L=>?_
   obtain⟨J1,J2,J3⟩:=again L.inv;exact⟨_,lt,i+1,σ9,H9,G9,ρ5,vs9,es1,rfl,J2,J3,⟨J1,L.eok,λa o z q=>L.hh a o z (bn a o z q),aX.trans L.gg,λa o z q w=>L.np a o z (bn a _ z q) (np' a o z q w),L.hd,L.gd,L.rp⟩,zc⟩
 .rw[List.drop_eq_nil_of_le (Jj hlt),cT]at zc
  cases zc;refine thn (T.done Y zh zh zh hc i pins s' σ' H' nox I' (stat fr') tn' (its.stop i G' H' aX k'.gh (Jj hlt))) λrr s4 ⟨hr,I6⟩=>?_
  subst hr;exact ac σ' H' G' vs' s4 ⟨I6,k',bn,aX,np',bf,gD',r'⟩
def vG{elt aj i1:Ur}{ifs1}{gens}{scope:Scope}{pos:Pos}{j:Nat}{W:Ul->(Um->Prop)->Um->Prop}{f}{s}{t}{rd:RdB}(hx:Y.xe=nox)(hc:Y.calm=zk)
  (hn:gens[j+1]?=zd ⟨aj,i1,ifs1,0⟩) (rule:∀zO,PY Y.prog Y.w Y.A aj ifs1 Y.env zO (.compLoop (.ListComp elt gens scope pos) (j+1) zO (.ref D') Y.env) (W zO))
  (hi:∀B1 G1,PI Y aj i1 (iD Y.K B1 G1 f)) (hg:∀B1 G1,PG Y aj (tG Y.K B1 G1 s)) (ht:∀B1 G1,XU Y ifs1 (tBo Y.K B1 G1 t)) (hb:∀zO,Pm Y D' (W zO) rd) :
  Pm Y D' (λQ s=>Ut (model Y.prog Y.w) Y.A (eval i1 Y.env) (λx s₄=>Ut (model Y.prog Y.w) Y.A (pyIter x) (λzO s₅=>codeAny (model Y.prog Y.w) Y.A (.compStart (.ListComp elt gens scope pos) (j+1) zO (.ref D') Y.env)
   (λr s₆=>match r with | .ok _=>Q s₆ | .error _=>False) s₅) nox s₄) nox s) (rN f s t rd):=by
 intro pins sh σ B1 G1 H G ρ ρ' vs es es' Q I k hD gD r z fin;unfold rN at z;cases zf:f ρ with
 |bad=>rw[zf]at z;cases z
 |ok ds ρ3=>
 rw[zf]at z;have h:=hi B1 G1 pins sh σ H (λJ1 H8=>∃G8,EOk Y.K B1 G1 G8 H8 σ ρ3/\WC Y.K J1 ds G8) I ⟨G,ρ,k,by rw[zf];exact λJ1 G8 H8 k8 _ q=>⟨G8,k8,q⟩⟩;rw[hx]at h;refine thn h λxv s8 h8=>thn h8 λitv s9 h9=>?_
 obtain⟨zO,fp1,tn1,J1,H9,rfl,I9,T1,st9,f9,G9,k9,its9⟩:=h9
 have loop:codeAny _ Y.A _ (λr s₆=>match r with | .ok _=>Q s₆ | .error _=>False) s9:=
  Fb hx hc (rule _) hg ht (hb _) I9 T1 st9 f9 k9.rebase its9 (k9.bh _ _ hD) (k9.np _ (.l _) hD gD) (r.mono k9.g0) z λσ' H' G' vs' s' L=>
   fin σ' H' G' vs' s' ⟨L.inv,L.eok,λa o z q=>L.hh a o z (k9.bh a o q),k9.g0.trans L.gg,λa o z q w=>L.np a o z (k9.bh a _ q) (k9.np a o q w),L.hd,L.gd,L.rp⟩
 exact yK hn loop (T1.self Y.A 0 _ _ _ st9 loop)
end
def Pl(Y:Cx)(e:Ur)(j:Nat)(tg:Ur)(ifs:zq)(rd:RdB):Prop:=
 ∀(D':Up)(it:Ul),∃W,PY Y.prog Y.w Y.A tg ifs Y.env it (.compLoop e j it (.ref D') Y.env) W/\Pm Y D' W rd
section
variable{Y:Cx}{elt tg i:Ur}{ifs:zq}{gens:List Comprehension}{scope:Scope}{pos:Pos}{j:Nat}
def FY  (hx:Y.xe=nox)(hg:gens[j]?=zd ⟨tg,i,ifs,0⟩)(hn:gens[j+1]?=zj)(he:∀B1 G1,PE Y elt (tD Y.K B1 G1 g)):Pl Y (.ListComp elt gens scope pos) j tg ifs (rL g):=
 λ_ _=>⟨_,vK hg hn,vH hx he⟩
def vF       (hx:Y.xe=nox)(hc:Y.calm=zk)(hg:gens[j]?=zd ⟨tg,i,ifs,0⟩)(hn:gens[j+1]?=zd ⟨aj,i1,ifs1,0⟩)(hs:∀x,UK i1 Y.env x=pure x)
  (hi:∀B1 G1,PI Y aj i1 (iD Y.K B1 G1 f)) (hgt:∀B1 G1,PG Y aj (tG Y.K B1 G1 s)) (ht:∀B1 G1,XU Y ifs1 (tBo Y.K B1 G1 t)) (hb:Pl Y (.ListComp elt gens scope pos) (j+1) aj ifs1 rd):Pl Y (.ListComp elt gens scope pos) j tg ifs (rN f s t rd):=
 λD' _=>⟨_,vJ hg hn hs,vG hx hc hn (λzO=>(Classical.choose_spec (hb D' zO)).1) hi hgt ht (λzO=>(Classical.choose_spec (hb D' zO)).2)⟩
end
def Xo(l:Bool)(ρ:UU):UU:=match l with|true=>Yn ρ|false=>KD ρ
def Ca{K}{B G0 G1 H2}{σ}{ρ1}{D}(l)(k1:EOk K B G0 G1 H2 σ ρ1)(hfr:H2 D=zj)(n) :
  ∃Gb,EOk K (upd H2 D (.lst [])) Gb Gb (upd H2 D (.lst [])) (σ++Ux n zj) (Xo l ρ1++Ux n zj)/\Same G1 Gb/\Gb D=zj /\
   ∀(G' H') vs es,(l=zk->es.all flat=zk)->Same Gb G'->Same H2 H'->Same G' H'->(∀a(u:MO),H2 a=zd u.ho->Gb a=zj->G' a=zj)->G' D=zj->Reps K G' vs es->∃Gf,Ext G1 H2 Gf H'/\Gf D=zj/\Reps K Gf vs es:=by
 have gD   :=k1.gh.free hfr;cases l with
 |false=>exact⟨G1,(k1.beside gD).more n,.refl _,gD,λG' H' vs es _ g h gh np d r=>⟨G',⟨h,g,gh,np⟩,d,r⟩⟩
 |true=>exact⟨H2,k1.lend hfr n,k1.gh,hfr,λG' H' vs es fl _ h _ _ _ r=>⟨G1,⟨h,.refl _,k1.gh.trans h,λ_ _ _ n=>n⟩,gD,r.flat (fl zh)⟩⟩
def dCG(l:Bool)(f:M zn)(k:Nat)(s:D->UU->zy)(t:M Bool)(rd:RdB):M zn:=λρ=>match f ρ with
 |.bad=>.bad
 |.ok ds ρ1=>match cT s t rd ds (Xo l ρ1++Ux k zj) []with
  |none=>.bad
  |some (es,_)=>if l=zk->es.all flat=zk then .ok es ρ1 else .bad
def N4       {ρ ρ'}{es}(h:dCG l f k s t rd ρ=.ok es ρ'):∃ds ρF,f ρ=.ok ds ρ'/\cT s t rd ds (Xo l ρ'++Ux k zj) []=zd (es,ρF)/\(l=zk->es.all flat=zk):=by
 unfold dCG at h;cases zf:f ρ with
 |bad=>rw[zf]at h;cases h
 |ok ds ρ1=>
 rw[zf]at h;dsimp only at h;cases zl:cT s t rd ds _ []with
 |none=>rw[zl]at h;cases h
 |some pr=>
 obtain⟨esF,ρF⟩:=pr;rw[zl]at h;dsimp only at h;split at h
 .rename_i hf
  cases h;exact⟨ds,ρF,rfl,zl,hf⟩
 .cases h
section
variable{X:Cx}{B G0:Hp}{KX:XW}
def Yr(X:Cx)(N2:List Str)(scope:Scope)(e tg:Ur)(ifs:zq)(s:D->UU->zy)(t:M Bool)(rd:RdB):Prop:=
 ∀(cl:List (Str×Up))(C:Up)(s₀:Um)(H₀:Hp)(ex:zu),(∀B' G',PG (X.blk N2 scope cl C s₀ H₀ ex) tg (tG X.K B' G' s))/\(∀B' G',XU (X.blk N2 scope cl C s₀ H₀ ex) ifs (tBo X.K B' G' t))/\Pl (X.blk N2 scope cl C s₀ H₀ ex) e 0 tg ifs rd
structure Rs(SC scope:Scope)(N1 N2:List Str)(k:Nat):Prop where
 b:PZ scope.names N1 N2 k=zk
 kind:scope.kind=.function
 names:∀y∈scope.names,scope.names.lookup y.1=zd y.2
 free:∀y∈scope.names,y.2=.free->SC.names.lookup y.1=zd .cell∨SC.names.lookup y.1=zd .free
def MA{l:Bool}{tg elt iter:Ur}{ifs:zq}{gs:List Comprehension}{scope:Scope}{pos pos':Pos}{N2:List Str}{k:Nat}{f:M zn}{s:D->UU->zy}{t:M Bool}{rd:RdB}{use:Option (Ul->Sem Unit)}{Qc:Ul->Um->Prop}(hc:X.calm=zk)
  (hi:PI X tg iter (iD X.K B G0 f)) (zF:Yr X N2 scope (.ListComp elt (⟨tg,iter,ifs,0⟩::gs) scope pos) tg ifs s t rd) (hb:Rs X.env.scope scope X.N N2 k) (hs:∀x,UK iter X.env x=pure x)
  {pins:List (Up×Obj)} {s0:Um} {σ:St} {G H:Hp} {ρ ρ1 ρF:UU} {ds esF:zn} (I:Inv X pins σ H s0) (k0:EOk X.K B G0 G H σ ρ) (zf:f ρ=.ok ds ρ1) (zl:cT s t rd ds (Xo l ρ1++Ux k zj) []=zd (esF,ρF)) (hfl:l=zk->esF.all flat=zk)
  (ac:∀(C D:Up)(vs:List V)(G' H':Hp)(s4:Um)(m:Str->zw),Inv X pins σ H' s4->s4.heap.Ns C m->H' C=zj->C≠X.env.locals->X.s₀.heap.objs.size<=C->(∀x c,X.env.cells.lookup x=zd c->c≠C)->(∀p∈X.pn++pins,p.1≠C) ->
   EOk X.K B G0 G' H' σ ρ1->Same G G'->NewL X.K B G' H' σ ρ1 D vs esF->compPost (model X.prog X.w) X.A X.xe use Qc (.ref D) C (.ok .next) s4) :
  Ut (model X.prog X.w) X.A (comprehension (.ListComp elt (⟨tg,iter,ifs,0⟩::gs) scope pos) scope X.env pos' (newList []) zm (eval iter X.env) use) Qc X.xe s0:=by
 obtain⟨bj,hcl,bi,cl2⟩:=wg (scope:=scope) (env:=X.env) λy hy hf=>I.ok.has y.1 (hb.free y hy hf)
 refine wpAny_comprehension_free (use:=use) zh hs hcl hb.kind (λy hy hl=>(hb.names y hy).trans (by rw[hl])) (thn (hi pins s0 σ H (λJ H1=>∃G1,EOk X.K B G0 G1 H1 σ ρ1/\Same G G1/\WC X.K J ds G1) I ⟨G,ρ,k0,by rw[zf];exact λJ G1 H1 k1 s1 it=>⟨G1,k1,s1,it⟩⟩) λv s1 h1=>thn h1 λitv s2 h2=>?_);obtain⟨it,fp,tn,J,H2,rfl,I2,T,st2,f2,G1,k1,sg1,its⟩:=h2;refine wpAny_newObj_type (CI bi cl2 hb.names (λx c e=>let ⟨_,q⟩:=I2.cell x c e;QE q.lt (by first|exact Qp _|(rw[JF];exact JR _))) λh₁ cl hns₁ kept hco=>?_);dsimp only at hns₁ kept hco⊢;have hfr:H2 s2.heap.objs.size=zj:=I2.hok.fresh (Qp _)
 have I3:Inv X pins σ (upd H2 s2.heap.objs.size (.lst [])) {s2 with heap:=s2.heap.push {cls:=.type "list", dict:=zj,data:=.seq ([]:zr).toArray}}:=
  I2.laid (t':=s2.toks) (λb u e=>Qk _ e) (Qp _) ⟨JS _,[],0,.nil,QD _ zh⟩
 generalize hP:s2.heap.push {cls:=.type "list", dict:=zj,data:=.seq ([]:zr).toArray}=P at I3 hns₁ kept hco⊢;have old:∀b o,s2.heap.get? b=zd o->P.get? b=zd o:=λb o e=>hP ▸ Qk _ e;have fpo:∀b∈fp,∃o,s2.heap.get? b=zd o:=λb hb=>let ⟨o,e,_⟩:=T.obj _ _ st2 b hb;⟨o,e⟩
 have fpD:∀b∈fp,b≠s2.heap.objs.size:=λb hb=>let ⟨o,e⟩:=fpo b hb;QS (Qh e)
 have f3:∀b∈fp,ZY X pins (upd H2 s2.heap.objs.size (.lst [])) b:=λb hb=>⟨by rw[KP (fpD b hb)];exact(f2 b hb).1,(f2 b hb).2⟩
 have I4:=I3.enter (scope:=scope) (cl:=cl) (N2:=N2) (k:=k) (fp:=fp) (t':=s2.toks) hb.b hb.kind hb.free hco hns₁ kept f3 (λb hb=>let ⟨o,e⟩:=fpo b hb;⟨o,old b o e⟩);dsimp only at I4;obtain⟨Gb,kb,sgb,gbD,ex⟩:=Ca l k1 hfr k;have sH:Same H2 (upd H2 s2.heap.objs.size (.lst [])):=ZM hfr;have hD3:upd H2 s2.heap.objs.size (.lst []) s2.heap.objs.size=zd (.lst []):=Zp;generalize upd H2 s2.heap.objs.size (.lst [])=H3 at I3 I4 f3 kb sH hD3;generalize s2.heap.objs.size=D at *;have tn0:tn 0 h₁:=T.keep 0 _ _ st2 λb hb o e=>kept b o (old b o e)
 have stat:∀b∈fp,ZY (X.blk N2 scope cl P.objs.size {s2 with heap:=P} H3 fp) pins H3 b:=λb hb=>by
  obtain⟨z0,z1,z2,z3,z4,z5⟩:=f3 b hb;obtain⟨o,e⟩:=fpo b hb;refine⟨z0,QS (Qh (old b o e)),λz=>?_,.inl hb,λx c q=>(hco.old x c q).elim (z4 x c) λw=>JE (Nat.lt_trans (Qh (old b o e)) w.1),z5⟩;rcases QB.mp (I3.stkSub b z)with q|q
  .exact z1 q
  .exact z2 q
 have neD:∀a o,H2 a=zd o->a≠D:=λa o q z=>by subst z;rw[hfr]at q;cases q
 obtain⟨hg,ht,hcl'⟩:=zF cl P.objs.size {s2 with heap:=P} H3 fp;obtain⟨W,rule,body⟩:=hcl' D (.ref it)
 have loop:=Fb (Y:=X.blk N2 scope cl P.objs.size {s2 with heap:=P} H3 fp) (D':=D)  rfl hc rule hg ht body I4 T tn0 stat kb
  ⟨λi G H s1 s2 hi=>its.go i G H (sgb.trans s1) s2 hi,λi G H s1 s2 hi=>its.stop i G H (sgb.trans s1) s2 hi,λi G H x H' d s1 s2 e y=>its.yld i G H x H' d (sgb.trans s1) s2 e y⟩ hD3 gbD .nil zl λσ' H' G' vs' s4 L=>by
   obtain⟨m,hm,_⟩:=id L.inv.loc;have I7:Inv X pins σ H' s4:=I3.call' (ch:=fp) L.inv.os L.inv.base L.inv.hok L.inv.bare λb hb=>⟨(f3 b hb).2.2.2.1,(f3 b hb).2.1,(f3 b hb).2.2.2.2.1,(f3 b hb).2.2.2.2.2⟩
   obtain⟨Gf,eF,dF,rF⟩:=ex G' H' vs' esF hfl L.gg (λa o q=>L.hh a o (neD a o q) (sH a o q)) L.eok.gh (λa o q z=>L.np a o (neD a _ q) (sH a _ q) z) L.gd L.rp
   refine ac P.objs.size D vs' Gf H' s4 m I7 hm L.inv.free (JE I3.lt) I3.sz (λx c e z=>by obtain⟨_,q⟩:=I3.cell x c e;exact absurd q.lt (by rw[z];exact Jo _)) (λp hp z=>by have:=Qh (I3.pin p hp).1;exact absurd this (by rw[z];exact Jo _))
    (k1.ext eF) (sg1.trans eF.g) ⟨k1.bh.free hfr,dF,L.hd,rF,λj es' q z=>?_,λj pt d v fp q s r=>k1.freshD eF.h hfr q s r⟩
   obtain⟨a',ws,h1',h2',h3',h4',h5'⟩:=k1.own j es' q;rw[z]at h1';cases h1';rw[hfr]at h4';cases h4'
 exact codeAny_compStart_list loop (T.self X.A 0 _ _ _ tn0 loop)
def Lq  {tg elt iter}{ifs}{gs}{scope}{pos}{N2}{k:Nat}{f}{s}{t}{rd:RdB}(hc:X.calm=zk)
  (hi:PI X tg iter (iD X.K B G0 f)) (zF:Yr X N2 scope (.ListComp elt (⟨tg,iter,ifs,0⟩::gs) scope pos) tg ifs s t rd) (hb:Rs X.env.scope scope X.N N2 k) (hs:∀x,UK iter X.env x=pure x:=by intro _;rfl) :
  PE X (.ListComp elt (⟨tg,iter,ifs,0⟩::gs) scope pos) (tL X.K B G0 (dCG l f k s t rd)):=by
 intro pins s0 σ H Q I ⟨G,ρ,k0,a⟩;cases z:dCG l f k s t rd ρ with
 |bad=>rw[z]at a;exact a.elim
 |ok es ρ1=>
 rw[z]at a;obtain⟨ds,ρF,zf,zl,hfl⟩:=N4 z;refine MA hc hi zF hb hs I k0 zf zl hfl λC D vs G' H' s4 m I7 hm hC hL hz hcl hp k' s' n=>?_
 exact⟨m,hm,λh' sb=>⟨.ref D,H',I7.turned   (λb o hb e=>(sb.2 b hb).trans e) hC hL (.inr hz) hcl hp,rfl,a D vs G' H' k' s' n⟩⟩
def sD_g{l:Bool}{y:Str}{j:Nat}{py:Pos}{spos:Pos}{tg elt iter:Ur}{ifs:zq}{gs}{scope:Scope}{pos:Pos}{N2:List Str}{k:Nat}{f:M zn}{s}{t:M Bool}{rd:RdB}(hN:X.N.Nodup)(hj:X.N[j]?=zd y)(hy:X.env.scope.names.lookup y=zd .local)(hc:X.calm=zk)
  (hi:PI X tg iter (iD X.K B G0 f)) (zF:Yr X N2 scope (.ListComp elt (⟨tg,iter,ifs,0⟩::gs) scope pos) tg ifs s t rd) (hb:Rs X.env.scope scope X.N N2 k) (hs:∀x,UK iter X.env x=pure x:=by intro _;rfl)
  (hsw:swapsWith (.ListComp elt (⟨tg,iter,ifs,0⟩::gs) scope pos) (zd (.Name y py)) spos.line X.env=pure zk:=by rfl) :
  PS X (.Assign [.Name y py] (.ListComp elt (⟨tg,iter,ifs,0⟩::gs) scope pos) spos) (tS X.K B G0 KX (Zc j (dCG l f k s t rd))):=by
 intro pins s0 σ H Dn I ⟨G,ρ,k0,a⟩;unfold Zc sB at a;cases z:dCG l f k s t rd ρ with
 |bad=>rw[z]at a;exact a.elim
 |ok es ρ1=>
 rw[z]at a;dsimp only at a;by_cases hl:j<ρ1.length
 .rw[Qu hl]at a
  obtain⟨ds,ρF,zf,zl,hfl⟩:=N4 z;rw[exec_Assign_Name_used _ _ _ _ hsw];refine Qf (JA (Qf ?_));refine Qf (QK (MA   hc hi zF hb hs I k0 zf zl hfl λC D vs G' H' s4 m I7 hm hC hL hz hcl hp k' s' n=>?_) (λ_ s' hq=>Qn (Qn hq)) λ_ _ e=>e);refine wpAny_assign_Name (Lc I7 hN hj (.inl hy) (v:=.ref D) zh (λs5 I8 ⟨ad,sb,hx⟩=>?_) (.inr hy))
  have hCa:C≠ad:=by
   rcases hx with e|e
   .rw[e];exact hL
   .exact Ne.symm (hcl y ad e)
  refine⟨m,hm.sameBut sb hCa,λh' ae=>⟨_,H',I8.turned (t':=s5.toks) (it:=C) (λb o hb e=>(ae.2 b hb).trans e) hC hL (.inr hz) hcl hp,?_⟩⟩;exact a _ G' H' (k'.setOwn n hl) s'
 .rw[QH hl]at a;exact a.elim
def Lp{K}{f f'}(h:∀ρ es ρ',f ρ=.ok es ρ'->f' ρ=.ok es ρ'){σ}{H}{Q}(q:tL K B G0 f σ H Q):tL K B G0 f' σ H Q:=by
 obtain⟨G,ρ,k,a⟩:=q;refine⟨G,ρ,k,?_⟩;cases z:f ρ with
 |bad=>simp_all
 |ok es ρ'=>rw[z]at a;rw[h ρ es ρ' z];exact a
def Hb{K}{f f'}{j}(h:∀ρ es ρ',f ρ=.ok es ρ'->f' ρ=.ok es ρ'){Dn}{σ}{H}(q:tS K B G0 KX (Zc j f) Dn σ H):tS K B G0 KX (Zc j f') Dn σ H:=by
 obtain⟨G,ρ,k,a⟩:=q;refine⟨G,ρ,k,?_⟩;unfold Zc sB at a⊢;cases z:f ρ with
 |bad=>rw[z]at a;exact a.elim
 |ok es ρ'=>rw[z]at a;rw[h ρ es ρ' z];exact a
end
theorem OX    : ∀{ds}{ρ:UU}{es esF},K6 s t g ds ρ es=zd esF->∃ρF,cT s t (rL g) ds ρ es=zd (esF,ρF)
 |[],ρ,es,esF,h=>by cases h;exact⟨ρ,rfl⟩
 |d::r,ρ,es,esF,h=>by
  rw[K6]at h;rw[cT];cases zs:s d ρ with
  |none=>rw[zs]at h;cases h
  |some ρ1=>
  rw[zs]at h;dsimp only at h⊢;cases zt:t ρ1 with
  |bad=>rw[zt]at h;cases h
  |ok b ρ2=>
  rw[zt]at h;dsimp only at h⊢;cases b with
  |false=>exact OX  h
  |true=>
   rw[Qu zh]at h⊢;unfold rL;cases zg:g ρ2 with
   |bad=>rw[zg]at h;cases h
   |ok e ρ3=>
   rw[zg]at h;dsimp only at h⊢;split at h
   .rename_i hl
    rw[Qu hl];exact OX  h
   .cases h
theorem Nd    : ∀{ds}{ρ}{es},Xl s t g ds ρ es=cT s t (rL g) ds ρ es
 |[],ρ,es=>rfl
 |d::r,ρ,es=>by
  rw[Xl,cT];cases s d ρ with
  |none=>rfl
  |some ρ1=>
  dsimp only;cases t ρ1 with
  |bad=>rfl
  |ok b ρ2=>
  dsimp only;cases b with
  |false=>exact Nd
  |true=>
   rw[Qu zh,Qu zh];unfold rL;cases g ρ2 with
   |bad=>rfl
   |ok e ρ3=>
   dsimp only;split
   .exact Nd
   .rfl
theorem Nc{s s1}{t t1}{f}{Rd}{rd}(hR:∀ds ρ es,Rd ds ρ es=cT s1 t1 rd ds ρ es) :
  ∀{ds}{ρ}{es},X5 s t f Rd ds ρ es=cT s t (rN f s1 t1 rd) ds ρ es
 |[],ρ,es=>rfl
 |d::r,ρ,es=>by
  rw[X5,cT];cases s d ρ with
  |none=>rfl
  |some ρ1=>
  dsimp only;cases t ρ1 with
  |bad=>rfl
  |ok b ρ2=>
  dsimp only;cases b with
  |false=>exact Nc hR
  |true=>
   rw[Qu zh,Qu zh];unfold rN;cases f ρ2 with
   |bad=>rfl
   |ok ds ρ3=>
   dsimp only;rw[hR];cases cT s1 t1 rd ds _ es with
   |none=>rfl
   |some pr=>exact Nc hR
theorem Ld  {t t1}{f}{g:M D}:∀{ds:zn}{ρ:UU}{es esF:zn},Va s t f s1 t1 g ds ρ es=zd esF->∃ρF,cT s t (rN f s1 t1 (rL g)) ds ρ es=zd (esF,ρF)
 |[],ρ,es,esF,h=>by cases h;exact⟨ρ,rfl⟩
 |d::r,ρ,es,esF,h=>by
  rw[Va]at h;rw[cT];cases zs:s d ρ with
  |none=>rw[zs]at h;cases h
  |some ρ1=>
  rw[zs]at h;dsimp only at h⊢;cases zt:t ρ1 with
  |bad=>rw[zt]at h;cases h
  |ok b ρ2=>
  rw[zt]at h;dsimp only at h⊢;cases b with
  |false=>exact Ld  h
  |true=>
   rw[Qu zh]at h⊢;unfold rN;cases zg:f ρ2 with
   |bad=>rw[zg]at h;cases h
   |ok ds ρ3=>
   rw[zg]at h;dsimp only at h⊢;rw[←Nd];cases zl:Xl s1 t1 g ds _ es with
   |none=>rw[zl]at h;cases h
   |some pr=>rw[zl]at h;exact Ld  h
def Fa      (ρ)(es)(ρ')(h:Zb f k s t g ρ=.ok es ρ'):dCG zm f k s t (rL g) ρ=.ok es ρ':=by
 unfold Zb at h;unfold dCG;cases zf:f ρ with
 |bad=>simp_all
 |ok ds ρ1=>
 rw[zf]at h;dsimp only[Xo]at h⊢;cases zl:K6 s t g ds _ []with
 |none=>rw[zl]at h;cases h
 |some esF=>
 obtain⟨ρF,e⟩:=OX zl;simp_all
def vE      (ρ)(es)(ρ')(h:RI f k s t g ρ=.ok es ρ'):dCG zk f k s t (rL g) ρ=.ok es ρ':=by
 unfold RI at h;unfold dCG;cases zf:f ρ with
 |bad=>simp_all
 |ok ds ρ1=>
 rw[zf]at h;dsimp only[Xo]at h⊢;cases zl:K6 s t g ds _ []with
 |none=>rw[zl]at h;cases h
 |some esF=>
 rw[zl]at h;dsimp only at h;split at h
 .rename_i hf
  cases h;obtain⟨ρF,e⟩:=OX zl;rw[e];exact Qu λ_=>hf
 simp_all
def vD  {k}{s s1}{t t1}{g}(ρ)(es)(ρ')(h:PD f k s t f1 s1 t1 g ρ=.ok es ρ'):dCG zm f k s t (rN f1 s1 t1 (rL g)) ρ=.ok es ρ':=by
 unfold PD at h;unfold dCG;cases zf:f ρ with
 |bad=>simp_all
 |ok ds ρ1=>
 rw[zf]at h;dsimp only[Xo]at h⊢;cases zl:Va s t f1 s1 t1 g ds _ []with
 |none=>rw[zl]at h;cases h
 |some esF=>
 obtain⟨ρF,e⟩:=Ld zl;simp_all
def vC  {k}{s s1 s2}{t t1 t2}{g}(ρ)(es)(ρ')(h:PB f k s t f1 s1 t1 f2 s2 t2 g ρ=.ok es ρ'):dCG zm f k s t (rN f1 s1 t1 (rN f2 s2 t2 (rL g))) ρ=.ok es ρ':=by
 unfold PB at h;unfold dCG;cases zf:f ρ with
 |bad=>simp_all
 |ok ds ρ1=>
 rw[zf]at h;dsimp only[Xo,Sf]at h⊢;rw[Nc λ_ _ _=>Nc λ_ _ _=>Nd]at h;cases zl:cT s t _ ds _ []with
 |none=>simp_all
 |some pr=>
 simp_all
noncomputable def W9(q:Option NameKind->Bool)(SC scope:Scope)(N1 N2:List Str)(k:Nat):Bool:=
 PZ scope.names N1 N2 k&&decide (scope.kind=.function)&&(scope.names.all λy=>decide (scope.names.lookup y.1=zd y.2))&&scope.names.all λy=>match y.2 with
  |.free=>q (SC.names.lookup y.1)
  |_=>zk
noncomputable def Tq:Option NameKind->Bool
 |some .cell=>zk|some .free=>zk|_=>zm
def ET  {SC SC' scope}{N1 N2}{k}(h:W9 q SC scope N1 N2 k=zk)(f:∀x,q (SC.names.lookup x)=zk->SC'.names.lookup x=zd .cell∨SC'.names.lookup x=zd .free):Rs SC' scope N1 N2 k:=by unfold W9 at h;rw[QM,QM,QM,Q2,Q2]at h;obtain⟨⟨⟨h1,h2⟩,h0⟩,h3⟩:=h;refine⟨h1,Qa h2,λy hy=>Qa (h0 y hy),λy hy e=>?_⟩;have:=h3 y hy;rw[e]at this;exact f _ this
def N0    (h:W9 Tq SC scope N1 N2 k=zk):Rs SC scope N1 N2 k:=ET h λx e=>by
 cases z:SC.names.lookup x with
 |none=>rw[z]at e;cases e
 |some y=>rw[z]at e;cases y<;>first|exact .inl rfl|exact .inr rfl|cases e
section
variable{X:Cx}{B G0:Hp}{KX:XW}
def D9  {tg elt iter}{ifs}{gs}{scope}{pos}{f}{s}{t}{rd}{F}(SC)(N1 N2)(k)(le:∀ρ es ρ',F ρ=.ok es ρ'->dCG l f k s t rd ρ=.ok es ρ')(hc:X.calm=zk)
  (hi:PI X tg iter (iD X.K B G0 f)) (zF:Yr X N2 scope (.ListComp elt (⟨tg,iter,ifs,0⟩::gs) scope pos) tg ifs s t rd) (h1:X.env.scope=SC) (h2:X.N=N1) (hb:W9 Tq SC scope N1 N2 k=zk) (hs:∀x,UK iter X.env x=pure x:=by intro _;rfl) :
  PE X (.ListComp elt (⟨tg,iter,ifs,0⟩::gs) scope pos) (tL X.K B G0 F):=
 Kz (Lq hc hi zF (by rw[h1,h2];exact N0 hb) hs) λ_ _ _ q=>Lp le q
def sD_1   {j:Nat}{py:Pos}{spos:Pos}{tg elt iter:Ur}{ifs}{gs}{scope}{pos:Pos}{f}{s}{t}{rd:RdB}{F}(SC:Scope)(N1 N2)(k:Nat)(le:∀ρ es ρ',F ρ=.ok es ρ'->dCG l f k s t rd ρ=.ok es ρ')(hN:X.N.Nodup)(hj:X.N[j]?=zd y)(hy:X.env.scope.names.lookup y=zd .local)(hc:X.calm=zk)
  (hi:PI X tg iter (iD X.K B G0 f)) (zF:Yr X N2 scope (.ListComp elt (⟨tg,iter,ifs,0⟩::gs) scope pos) tg ifs s t rd) (h1:X.env.scope=SC) (h2:X.N=N1) (hb:W9 Tq SC scope N1 N2 k=zk) (hs:∀x,UK iter X.env x=pure x:=by intro _;rfl)
  (hsw:swapsWith (.ListComp elt (⟨tg,iter,ifs,0⟩::gs) scope pos) (zd (.Name y py)) spos.line X.env=pure zk:=by rfl) :
  PS X (.Assign [.Name y py] (.ListComp elt (⟨tg,iter,ifs,0⟩::gs) scope pos) spos) (tS X.K B G0 KX (Zc j F)):=
 ZP (sD_g hN hj hy hc hi zF (by rw[h1,h2];exact N0 hb) hs hsw) λ_ _ _ q=>Hb le q
def CG   {cl}{C:Up}{s₀}{H₀:Hp}{ex}{N2}{tg elt iter:Ur}{ifs}{gs}{scope:Scope}{pos:Pos}{f}{s}{t}{rd:RdB}{F}(N3)(k:Nat)(le:∀ρ es ρ',F ρ=.ok es ρ'->dCG l f k s t rd ρ=.ok es ρ')(hc:X.calm=zk)
  (hi:PI (X.blk N2 scope0 cl C s₀ H₀ ex) tg iter (iD X.K B G0 f)) (zF:Yr (X.blk N2 scope0 cl C s₀ H₀ ex) N3 scope (.ListComp elt (⟨tg,iter,ifs,0⟩::gs) scope pos) tg ifs s t rd) (hb:W9 Tq scope0 scope N2 N3 k=zk) (hs:∀x,UK iter (X.blk N2 scope0 cl C s₀ H₀ ex).env x=pure x:=by intro _;rfl) :
  PE (X.blk N2 scope0 cl C s₀ H₀ ex) (.ListComp elt (⟨tg,iter,ifs,0⟩::gs) scope pos) (tL X.K B G0 F):=by
 refine Kz (Lq  hc hi zF (ET hb λx e=>?_) hs) λ_ _ _ q=>Lp le q
 cases z:scope0.names.lookup x with
 |none=>rw[z]at e;cases e
 |some y=>
  rw[z]at e;cases y with
  |free=>exact(Lm  z).symm
  |cell=>exact .inl (TJ (by decide) z)
  |_=>cases e
end
def kg   {s aY s2'}{t t1' t2'}{f1 f2}{g}{ρ ρ1 ρ2}{ds es}(h1:f ρ=.ok ds ρ1)(h2:X5 s t f1 (X5 aY t1' f2 (Xl s2' t2' g)) ds (KD ρ1++Ux k zj) []=zd (es,ρ2)) :
  PB f k s t f1 aY t1' f2 s2' t2' g ρ=.ok es ρ1:=by
 unfold PB;dsimp only[Sf];simp_all
section
variable{X:Cx}{B G0:Hp}{e a b c tg:Ur}{pos:Pos}{es rest:zq}
def EOk.given{K}{G H:Hp}{σ:St}{ρ:UU}{a:Up}{vs}{ds:zn}(k:EOk K B G0 G H σ ρ)(n:NewL K B G H σ ρ a vs ds):EOk K B G0 (upd G a (.lst vs)) H σ ρ where
 bh:=k.bh
 gh:=λb u q=>by
  by_cases z:b=a
  .subst z;rw[Zp]at q;cases q;exact n.h
  .rw[KP z]at q;exact k.gh b u q
 g0:=k.g0.trans (ZM n.g)
 np:=λb o q z=>by
  have zb:b≠a:=λz=>by subst z;rw[n.b]at q;cases q
  rw[KP zb];exact k.np b o q z
 len:=k.len
 pub:=λi d q=>let ⟨v,h1,h2⟩:=k.pub i d q;⟨v,h1,h2.mono (ZM n.g)⟩
 own:=λi ds q=>by
  obtain⟨b,ws,h1,h2,h3,h4,h5⟩:=k.own i ds q;have zb:b≠a:=λz=>by subst z;exact n.f i ds q h1
  exact⟨b,ws,h1,h2,by rw[KP zb];exact h3,h4,h5.mono (ZM n.g)⟩
 sep:=k.sep
 dp:=k.dp.map (λ_ _ _ q=>⟨q,rfl⟩) (λ_ ds q=>⟨ds,q,rfl⟩) λi p d v fp q s r w nn=>⟨r.mono (ZM n.g) (.refl _),λb m=>⟨(w b m).1,by rw[KP (λz=>n.dp i p d v fp q s r (by rw[←z];exact m))];exact(w b m).2⟩⟩
def Ap  (h:PE X e (tL X.K B G0 f)):PE X e (tD X.K B G0 (U0 Uy f)):=
 Kz h λσ H Q ⟨G,ρ,k,a⟩=>by
  refine⟨G,ρ,k,?_⟩;unfold U0 Kd at a;cases z:f ρ with
  |bad=>rw[z]at a;exact a.elim
  |ok ds ρ1=>rw[z]at a;intro ad vs G' H' k' s' n;exact a _ _ H' (k'.given n) (s'.trans (ZM n.g)) (.lst (SqL.of Zp) (n.r.mono (ZM n.g)))
def kf(hc:X.calm=zk):YS X (.builtin "all") (λxs H Q=>∃l,∃bs:List Bool,xs=[.ref l]/\SqL X.K H l (bs.map V.bl)/\Q (.bl (bs.all id)) H):=by
 intro pins s σ H xs us Q I rx h;obtain⟨l,bs,rfl,hq,q⟩:=h;obtain⟨u,rfl,ru⟩:=rx.one;cases ru;obtain⟨its,rv,p,hz⟩:=I.list hq;have hl:=p.isList;have hlt:l<s.heap.objs.size:=by obtain⟨_,e,_⟩:=id hl;exact Qh e
 have key:∀(i:Nat) v,its.toArray[i]?=zd v->∃t,bs[i]?=zd t/\v=.bool t:=λi v e=>by
  have e   :=by simpa using e
  have hi:i<bs.length:=by
   have:=(Qg.mp e).1;have h2:=rv.length;rw[Qb]at h2
   lia
  obtain⟨u,e2,r2⟩:=rv.get (i:=i) (x:=.bl bs[i]) (by rw[Qd,Qe hi];rfl);rw[e]at e2;cases e2;exact⟨bs[i],Qe hi,r2⟩
 refine call_all_walk (Jx hl ?_)
 refine⟨s.heap.objs.size,[s.heap.objs.size,l],[s.heap.objs.size],its.toArray.size,_,_,λi=>(bs[i]?).getD zk,rfl,Walks.list (A:=X.A.in1) (I.ok.hd hc) _ l (QS hlt) its.toArray,
  ⟨⟨_,QD _ zh,rfl,rfl⟩,hl.push _⟩,λi v s' Q' E' hP hQ=>?_,λh' tk hk=>?_⟩
 .obtain⟨b,e,rfl⟩:=key i v hP
  simp only[e]at hQ;exact Q3 hQ
 .have hn:its.toArray.size=bs.length:=by have:=rv.length;rw[List.length_map]at this;simp;lia
  have e:((Uw its.toArray.size).all λi=>(bs[i]?).getD zk)=bs.all id:=by
   rw[hn,JO,Q2,Q2];constructor
   .intro h b hb
    obtain⟨i,hi,e⟩:=List.getElem_of_mem hb;have:=h i (QN.mpr hi);simp only[Qe hi,Option.getD_some,e]at this;exact this
   .intro h i hi
    have hi':=QN.mp hi;simp only[Qe hi',Option.getD_some];exact h _ (Jp hi')
  rw[e];exact⟨.bl (bs.all id),H,I.kept (t':=tk) λb x e=>hk b x (λhm=>by rw[Qv.mp hm]at e;exact Jo _ (Qh e)) (Qk _ e),rfl,q⟩
noncomputable def Vh:zn->Option (List Bool)
 |[]=>zd []
 |.bool b::r=>(Vh r).map (b :: ·)
 |_=>zj
theorem Ll{K}{G}:∀{vs}{ds}{bs},Reps K G vs ds->Vh ds=zd bs->vs=bs.map V.bl
 |_,_,bs,.nil,e=>by cases e;rfl
 |_,_,bs,.cons (d:=d) r t,e=>by
  cases d with
  |bool b=>
   unfold Vh at e;cases z:Vh _ with
   |none=>rw[z]at e;cases e
   |some cs=>rw[z]at e;cases e;rw[r.bl_inv,Ll t z];rfl
  |_=>cases e
noncomputable def ZC:zn->zp
 |[.list ds]=>(Vh ds).map λbs=>.bool (bs.all id)
 |_=>zj
def D8(hc:X.calm=zk):YV X (.builtin "all") ZC:=by
 refine⟨_,kf hc,λvs G H ds d Q s r e k=>?_⟩;unfold ZC at e;split at e
 .rename_i ds
  cases z:Vh ds with
  |none=>simp_all
  |some bs=>rw[z]at e;cases e;obtain⟨v,rfl,q⟩:=r.one_inv;obtain⟨l,ws,rfl,h1,r1⟩:=q.lst_inv;have hw:=Ll r1 z;subst hw;exact⟨l,bs,rfl,s.seq h1,k _ G H (.refl s) (.bl _)⟩
 simp_all
noncomputable def Its(x:Str):It:=⟨λi _=>i<x.cps.size,λi H v H'=>H'=H/\∃c,x.cps[i]?=zd c/\v=.str ⟨#[c]⟩,λi _=>x.cps.size<=i⟩
def ke{P:Uo}{w:World}{K:Frag}{tg:Ur}(x:Str)(t:Tok)(it:Up):Turn P w K tg (Its x) [it] it (λi h=>h.IsStrIter it (strIterType x) x t i) where
 mem:=by simp
 obj:=λi h st b hb=>by
  have e:b=it:=by simpa using hb
  subst e;obtain⟨o,e,c,d⟩:=st;exact⟨o,e,λv z=>by rw[d]at z;cases z⟩
 keep:=λi h h' st k=>by obtain⟨o,e,c,d⟩:=st;exact⟨o,k it (by simp) o e,c,d⟩
 item:=by
  intro X hP hw hK hc i pins s σ H E I hf st hg;subst hP hw hK;obtain⟨f0,f1,f2,f3,f4,f5⟩:=hf it (by simp);have hx:x.cps[i]?=zd x.cps[i]:=Array.getElem?_eq_getElem hg
  have fin:∀h' tk(T:String),strIterType x=T->h'.IsStrIter it T x t (i+1)->Heap.SameBut it s.heap h'->["enumerate", "zip", "dict_itemiterator", "dict_reverseitemiterator", "odict_iterator", "itertools.zip_longest", "itertools.pairwise"].contains T=zm ->
    ∃u,zd (Value.str ⟨#[x.cps[i]]⟩ s.toks)=zd u/\Ut (model X.prog X.w) X.A (letOwnedTupleGo tg (.ref it) u) (λ_ s2=>∃v H',Inv X pins σ H' s2/\RelV v u/\(Its x).yld i H v H'/\s2.heap.IsStrIter it (strIterType x) x t (i+1)/\∀b∈[it],H' b=zj) E {s with heap:=h',toks:=tk}:=by
   intro h' tk T eT st' sb hn;have I1   :=I.turned (t':=tk) (λb o hb e=>(sb.2 b hb).trans e) f0 f1 f3 f4 f5;obtain⟨o,e,c,d⟩:=id st';refine⟨_,rfl,Oi  e c d hn ⟨.str ⟨#[x.cps[i]]⟩,H,I1,⟨_,rfl⟩,⟨rfl,_,hx,rfl⟩,by rw[eT];exact st',λb hb=>(hf b hb).1⟩⟩
  cases ha:x.cps.all (· < 128)with
  |true=>
   have eT:strIterType x = "str_ascii_iterator" :=by simp[strIterType,ha]
   rw[eT]at st;exact wpAny_pyNext_ascii_item st hx λh' st' sb=>fin h' _ _ eT st' sb (by decide)
  |false=>
   have eT:strIterType x = "str_iterator" :=by simp[strIterType,ha]
   rw[eT]at st;exact wpAny_pyNext_wide_item st hx λh' st' sb=>fin h' _ _ eT st' sb (by decide)
 done:=by
  intro X hP hw hK hc i pins s σ H E I hf st hg;subst hP hw hK;obtain⟨f0,f1,f2,f3,f4,f5⟩:=hf it (by simp);have hx:x.cps[i]?=zj:=Array.getElem?_eq_none hg;cases ha:x.cps.all (· < 128)with
  |true=>
   have eT:strIterType x = "str_ascii_iterator" :=by simp[strIterType,ha]
   rw[eT]at st;exact wpAny_pyNext_ascii_end (I.ok.hd hc) st hx λh' eb=>⟨rfl,I.turned (t':=s.toks) (λb o hb e=>eb b o hb e) f0 f1 f3 f4 f5⟩
  |false=>
   have eT:strIterType x = "str_iterator" :=by simp[strIterType,ha]
   rw[eT]at st;exact wpAny_pyNext_wide_end (I.ok.hd hc) st hx λh' eb=>⟨rfl,I.turned (t':=s.toks) (λb o hb e=>eb b o hb e) f0 f1 f3 f4 f5⟩
 self:=λA i s Q E st h=>by
  cases ha:x.cps.all (· < 128)with
  |true=>
   have eT:strIterType x = "str_ascii_iterator" :=by simp[strIterType,ha]
   rw[eT]at st;exact wpAny_pyIter_striter_ascii st h
  |false=>
   have eT:strIterType x = "str_iterator" :=by simp[strIterType,ha]
   rw[eT]at st;exact wpAny_pyIter_striter_wide st h
def iAny(K:Frag)(tl:TE):TI:=λσ H R=>tl σ H λx H1=>(∃a,x=.ref a/\(∃xs,SqL K H1 a xs)/\R (Itl K a) H1)∨(∃a,x=.ref a/\(∃xs,SqT K H1 a xs)/\R (Itt K a) H1) ∨ ∃z,x=.str z/\R (Its z) H1
def CF{l:Ur}{tl:TE}(hl:PE X l tl):PI X tg l (iAny X.K tl):=by
 intro pins s σ H R I h;refine thn (hl pins s σ H _ I h) λv s1 ⟨x,H1,I1,r1,q1⟩=>?_
 have fpOk:∀b∈[s1.heap.objs.size],ZY X pins H1 b:=λb hb=>by
  have e   :=by simpa using hb
  subst e;exact I1.fpOk (Qp _) (I1.hok.fresh (Qp _))
 rcases q1 with ⟨a,e,⟨xs,hq⟩,q⟩|⟨a,e,⟨xs,hq⟩,q⟩|⟨z,e,q⟩
 .subst e
  cases r1;obtain⟨its,rv,p,hz⟩:=I1.list hq;refine Jx p.isList ?_;exact⟨s1.heap.objs.size,[s1.heap.objs.size],_,_,H1,rfl,I1.kept (t':=s1.toks) λb o e=>Qk _ e,wS a _,⟨_,QD _ zh,rfl,rfl⟩,fpOk,q⟩
 .subst e
  cases r1;obtain⟨its,rv,p,hz⟩:=I1.tuple hq;refine wpAny_pyIter_tuple p ?_;exact⟨s1.heap.objs.size,[s1.heap.objs.size],_,_,H1,rfl,I1.kept (t':=s1.toks) λb o e=>Qk _ e,wt a _,⟨_,QD _ zh,rfl,rfl⟩,fpOk,q⟩
 .subst e
  obtain⟨t,rfl⟩:=r1;refine wpAny_pyIter_strU ?_;exact⟨s1.heap.objs.size,[s1.heap.objs.size],_,_,H1,rfl,I1.kept (t':=s1.toks) λb o e=>Qk _ e,ke z t _,⟨_,QD _ zh,rfl,rfl⟩,fpOk,q⟩
noncomputable def Pz(z:Str):zn:=z.cps.toList.map λc=>.str ⟨#[c]⟩
noncomputable def NZ:D->Option zn
 |.list ds=>zd ds
 |.tuple ds=>zd ds
 |.str z=>zd (Pz z)
 |_=>zj
def w4{K}{G1}{ad}{vs}{ds}(h:SqT K G1 ad vs)(r:Reps K G1 vs ds):WC K (Itt K ad) ds G1 where
 go:=λi G H s1 s2 hi=>by
  have hi':i<vs.length:=by rw[r.length];simp_all
  exact⟨vs,vs[i],XA (s1.trans s2) h,Qe hi'⟩
 stop:=λi G H s1 s2 hi=>⟨vs,XA (s1.trans s2) h,by rw[r.length];simp_all⟩
 yld:=λi G H x H' d s1 s2 e y=>by obtain⟨rfl,y⟩:=y;obtain⟨v,e1,r1⟩:=r.get e;have:=y vs (XA (s1.trans s2) h);rw[e1]at this;cases this;exact⟨G,.refl s2,r1.mono s1⟩
def vB{K}{G1}{z}:WC K (Its z) (Pz z) G1 where
 go:=λi G H s1 s2 hi=>by unfold Pz at hi;simpa[Its]using hi
 stop:=λi G H s1 s2 hi=>by unfold Pz at hi;simpa[Its]using hi
 yld:=λi G H x H' d s1 s2 e y=>by
  obtain⟨rfl,c,hc,rfl⟩:=y;unfold Pz at e;rw[Qd]at e;have:z.cps.toList[i]?=zd c:=by simp_all
  rw[this]at e;cases e;exact⟨G,.refl s2,.str _⟩
noncomputable def KJ(f:M D):M zn:=Kd f λx=>Ka (NZ x)
def NQ  (h:PE X e (tD X.K B G0 f)):PI X tg e (iD X.K B G0 (KJ f)):=Wj (CF h) λσ H R q=>tM.toI  q λv H' G' ρ' x k r a=>by
 cases x with
 |list ds=>obtain⟨ad,vs,rfl,h1,r1⟩:=r.lst_inv;exact .inl ⟨ad,rfl,⟨vs,k.gh.seq h1⟩,a _ G' H' k (.refl _) (wk h1 r1)⟩
 |tuple ds=>obtain⟨ad,vs,rfl,h1,r1⟩:=r.tup_inv;exact .inr (.inl ⟨ad,rfl,⟨vs,XA k.gh h1⟩,a _ G' H' k (.refl _) (w4 h1 r1)⟩)
 |str z=>have:=r.str_inv;subst this;exact .inr (.inr ⟨z,rfl,a _ G' H' k (.refl _) vB⟩)
 |_=>exact a.elim
noncomputable def inS(i j:Str):Bool:=!(Builtin.Str.occurrences j i 0 j.length 1).isEmpty
noncomputable def oInS:D->D->zE
 |.str i,.str j=>zd (inS i j)
 |_,_=>zj
noncomputable def Lo:D->D->zE
 |.str i,.str j=>zd (!inS i j)
 |_,_=>zj
def D7:OpB X (Uv .In) oInS:=⟨_,vA,λv u G H x y d Q s rx ry e k=>by
 unfold oInS at e;split at e
 .cases e
  have:=rx.str_inv;subst this;have:=ry.str_inv;subst this;exact⟨_,_,rfl,rfl,k⟩
 simp_all⟩
def CD:OpB X (Uv .NotIn) Lo:=⟨_,yF,λv u G H x y d Q s rx ry e k=>by
 unfold Lo at e;split at e
 .cases e
  have:=rx.str_inv;subst this;have:=ry.str_inv;subst this;exact⟨_,_,rfl,rfl,k⟩
 simp_all⟩
def D6   (hg:Gl X x)(hm:∃t,X.mg x=zd (.int i t))(hd:(x==("__debug__" : Str))=zm:=by decide):PE X (.Name x pos) (tD X.K B G0 (UR (.int i))):=by obtain⟨t,hm⟩:=hm;exact Kz (GV (v:=.int i) hg hm ⟨t,rfl⟩ hd) λσ H Q ⟨G,ρ,k,a⟩=>aft.now a k (.int _)
end
section
variable{X:Cx}{B G0:Hp}{KX:XW}{e o a b c tg i:Ur}{pos p2:Pos}{es rest:zq}{te to ti:TE}
def CC(te to ti:TE):TS:=λD σ H=>te σ H λv H1=>to σ H1 λx H2=>ti σ H2 λk H3=>∃l xs n,x=.ref l/\H3 l=zd (.lst xs)/\k=.int n/\0<=n/\n<xs.length/\D.nx σ (upd H3 l (.lst (xs.set n.toNat v)))
def kU(he:PE X e te)(ho:PE X o to)(hi:PE X i ti)(hs:swapsWith e (zd (.Subscript o i p2)) pos.line X.env=pure zm:=by rfl):PS X (.Assign [.Subscript o i p2] e pos) (CC te to ti):=by
 intro pins s σ H D I h;refine wpAny_Assign_Subscript (thn (he pins s σ H _ I h) λv s1 ⟨x,H1,I1,r1,q1⟩=>thn (ho pins s1 σ H1 _ I1 q1) λov s2 ⟨y,H2,I2,r2,q2⟩=>thn (hi pins s2 σ H2 _ I2 q2) λiv s3 ⟨k,H3,I3,r3,q3⟩=>?_) hs;obtain⟨l,xs,n,rfl,hl,rfl,h0,h1,q⟩:=q3;cases r2;obtain⟨t,rfl⟩:=r3;obtain⟨z,its,m,r,hlen,ee⟩:=I3.lstM hl
 refine PySem.W.ki_setAt (items:=its.toArray) (n:=m) ee h0 (by
                                  have:Us<2 ^ 63:=by decide
                                  lia) (by simp;lia) ?_
 refine⟨σ,_,I3.lset     hl ee (by simp) (r.set r1 n.toNat) (by rw[List.length_set];exact z),q⟩
noncomputable def TN(j:Nat)(g f:M D):SM:=sB f λd ρ1=>match ρ1[j]? with
 |some (zd (.own _))=>sB g (λy ρ2=>match y with
  |.int k=>(match ρ2[j]? with
   |some (zd (.own ds))=>if 0<=k/\k<ds.length then .nx (ρ2.set j (zd (.own (ds.set k.toNat d))))else .bad
   |_=>.bad)
  |_=>.bad) ρ1
 |_=>.bad
def GS  {f g:M D}(he:PE X e (tD X.K B G0 f))(ho:PE X o (Zm j))(hi:PE X i (tD X.K B G0 g))(hs:swapsWith e (zd (.Subscript o i p2)) pos.line X.env=pure zm:=by rfl) :
  PS X (.Assign [.Subscript o i p2] e pos) (tS X.K B G0 KX (TN j g f)):=
 ZP (kU he ho hi hs) λD σ H q=>tS.bnd  q λv H1 G1 ρ1 d k r a=>by
  cases q0:ρ1[j]? with
  |none=>rw[q0]at a;exact a.elim
  |some o0=>
   cases o0 with
   |none=>rw[q0]at a;exact a.elim
   |some sl0=>
    cases sl0 with
    |deep _ _=>rw[q0]at a;exact a.elim
    |pub d=>rw[q0]at a;exact a.elim
    |own aP=>
     rw[q0]at a;obtain⟨ad,vs0,h1,h2,h3,h4,h5⟩:=k.own j aP q0;refine⟨.ref ad,h1,G1,ρ1,k,?_⟩;dsimp only at a;unfold sB at a;cases z:g ρ1 with
     |bad=>rw[z]at a;exact a.elim
     |ok y ρ2=>
      rw[z]at a;dsimp only at a;intro kv G' H' k' s' r';cases y with
      |int n=>
       cases q:ρ2[j]? with
       |none=>rw[q]at a;exact a.elim
       |some oo=>
        cases oo with
        |none=>rw[q]at a;exact a.elim
        |some sl=>
         cases sl with
         |deep _ _=>rw[q]at a;exact a.elim
         |pub d=>rw[q]at a;exact a.elim
         |own ds=>
          rw[q]at a;dsimp only at a;split at a
          .rename_i hn
           obtain⟨ad',vs,g1,g2,g3,g4,g5⟩:=k'.own j ds q;rw[h1]at g1;cases g1;refine⟨ad,vs,n,rfl,g4,r'.int_inv,hn.1,by rw[g5.length];exact hn.2,?_⟩;exact a σ G' _ (k'.change q h1 (g5.set (r.mono s') n.toNat)) s'
          .exact a.elim
      |_=>exact a.elim
noncomputable def Wo(z:Str)(lo hi:zx):Str:=if(Builtin.Str.strSliceIndices lo hi 1 z.length).length=z.length then z else⟨((Builtin.Str.strSliceIndices lo hi 1 z.length).filterMap (z.cps[·]?)).toArray⟩
def CB:SlR X (λx lo hi H Q=>∃z,x=.str z/\(Wo z lo hi).length<=Us/\Q (.str (Wo z lo hi)) H):=by
 intro pins s σ H x v vl vu lo hi sl Q I rx hs pl pu h;obtain⟨z,rfl,hz,q⟩:=h;obtain⟨t,rfl⟩:=rx;refine⟨"str", _,F.slot_str_getitem.lookup,typeIs_str s z t,?_⟩
 obtain⟨l,el,e1⟩:∃l:Option (Int×Tok),vl=partValue l/\l.map (·.1)=lo:=by
  cases pl with
  |none=>exact⟨zj,rfl,rfl⟩
  |int k t'=>exact⟨zd (k,t'),rfl,rfl⟩
 obtain⟨u,eu,e2⟩:∃u:Option _,vu=partValue u/\u.map (·.1)=hi:=by
  cases pu with
  |none=>exact⟨zj,rfl,rfl⟩
  |int k t'=>exact⟨zd (k,t'),rfl,rfl⟩
 subst el eu;refine wpAny_getItem_str_slice (l:=l) (u:=u) (st:=zj) hs zh ?_;unfold sliceMade slicePicked;rw[e1,e2];unfold Wo at hz q;by_cases hw:(Builtin.Str.strSliceIndices lo hi 1 z.length).length=z.length
 .rw[Qu hw]at hz q
  rw[if_pos (by simp[hw])];exact⟨.str z,H,I,⟨t,rfl⟩,q⟩
 .rw[QH hw]at hz q
  rw[if_neg (by simp[hw])];exact⟨hz,.str _,H,I.tok _,⟨_,rfl⟩,q⟩
end
section
variable{X:Cx}{B G0:Hp}{KX:XW}{e o a b c tg i:Ur}{pos p2:Pos}{es rest:zq}{te to ti:TE}
def pvb(i){x}{pos}{N'}{scope}{cl}{C}{s₀}{H₀}{ex}(hN:N'[i]?=zd x:=by rfl)
  (h:visK (scope.names.lookup x)=zk:=by rfl) (hd:(x==("__debug__" : Str))=zm:=by decide) (hcd:(x==("__classdict__" : Str))=zm:=by decide) :
  PE (X.blk N' scope cl C s₀ H₀ ex) (.Name x pos) (Zm i):=Hm hN (Ar h) hd hcd
def Xm:D->zx->zx->zp
 |.list xs,lo,hi=>zd (.list (DL.cutD xs lo hi))
 |.str z,lo,hi=>if(Wo z lo hi).length<=1000000 then zd (.str (Wo z lo hi))else zj
 |_,_,_=>zj
def KS(f:M D)(lo hi:M zx):M D:=Kd f λx=>Kd lo λl=>Kd hi λh=>Ka (Xm x l h)
def wf{lo hi:Option Ur}{f:M D}{l h}(he:PE X e (tD X.K B G0 f))(hl:PO X lo (tOi X.K B G0 l))(hu:PO X hi (tOi X.K B G0 h)) :
  PE X (.Subscript e (.Slice lo hi zj p2) pos) (tD X.K B G0 (KS f l h)):=
 Kz (kC (qo.or CB) he hl hu) λσ H Q q=>by
  refine tM.one (R:=Rep X.K) q λv H2 G ρ x k r a=>?_;refine tM.nx  k a λl' H3 G3 ρ3 xl k3 s3 r3 a3=>?_;refine tM.nx  k3 a3 λh' H4 G4 ρ4 xh k4 s4 r4 a4=>?_;subst r3 r4;unfold Ka Xm at a4
  cases x with
  |list xs=>obtain⟨ad,vs,rfl,h1,r1⟩:=((r.mono s3).mono s4).lst_inv;exact .inl ⟨ad,vs,rfl,k4.gh.seq h1,λp hp=>aft.done a4 k4 (Ext.new k4.gh hp) (.lst (SqL.of Zp) ((r1.cut l' h').mono (ZM (k4.gh.free hp))))⟩
  |str z=>
   dsimp only at a4;have:=r.str_inv;subst this;by_cases hc:(Wo z l' h').length<=1000000
   .rw[Qu hc]at a4
    exact .inr ⟨z,rfl,QP hc lim,aft.now a4 k4 (.str _)⟩
   .rw[QH hc]at a4;exact a4.elim
  |_=>exact a4.elim
end
section
variable{X:Cx}{B G0:Hp}{e o a b c tg:Ur}{pos p2:Pos}{es rest:zq}{te to ti:TE}
noncomputable def Zj{β:Type}(p:D->D->Option β)(i:Nat)(g:M D):M β:=λρ=>match ρ[i]? with
 |some (zd (.pub d))=>(Kd g λy=>Ka (p d y)) ρ
 |some (zd (.own _))=>(Kd g λy=>λρ'=>match ρ'[i]? with|some (zd (.own ds))=>Ka (p (.list ds) y) ρ'|_=>.bad) ρ
 |_=>.bad
def Ln{K}{σ:St}{H:Hp}{p}{r:R2}{i:Nat}{g:M D}{Q}{QV:VK}(hq:∀t H3,Q t H3->QV (.bl t) H3)(hr:∀v u G H x y d Q,Same G H->Rep K G v x->Rep K G u y->p x y=zd d->Q (.bl d) H->r v u H Q)
  (q:tBo K B G0 (Zj p i g) σ H Q):Zm i σ H λx H1=>tD K B G0 g σ H1 λy H2=>r x y H2 QV:=by
 obtain⟨G,ρ,k,a⟩:=q;unfold Zj at a;cases q:ρ[i]? with
 |none=>rw[q]at a;exact a.elim
 |some o=>
  cases o with
  |none=>rw[q]at a;exact a.elim
  |some sl=>
   cases sl with
   |deep _ _=>rw[q]at a;exact a.elim
   |pub d=>
    rw[q]at a;obtain⟨v,h1,h2⟩:=k.pub i d q;refine⟨v,h1,G,ρ,k,?_⟩;dsimp only[Kd]at a;cases z:g ρ with
    |bad=>rw[z]at a;exact a.elim
    |ok y ρ1=>rw[z]at a;intro u G' H' k' s' r';obtain⟨d',e',a'⟩:=aft.opt a;exact hr v u G' H' d y d' _ k'.gh (h2.mono s') r' e' (hq _ _ (a' d' G' H' k' s' zh))
   |own ds=>
    rw[q]at a;obtain⟨ad,vs,h1,h2,h3,h4,h5⟩:=k.own i ds q;refine⟨.ref ad,h1,G,ρ,k,?_⟩;dsimp only[Kd]at a;cases z:g ρ with
    |bad=>rw[z]at a;exact a.elim
    |ok y ρ1=>
     rw[z]at a;dsimp only at a;intro u G' H' k' s' r';cases q1:ρ1[i]? with
     |none=>rw[q1]at a;exact a.elim
     |some oo=>
      cases oo with
      |none=>rw[q1]at a;exact a.elim
      |some sl1=>
       cases sl1 with
       |deep _ _=>rw[q1]at a;exact a.elim
       |pub d1=>rw[q1]at a;exact a.elim
       |own ds1=>
        rw[q1]at a;obtain⟨ad',ws,g1,g2,g3,g4,g5⟩:=k'.own i ds1 q1;rw[h1]at g1;cases g1;obtain⟨d',e',a'⟩:=aft.opt a;have sg:Same G' (upd G' ad (.lst ws)):=ZM g3
        have sh:Same (upd G' ad (.lst ws)) H':=λb o q=>by
         by_cases z:b=ad
         .subst z;rw[Zp]at q;cases q;exact g4
         .rw[KP z]at q;exact k'.gh b o q
        exact hr (.ref ad) u _ H' (.list ds1) y d' _ sh (.lst (SqL.of Zp) (g5.mono sg)) (r'.mono sg) e' (hq _ _ (a' d' G' H' k' s' zh))
def Ao     (o:OpB X (Uv op) p)(ha:PE X a (Zm i))(hb:PE X b (tD X.K B G0 g))(hm:behindInMarks op b=zm) :
  PT X (.Compare a [op] [b] pos) (tBo X.K B G0 (Zj p i g)):=by
 obtain⟨r,h,j⟩:=o;exact YA (Ma h ha hb hm) λσ H Q q=>Ln (λt H3 z=>⟨t,rfl,z⟩) j q
def An     (o:OpB X (Uv op) p)(ha:PE X a (Zm i))(hb:PE X b (tD X.K B G0 g))(hm:behindInMarks op b=zm) :
  PE X (.Compare a [op] [b] pos) (tD X.K B G0 (U0 Uz (Zj p i g))):=by
 obtain⟨r,h,j⟩:=o;exact Kz (GM h ha hb hm) λσ H Q q=>Ln (λt H3 z=>z) j (tBo.val q)
end
end DL
namespace L2
open PySem PySem.Spec PyProof.Rows
noncomputable def Itz(K:Frag)(a b:Up):It:=
 ⟨λi H=>∃xs x ys y,SqL K H a xs/\xs[i]?=zd x/\SqL K H b ys/\ys[i]?=zd y,
  λi H v H'=>∃p x y,H p=zj/\v=.ref p/\(∀xs,SqL K H a xs->xs[i]?=zd x)/\(∀ys,SqL K H b ys->ys[i]?=zd y)/\H'=upd H p (.tup [x,y]),
  λi H=>∃xs ys,SqL K H a xs/\SqL K H b ys/\(xs.length<=i∨ys.length<=i)⟩
def kT{P:Uo}{w:World}{K:Frag}{elts:zq}{x1}{tp:Pos}(a b z TI TO i1 i2:Up)(Dz:ZipApart z TI TO i1 i2 a b) :
  Turn P w K (.Tuple elts x1 tp) (Itz K a b) [z,TI,TO,i1,i2] z (λi h=>IsZip h z TI TO .none/\IsPair h TI (.ref i1) (.ref i2)/\(∃c d,IsPair h TO c d)/\h.IsListIter i1 a i/\h.IsListIter i2 b i) where
 mem:=by simp
 obj:=λi h st c hc=>by
  obtain⟨h1,h2,⟨c0,d0,h3⟩,⟨o4,h4,_,d4⟩,⟨o5,h5,_,d5⟩⟩:=st;have hc':c=z∨c=TI∨c=TO∨c=i1∨c=i2:=by simpa using hc
  rcases hc' with rfl|rfl|rfl|rfl|rfl
  .exact⟨_,h1,λv q=>by have q':Data.fields _=Data.cell v:=q;cases q'⟩
  .exact⟨_,h2,λv q=>by have q':Data.seq _ _=Data.cell v:=q;cases q'⟩
  .exact⟨_,h3,λv q=>by have q':Data.seq _ _=Data.cell v:=q;cases q'⟩
  .exact⟨o4,h4,λv q=>by rw[d4]at q;cases q⟩
  .exact⟨o5,h5,λv q=>by rw[d5]at q;cases q⟩
 keep:=λi h h' st k=>by obtain⟨h1,h2,⟨c0,d0,h3⟩,h4,h5⟩:=st;exact⟨k z (by simp) _ h1,k TI (by simp) _ h2,⟨c0,d0,k TO (by simp) _ h3⟩,h4.at λo q=>k i1 (by simp) o q,h5.at λo q=>k i2 (by simp) o q⟩
 item:=by
  intro X hP hw hK hc i pins s σ H E I hf st hg;subst hP hw hK;obtain⟨h1,h2,⟨c0,d0,h3⟩,h4,h5⟩:=st;obtain⟨xs,x,ys,y,hq,hx,zT,hy⟩:=hg;obtain⟨its,rv,p,hz⟩:=I.list hq;obtain⟨its',rv',p',hz'⟩:=I.list zT;obtain⟨u,hu,ru⟩:=rv.get hx;obtain⟨u',hu',ru'⟩:=rv'.get hy;refine wpAny_pyNext_zip_item Dz h1 h2 h3 h4 h5 p.isList p'.isList (x:=u) (y:=u') (by simpa using hu) (by simpa using hu') λh' g1 g3 g4 g5 gp gs gk=>?_
  refine⟨_,rfl,wpAny_letOwnedTupleGo_zip g1 λh2' gz sb=>?_⟩;have hzl:z<s.heap.objs.size:=Qh h1;have ae:Heap.SameBut z h' h2':=sb;have gp2   :=(ae.2 _ (JE hzl)).trans gp
  have kk:∀c o,c∉[z,TI,TO,i1,i2]->s.heap.get? c=zd o->h2'.get? c=zd o:=λc o hc q=>by
   have n1:c≠z:=λe=>hc (by simp[e])
   have n3:c≠TO:=λe=>hc (by simp[e])
   have n4:c≠i1:=λe=>hc (by simp[e])
   have n5:c≠i2:=λe=>hc (by simp[e])
   exact(ae.2 c n1).trans (gk c o n1 n3 n4 n5 q)
  have hn:H s.heap.objs.size=zj:=I.hok.fresh (Qp _)
  have I2:Inv X pins σ (upd H s.heap.objs.size (.tup [x,y])) {s with heap:=h2'}:=
   I.turnedNew (t':=s.toks) (fp:=[z,TI,TO,i1,i2]) hf kk (Qp _) ⟨by show 2<=Us;decide,[u,u'],.cons ru (.cons ru' .nil),⟨_,gp2,rfl,_,rfl⟩⟩
  have gTI:IsPair h' TI (.ref i1) (.ref i2):=gk TI _ Dz.TIz Dz.TITO Dz.TIi1 Dz.TIi2 h2
  refine⟨.ref s.heap.objs.size,_,I2,rfl,⟨_,x,y,hn,rfl,λws hw=>by rw[I.list_inj hw hq];exact hx,λws hw=>by rw[I.list_inj hw zT];exact hy,rfl⟩,
   ⟨gz,(ae.2 _ Dz.TIz).trans gTI,⟨u,u',(ae.2 _ Dz.TOz).trans g3⟩,g4.at λo q=>(ae.2 _ Dz.i1z).trans q,g5.at λo q=>(ae.2 _ Dz.i2z).trans q⟩,λc hc=>?_⟩
  have hlt:c<s.heap.objs.size:=by
   have hc':c=z∨c=TI∨c=TO∨c=i1∨c=i2:=by simpa using hc
   rcases hc' with rfl|rfl|rfl|rfl|rfl
   .exact hzl
   .exact Qh h2
   .exact Qh h3
   .obtain⟨o,ho,_⟩:=h4;exact Qh ho
   .obtain⟨o,ho,_⟩:=h5;exact Qh ho
  rw[KP (QS hlt)];exact(hf c hc).1
 done:=by
  intro X hP hw hK hc i pins s σ H E I hf st hg;subst hP hw hK;obtain⟨h1,h2,⟨c0,d0,h3⟩,h4,h5⟩:=st;obtain⟨xs,ys,hq,zT,hx⟩:=hg;obtain⟨its,rv,p,hz⟩:=I.list hq;obtain⟨its',rv',p',hz'⟩:=I.list zT;have hl:=rv.length;have hl':=rv'.length;refine wpAny_pyNext_zip_end (I.ok.hd hc) Dz h1 h2 h3 h4 h5 p.isList p'.isList ?_ λh' eb=>⟨rfl,I.turnedL (t':=s.toks) hf λc o hb q=>eb c o (λe=>hb (by simp[e])) (λe=>hb (by simp[e])) (λe=>hb (by simp[e])) (λe=>hb (by simp[e])) q⟩
  rcases hx with hx|hx
  .exact .inl (by simp;lia)
  .exact .inr (by simp;lia)
 self:=λ_ _ _ _ _ st h=>wpAny_pyIter_zip st.1 h
section
variable{X:Cx}
def iZip(K:Frag)(ta:TA):TI:=λσ H R=>ta σ H λvs H1=>∃a b xs ys,vs=[.ref a,.ref b]/\SqL K H1 a xs/\SqL K H1 b ys/\R (Itz K a b) H1
def CA{a b:Ur}{ta:TA}{p pos:Pos}{elts:zq}{x1}{tp:Pos}(hg:Gl X "zip")(hm:X.mg "zip" = zj)(ha:PA X [a,b] ta)
  (hs:Uu [a,b] X.env=[(zm,eval a X.env),(zm,eval b X.env)]:=by rfl) (hs2:Uu [b] X.env=[(zm,eval b X.env)]:=by rfl):PI X (.Tuple elts x1 tp) (.Call (.Name "zip" p) [a,b] [] pos) (iZip X.K ta):=by
 intro pins s σ H R I h;refine Call_ (Tz I hg hm boot_zip (JH (thn (ha pos pins s σ H _ I h) λus s1 ⟨vs,H1,I1,r1,q1⟩=>?_) (by rw[hs,hs2]) (by rw[hs2];rfl)));obtain⟨l1,l2,xs,ys,e,hq,zT,q⟩:=q1;subst e;cases r1 with
 |cons r rr=>
  cases rr with
  |cons r' rr=>
   cases rr;cases (r);cases (r');obtain⟨its,rv,pl,hz⟩:=I1.list hq;obtain⟨its',rv',pl',hz'⟩:=I1.list zT;have n1:l1<s1.heap.objs.size:=by obtain⟨_,e,_⟩:=id pl.isList;exact Qh e
   have n2:l2<s1.heap.objs.size:=by obtain⟨_,e,_⟩:=id pl'.isList;exact Qh e
   have ne:∀i j:Nat,i≠j->s1.heap.objs.size+i≠s1.heap.objs.size+j:=λi j h e=>h (Nat.add_left_cancel e);have m1:∀m:Nat,l1≠s1.heap.objs.size+m:=λm=>QS (QE n1 (Nat.le_add_right _ _));have m2:∀m:Nat,l2≠s1.heap.objs.size+m:=λm=>QS (QE n2 (Nat.le_add_right _ _));refine call_zip_2 pl.isList pl'.isList λh' g1 g2 g3 g4 g5 gs kk=>?_;have I2   :=I1.kept (t':=s1.toks) kk;refine wpAny_pyIter_zip g1 ?_
   refine⟨s1.heap.objs.size+4,[s1.heap.objs.size+4,s1.heap.objs.size+2,s1.heap.objs.size+3,s1.heap.objs.size,s1.heap.objs.size+1],_,_,H1,rfl,I2,
    kT l1 l2 (s1.heap.objs.size+4) (s1.heap.objs.size+2) (s1.heap.objs.size+3) s1.heap.objs.size (s1.heap.objs.size+1) ⟨ne 2 4 (by decide),ne 3 4 (by decide),ne 0 4 (by decide),ne 1 4 (by decide),ne 2 3 (by decide),ne 2 0 (by decide),ne 2 1 (by decide),ne 3 0 (by decide),ne 3 1 (by decide),ne 0 1 (by decide),m1 4,m1 3,m1 0,m1 1,m2 4,m2 3,m2 0,m2 1⟩,⟨g1,g2,⟨_,_,g3⟩,g4,g5⟩,λc hc=>?_,q⟩
   have hc':s1.heap.objs.size<=c:=by
    have hc'   :=by simpa using hc
    rcases hc' with rfl|rfl|rfl|rfl|rfl<;>first|exact Nat.le_add_right _ _|exact Qp _
   exact I1.fpOk hc' (I1.hok.fresh hc')
end
end L2
namespace DL
open PySem PySem.Spec L2
open PyProof.Rows hiding St
section
variable{X:Cx}{B G0:Hp}{e a b c tg:Ur}{pos:Pos}{es rest:zq}
noncomputable def Yj(xs ys:zn):zn:=(xs.zip ys).map λp=>.tuple [p.1,p.2]
def vV{K}{G1:Hp}{a b:Up}{vs ws:List V}{ds es:zn}(h:SqL K G1 a vs)(h':SqL K G1 b ws)(r:Reps K G1 vs ds)(r':Reps K G1 ws es):WC K (Itz K a b) (Yj ds es) G1 where
 go:=λi G H s1 s2 hi=>by
  unfold Yj at hi;rw[Qb,JP]at hi;have hi1:i<vs.length:=by rw[r.length];lia
  have hi2:i<ws.length:=by rw[r'.length];lia
  exact⟨vs,vs[i],ws,ws[i],(s1.trans s2).seq h,Qe hi1,(s1.trans s2).seq h',Qe hi2⟩
 stop:=λi G H s1 s2 hi=>by
  unfold Yj at hi;rw[Qb,JP]at hi;refine⟨vs,ws,(s1.trans s2).seq h,(s1.trans s2).seq h',?_⟩;rw[r.length,r'.length]
  lia
 yld:=λi G H x H' d s1 s2 e y=>by
  obtain⟨p,u,v,hp,rfl,y1,y2,rfl⟩:=y;have z1:=y1 vs ((s1.trans s2).seq h);have z2:=y2 ws ((s1.trans s2).seq h');unfold Yj at e;rw[Qd]at e;cases q:(ds.zip es)[i]? with
  |none=>rw[q]at e;cases e
  |some pr=>rw[q]at e;cases e;rw[List.getElem?_zip_eq_some]at q;obtain⟨u',e1,r1⟩:=r.get q.1;obtain⟨v',e2,r2⟩:=r'.get q.2;rw[z1]at e1;rw[z2]at e2;cases e1;cases e2;exact⟨upd G p _,Ext.new s2 hp,.tup (SqT.of Zp) (.cons ((r1.mono s1).mono (ZM (s2.free hp))) (.cons ((r2.mono s1).mono (ZM (s2.free hp))) .nil))⟩
noncomputable def Wl:zn->Option zn
 |[.list xs,.list ys]=>zd (Yj xs ys)
 |_=>zj
def kS  (h:Wl x=zd l):∃xs ys,x=[.list xs,.list ys]/\l=Yj xs ys:=by
 unfold Wl at h;split at h
 .cases h;exact⟨_,_,rfl,rfl⟩
 simp_all
noncomputable def VF(f:M zn):M zn:=Kd f λx=>Ka (Wl x)
def Cz  {p2}{elts}{x1}{tp}(hg:Gl X "zip")(hm:X.mg "zip" = zj)(ha:PA X [a,b] (tDs X.K B G0 f))(hs:Uu [a,b] X.env=[(zm,eval a X.env),(zm,eval b X.env)]:=by rfl)(hs2:Uu [b] X.env=[(zm,eval b X.env)]:=by rfl) :
  PI X (.Tuple elts x1 tp) (.Call (.Name "zip" p2) [a,b] [] pos) (iD X.K B G0 (VF f)):=Wj (CA hg hm ha hs hs2) λσ H R q=>tM.toI  q λv H' G' ρ' x k r a=>by
 cases z:Wl x with
 |none=>rw[z]at a;exact a.elim
 |some l=>
  obtain⟨xs,ys,rfl,rfl⟩:=kS z;cases r with
  |cons r1 rr=>
   cases rr with
   |cons r2 rr=>cases rr;obtain⟨l1,vs,rfl,h1,q1⟩:=r1.lst_inv;obtain⟨l2,ws,rfl,h2,q2⟩:=r2.lst_inv;exact⟨l1,l2,vs,ws,rfl,k.gh.seq h1,k.gh.seq h2,a _ G' H' k (.refl _) (vV h1 h2 q1 q2)⟩
end
section
variable{X:Cx}{B G0:Hp}{e o a b c tg:Ur}{pos p2 p3:Pos}{es rest:zq}{te to ti:TE}
noncomputable def oIn:D->D->zE
 |.str i,.str j=>zd (inS i j)
 |x,.list xs=>if x.canLay0=zk/\UC xs=zk/\x.depth<=60 then zd (xs.any λy=>UE y x)else zj
 |x,.tuple xs=>if x.canLay0=zk/\UC xs=zk/\x.depth<=60 then zd (xs.any λy=>UE y x)else zj
 |_,_=>zj
noncomputable def ZW(x y:D):zE:=(oIn x y).map λt=>!t
noncomputable def Wm(x y:D):zE:=match y with
 |.list xs=>if x.canLay0=zk/\UC xs=zk/\x.depth<=60 then zd (xs.any λy=>UE y x)else zj
 |.tuple xs=>if x.canLay0=zk/\UC xs=zk/\x.depth<=60 then zd (xs.any λy=>UE y x)else zj
 |_=>zj
def D5(hu:X.A.units+64<cLine):OpB X (Uv .In) Wm:=by
 refine⟨λv u H Q=>∃G x y d,Same G H/\Rep X.K G v x/\Rep X.K G u y/\Wm x y=zd d/\Q _ H,?_,λv u G H x y d Q s rx ry e k=>⟨G,x,y,d,s,rx,ry,e,k⟩⟩;intro pins s σ H x y v u Q I rx ry ⟨G,dx,dy,d,sg,px,py,e,q⟩;unfold Wm at e;split at e
 .split at e
  .rename_i c
   cases e;obtain⟨as,ra⟩:=XF I sg px rx c.1;obtain⟨bs,rb⟩:=XF I sg py ry (c.2.1);exact SeqAt.in_list_reads rb ra c.2.1 c.1 (by have:=c.2.2;lia) ⟨.bl _,H,I,rfl,q⟩
  simp_all
 .split at e
  .rename_i c
   cases e;obtain⟨as,ra⟩:=XF I sg px rx c.1;obtain⟨bs,rb⟩:=XF I sg py ry (c.2.1);exact SeqAt.in_tuple_reads rb ra c.2.1 c.1 (by have:=c.2.2;lia) ⟨.bl _,H,I,rfl,q⟩
  simp_all
 simp_all
def Bg(hu:X.A.units+64<cLine):OpB X (Uv .NotIn) (λx y=>(Wm x y).map λt=>!t):=by
 refine⟨λv u H Q=>∃G x y d,Same G H/\Rep X.K G v x/\Rep X.K G u y/\(Wm x y).map _=zd d/\Q _ H,?_,λv u G H x y d Q s rx ry e k=>⟨G,x,y,d,s,rx,ry,e,k⟩⟩;intro pins s σ H x y v u Q I rx ry ⟨G,dx,dy,d,sg,px,py,e,q⟩;unfold Wm at e;split at e
 .split at e
  .rename_i c
   cases e;obtain⟨as,ra⟩:=XF I sg px rx c.1;obtain⟨bs,rb⟩:=XF I sg py ry (c.2.1);exact SeqAt.notIn_list_reads rb ra c.2.1 c.1 (by have:=c.2.2;lia) ⟨.bl _,H,I,rfl,q⟩
  simp_all
 .split at e
  .rename_i c
   cases e;obtain⟨as,ra⟩:=XF I sg px rx c.1;obtain⟨bs,rb⟩:=XF I sg py ry (c.2.1);exact SeqAt.notIn_tuple_reads rb ra c.2.1 c.1 (by have:=c.2.2;lia) ⟨.bl _,H,I,rfl,q⟩
  simp_all
 simp_all
def B_in(hu:X.A.units+64<cLine):OpB X (Uv .In) oIn:=(D7.or (D5 hu)).congr λx y=>by cases x<;>cases y<;>rfl
def D4(hu:X.A.units+64<cLine):OpB X (Uv .NotIn) ZW:=(CD.or (Bg hu)).congr λx y=>by cases x<;>cases y<;>rfl
def vU  {lo hi:Option Ur}{st:Ur}(he:PE X e te)(hl:PO X lo tl)(hu:PO X hi th)(hst:PO X (zd st) ts):PE X (.Subscript e (.Slice lo hi (zd st) p2) pos)
  (λσ H Q=>te σ H λx H1=>tl σ H1 λl H2=>th σ H2 λu H3=>ts σ H3 λt H4=>∃a xs,x=.ref a/\SqL X.K H4 a xs/\l=zj/\u=zj/\t=zd (-1)/\∀p,H4 p=zj->Q (.ref p) (upd H4 p (.lst xs.reverse))):=by
 intro pins s σ H Q I h;refine Subscript_ (thn (he pins s σ H _ I h) λv s1 ⟨x,H1,I1,r1,q1⟩=>?_);refine wpAny_Slice (thn (hl pins s1 σ H1 _ I1 q1) λvl s2 ⟨l,H2,I2,pl,q2⟩=>thn (hu pins s2 σ H2 _ I2 q2) λvu s3 ⟨u,H3,I3,pu,q3⟩=>thn (hst pins s3 σ H3 _ I3 q3) λvt s4 ⟨t,H4,I4,pt,q4⟩=>?_);obtain⟨a,xs,rfl,hx,rfl,rfl,rfl,q⟩:=q4;cases r1;have I5:Inv X pins σ H4 {s4 with heap:=s4.heap.push {cls:=.type "slice", data:=.fields #[vl,vu,vt]}}:=I4.kept (t':=s4.toks) λb ob q=>Qk _ q
 obtain⟨its,r,ht,hz⟩:=I5.list hx;have hlen:=r.length;have hg:Ut (model X.prog X.w) X.A (getItem (.ref a) (.ref s4.heap.objs.size)) (EP X pins σ Q) X.xe {s4 with heap:=s4.heap.push {cls:=.type "slice", data:=.fields #[vl,vu,vt]}}:=by refine wpAny_getItem_list_slice ht.isList (Heap.IsSliceOf.new ..) pl pu pt (by simp) ?_ (by rw[List.size_toArray]<;>lia);rw[PySem.W.krv_pick];refine⟨.ref _,_,I5.laid   (λb ob q=>Qk _ q) (Qp _) ?_,rfl,q _ (I5.hok.fresh (Qp _))⟩;exact⟨by rw[List.length_reverse];exact hz,its.reverse,0,r.reverse,QD _ zh⟩
 exact tail_any  ht.isList.typeIs slot_list_getitem.lookup hg (by with_unfolding_all rfl)
noncomputable def Se:D->zx->zx->zx->zp
 |.list xs,zj,zj,zd i=>if i = -1 then zd (.list xs.reverse)else zj
 |_,_,_,_=>zj
noncomputable def XN(f:M D)(lo hi st:M zx):M D:=Kd f λx=>Kd lo λl=>Kd hi λh=>Kd st λt=>Ka (Se x l h t)
def Am{lo hi}{st:Ur}{f:M D}{l h t}(he:PE X e (tD X.K B G0 f))(hl:PO X lo (tOi X.K B G0 l))(hu:PO X hi (tOi X.K B G0 h))(hst:PO X (zd st) (tOi X.K B G0 t)) :
  PE X (.Subscript e (.Slice lo hi (zd st) p2) pos) (tD X.K B G0 (XN f l h t)):=
 Kz (vU he hl hu hst) λσ H Q q=>by
  refine tM.one  q λv H2 G ρ x k r a=>?_;refine tM.nx  k a λl' H3 G3 ρ3 xl k3 s3 r3 a3=>?_;refine tM.nx  k3 a3 λh' H4 G4 ρ4 xh k4 s4 r4 a4=>?_;refine tM.nx  k4 a4 λt' H5 G5 ρ5 xt k5 s5 r5 a5=>?_;subst r3 r4 r5
  cases x with
  |list xs=>
   cases l' with
   |some _=>exact a5.elim
   |none=>
   cases h' with
   |some _=>exact a5.elim
   |none=>
   cases t' with
   |none=>exact a5.elim
   |some i=>
   obtain⟨ad,vs,rfl,h1,r1⟩:=(((r.mono s3).mono s4).mono s5).lst_inv;by_cases hi:i = -1
   .subst hi
    exact⟨ad,vs,rfl,k5.gh.seq h1,rfl,rfl,rfl,λp hp=>aft.done a5 k5 (Ext.new k5.gh hp) (.lst (SqL.of Zp) (r1.reverse.mono (ZM (k5.gh.free hp))))⟩
   .unfold Ka Se at a5
    dsimp only at a5;rw[QH hi]at a5;exact a5.elim
  |_=>exact a5.elim
noncomputable def TM:zn->Option zn
 |[.list xs]=>zd xs
 |[.tuple xs]=>zd xs
 |_=>zj
def vT  (h:TM x=zd l):x=[.list l]∨x=[.tuple l]:=by
 unfold TM at h;split at h
 .cases h;exact .inl zh
 .cases h;exact .inr zh
 simp_all
def we:bootBuiltins "list" = zd (.type "list"):=by decide +kernel
noncomputable def T3(i:Nat):M zn:=λρ=>match ρ[i]? with
 |some (zd (.pub d))=>Ka (TM [d]) ρ
 |some (zd (.own ds))=>.ok ds ρ
 |_=>.bad
def vS  (hg:Gl X "list")(hm:X.mg "list" = zj)(ho:PE X a (Zm i))(he:Uu [a] X.env=(zm,eval a X.env)::Uu [] X.env:=by rfl) :
  PE X (.Call (.Name "list" p2) [a] [] pos) (tL X.K B G0 (T3 i)):=
 Kz (Lb yD hg hm we (T4 ho RC he) (by decide) (by decide) he zh) λσ H Q ⟨G,ρ,k,q⟩=>by
  unfold T3 at q;cases z:ρ[i]? with
  |none=>rw[z]at q;exact q.elim
  |some oo=>
   cases oo with
   |none=>rw[z]at q;exact q.elim
   |some sl=>
    cases sl with
    |deep _ _=>rw[z]at q;exact q.elim
    |own ds=>rw[z]at q;obtain⟨ad,vs,h1,h2,h3,h4,h5⟩:=k.own i ds z;exact⟨.ref ad,h1,ad,vs,rfl,.inl (SqL.of h4),λl hp=>q l vs G _ (k.ext (Ext.hid k.gh hp)) (.refl _) (NewL.of k hp h5)⟩
    |pub d=>
     rw[z]at q;dsimp only[Ka]at q;obtain⟨v,h1,h2⟩:=k.pub i d z;cases z2:TM [d]with
     |none=>rw[z2]at q;exact q.elim
     |some l=>
      rcases vT z2 with e|e
      .cases e
       obtain⟨p,ws,rfl,g1,r1⟩:=h2.lst_inv;exact⟨_,h1,p,ws,rfl,.inl (k.gh.seq g1),λad hp=>q ad ws G _ (k.ext (Ext.hid k.gh hp)) (.refl _) (NewL.of k hp r1)⟩
      .cases e
       obtain⟨p,ws,rfl,g1,r1⟩:=h2.tup_inv;exact⟨_,h1,p,ws,rfl,.inr (XA k.gh g1),λad hp=>q ad ws G _ (k.ext (Ext.hid k.gh hp)) (.refl _) (NewL.of k hp r1)⟩
noncomputable def Pr:zn->zp
 |[.int i]=>zd (.int i)
 |[.bool b]=>zd (.int (if b then 1 else 0))
 |_=>zj
def Bf:YV X (.type "int") Pr:=by
 refine⟨_,vw,λvs G H ds d Q s r e k=>?_⟩;unfold Pr at e;split at e
 .cases e
  obtain⟨v,rfl,q⟩:=r.one_inv;rw[q.int_inv];exact .inl ⟨_,rfl,k _ G H (.refl s) (.int _)⟩
 .cases e
  obtain⟨v,rfl,q⟩:=r.one_inv;rw[q.bl_inv];exact .inr ⟨_,rfl,k _ G H (.refl s) (.int _)⟩
 simp_all
def D3  {zs:List Str}(hg:Gl X x)(hm:∃ad o its n,X.mg x=zd (.ref ad)/\X.K.lookup ad=zd o/\o.cls=.type "tuple" /\ o.data=.seq its n/\its.size<=Us/\Vals (zs.map V.str) its.toList)(hd:(x==("__debug__" : Str))=zm:=by decide) :
  PE X (.Name x pos) (tD X.K B G0 (UR (.tuple (zs.map UA)))):=by
 obtain⟨ad,o,its,n,hm,h1,h2,h3,h4,h5⟩:=hm;refine Kz (GV (v:=.ref ad) hg hm zh hd) λσ H Q ⟨G,ρ,k,a⟩=>aft.now a k (.tup (.inr ⟨o,its,n,h1,h2,h3,h4,h5⟩) ?_)
 have:∀zs:List Str,Reps X.K G (zs.map V.str) (zs.map UA):=λzs=>by
  induction zs with
  |nil=>exact .nil
  |cons z r ih=>exact .cons (.str _) ih
 simp_all
end
section
variable{X:Cx}{B G0:Hp}{e o a b c tg:Ur}{pos p2 p3 p4:Pos}{es rest:zq}{te to ti:TE}
theorem Vx:∀{ns}{us},Vals (ns.map V.int) us->PyProof.Rows.IntsAre us ns
 |[],_,.nil=>.nil
 |n::ns,_,.cons h t=>by obtain⟨tk,rfl⟩:=h;exact .cons n tk (Vx t)
noncomputable def Py(ns:zo):Nat:=(PyProof.Rows.firstMet (λi=>ns.getD i 0) ns.length).length
def vR(hc:X.calm=zk):YS X (.type "set") (λxs H Q=>∃l,∃ns:zo,xs=[.ref l]/\SqL X.K H l (ns.map V.int)/\ns.length+1<4096/\∀S p,H p=zj->Q (.ref p) (upd H p (.set S (Py ns)))):=by
 intro pins s σ H xs us Q I rx h;obtain⟨l,ns,rfl,hq,hb,q⟩:=h;obtain⟨u,rfl,ru⟩:=rx.one;cases ru;obtain⟨its,rv,p,hz⟩:=I.list hq;have hi:=Vx rv;have hn:its.toArray.size=ns.length:=by have:=rv.length;grind
 refine call_set_list (I.ok.hd hc) p.isList  (by simpa using hi) (by rw[hn];exact hb) λh' tk hS hk=>?_
 rw[hn]at hS;refine⟨.ref s.heap.objs.size,_,I.laid  (λb o e=>hk b o (Qh e) e) (Qp _) (show Yv X.prog X.w _ h' _ (.set _ _)from hS),rfl,q _ _ (I.hok.fresh (Qp _))⟩
def vQ:YS X (.builtin "len") (λxs H Q=>∃p S n,xs=[.ref p]/\H p=zd (.set S n)/\Q (.int n) H):=by
 intro pins s σ H xs us Q I rx h;obtain⟨p,S,n,rfl,hp,q⟩:=h;obtain⟨u,rfl,ru⟩:=rx.one;cases ru;obtain⟨o,es,ep,t,h1,h2,h3,h4,h5,h6,h7,h8⟩:=(I.hok p _ hp)
 have hsb:scanBound=4096:=rfl;refine call_len_set h1 h2 h3 h7 (by lia) ?_;rw[h8];exact⟨.int n,H,I.tok _,⟨_,rfl⟩,q⟩
noncomputable def YL:zn->Option zo
 |[]=>zd []
 |.int i::r=>(YL r).map (i :: ·)
 |_=>zj
theorem R9{K}{G}:∀{vs}{ds}{ns},Reps K G vs ds->YL ds=zd ns->vs=ns.map V.int
 |_,_,ns,.nil,e=>by cases e;rfl
 |_,_,ns,.cons (d:=d) r t,e=>by
  cases d with
  |int b=>
   unfold YL at e;cases z:YL _ with
   |none=>rw[z]at e;cases e
   |some cs=>rw[z]at e;cases e;rw[r.int_inv,R9 t z];rfl
  |_=>cases e
def R3(ns):YL (ns.map int)=zd ns:=by
 induction ns with
 |nil=>rfl
 |cons b r ih=>rw[QC,YL,ih];rfl
noncomputable def Vp:zn->zp
 |[.list ds]=>(match YL ds with
  |some ns=>if ns.length+1<4096 then zd (.int (Py ns))else zj
  |none=>zj)
 |_=>zj
def wZ   (h:Vp xs=zd d):∃ds ns,xs=[.list ds]/\YL ds=zd ns/\ns.length+1<4096/\d=.int (Py ns):=by
 unfold Vp at h;split at h
 .rename_i ds
  cases z:YL ds with
  |none=>simp_all
  |some ns=>simp_all
 simp_all
def vP:bootBuiltins "set" = zd (.type "set"):=by decide +kernel
def wd  (hc:X.calm=zk)(hg:Gl X "len")(hm:X.mg "len" = zj)(hg2:Gl X "set")(hm2:X.mg "set" = zj)(ha:PA X [a] (tDs X.K B G0 f))(he:Uu [a] X.env=(zm,eval a X.env)::Uu [] X.env:=by rfl)
  (aq:Uu [.Call (.Name "set" p2) [a] [] p3] X.env=(zm,eval (.Call (.Name "set" p2) [a] [] p3) X.env)::Uu [] X.env:=by rfl) :
  PE X (.Call (.Name "len" p4) [.Call (.Name "set" p2) [a] [] p3] [] pos) (tD X.K B G0 (K4 Vp f)):=
 Kz (OZ vQ hg hm boot_len (T4 (Lb (vR hc) hg2 hm2 vP ha (by decide) (by decide) he zh) RC aq) (by decide) (by decide) aq zh) λσ H Q q=>tM.one  q λvs H2 G ρ x k r a=>by obtain⟨d,e,a⟩:=a.opt;obtain⟨ds,ns,rfl,z,c,rfl⟩:=wZ e;obtain⟨v,rfl,q1⟩:=r.one_inv;obtain⟨l,ws,rfl,h1,r1⟩:=q1.lst_inv;have:=R9 r1 z;subst this;refine⟨l,ns,rfl,k.gh.seq h1,c,λS p hp=>⟨p,S,Py ns,rfl,Zp,?_⟩⟩;exact aft.done a k (Ext.hid k.gh hp) (.int _)
end
end DL
namespace L2
open PySem PySem.Spec PyProof.Rows
end L2
namespace DL
open PySem PySem.Spec L2
open PyProof.Rows hiding St
end DL
namespace L2
open PySem PySem.Spec PyProof.Rows
section
variable{prog:Uo}{w:World}{A:Around}{E:Ul->Um->Prop}{s:Um}{M:Model}{env:Env}
def Al  {T}{args}{kws}{Q}(hp:args.any (·.1)=zm)(hk:kws.any (·.1.isNone)=zm)
  (h:Ut M A (evalArgs (.type T) zk args kws) (λa s1=>Ut M A (call (.type T) a.pos a.kw) Q E s1) E s):Ut M A (callWith pos (.type T) [] args kws) Q E s:=by
 refine Qf (wpAny_holding (QK h (λa s1 h1=>Qf (JA ?_)) λ_ _ z=>z));simp only[hp,hk];refine Qf (Qn ?_);exact Qf (QK h1 (λr s2 hr=>Qf (wpAny_holding (wpAny_point (Qn hr)))) λ_ _ z=>z)
def kQ(l:Up)(t:Tok)(items:Array Ul)(n:Nat)(dct:zD)(sl) :
  Meets (Builtin.«enumerate.__new__» ⟨[.type "enumerate", .ref l],[("start", .int 1 t)]⟩) (λ_ R s=>s.heap.get? l=zd ⟨.type "list", dct,.seq items n,sl⟩ /\
   R (.ok (.ret (.ref (s.heap.push {cls:=.type "list_iterator", data:=.fields #[.ref l,.int 0 0]}).objs.size))) {s with heap:=(s.heap.push {cls:=.type "list_iterator", data:=.fields #[.ref l,.int 0 0]}).push {cls:=.type "enumerate", data:=.fields #[.none,.bool zm,.ref s.heap.objs.size,rawInt 1,.none,.none]}}):=
 .of_wp λprog w A R s h=>by
  obtain⟨hl,h⟩:=h;have hsub:=sub_enumerate;have hL:Heap.IsList _ l items:=⟨_,hl,rfl,n,rfl⟩
  wp_walk using AutoSeq1.wpAny_loadPart' hl
  refine wpAny_stack_any λst=>(Qn ?_);split
  .rename_i c _ _ _ _ _
   cases (c==Value.type "enumerate")<;>(wp_walk using(AutoSeq1.wpAny_loadPart' hl),(Jx hL))<;>exact⟨_,rfl,h⟩
  ·(wp_walk using(AutoSeq1.wpAny_loadPart' hl),(Jx hL));exact⟨_,rfl,h⟩
def yC{T newId initId:String}{Bn Bi:Builtin}{args:zr}{kw:List (Str×Ul)}{S:PySem.Spec}{Q Q1}(ft:TypeCalled T newId initId)
  (hct:checkTypeCall T ⟨args,kw⟩=pure ()) (hcn:checkBuiltinCall newId ⟨.type T::args,kw⟩=pure ()) (eN:entryFor table newId=zd Bn) (eI:entryFor table initId=zd Bi)
  (g:Meets (Bn ⟨.type T::args,kw⟩) S) (h:S A.in1 (wants Q1 E) s)
  (hnext:∀obj s1,Q1 obj s1->s1.TypeIs obj T/\argsOk initId ⟨obj::args,kw⟩/\∃Si,Meets (Bi ⟨obj::args,kw⟩) Si/\Si A.in1 (wants (λr s2=>r=.none/\Q obj s2) E) s1) :
  Ut (model prog w) A (call (.type T) args kw) Q E s:=by
 obtain⟨c,tl,hmro⟩:=ft.mro;have hmade:=ft.made;have hsub:=ft.sub;refine wpAny_call (codeAny_of_tree ?_);refine Qn ⟨Code.quiet_builtin _ (by decide +kernel),(codeAny_builtin F.entry_type_call ?_)⟩;have h1:=ft.notType;have h2:=ft.canCreate
 repeat' (any_goals (first|wp_step|assumption))
 refine codeAny_mono (codeAny_call_builtin ft.plain eN (wpAny_of_eq hcn (g prog w A.in1 _ s h))) λr s1 hr=>?_
 match r,hr with
 |.error e,hr=>exact hr
 |.ok (.ret obj),hr=>
  obtain⟨hT,hok,Si,gi,hsi⟩:=hnext _ _ hr;have hli:=ft.init.lookup;have hbi:=ft.init.bind obj
  repeat' (any_goals (first|wp_step|assumption))
  refine codeAny_mono (codeAny_call_builtin ft.init.plain eI (ft.init.check _ _ _ _ _ _ _ _ hT hok (gi prog w A.in1 _ s1 hsi))) λr2 s2 zX=>?_
  match r2,zX with
  |.error e,zX=>exact zX
  |.ok (.ret r),zX=>
   obtain⟨rfl,hq⟩:=zX
   repeat' (any_goals (first|wp_step|assumption))
  |.ok .next,zX=>exact zX.elim
  |.ok .brk,zX=>exact zX.elim
  |.ok .cont,zX=>exact zX.elim
 |.ok .next,hr=>exact hr.elim
 |.ok .brk,hr=>exact hr.elim
 |.ok .cont,hr=>exact hr.elim
def wY   {rest}{kw}(hl:typeLookup (.type T) "__init__" = pure (zd (.builtin "object.__init__")))
  (hm:Bind.madeBy (.type T)=pure (zd newId)) (hne:(zd newId != zd "object.__new__")=zk) :
  Meets (Builtin.«object.__init__» ⟨self::rest,kw⟩) (λ_ R s=>s.TypeIs self T/\R (.ok (.ret .none)) s):=by
 refine .of_wp λprog w A R s hs=>?_
 obtain⟨hT,hq⟩:=hs;cases rest with
 |nil=>
  cases kw with
  |nil=>exact Qn ⟨_,rfl,hq⟩
  |cons k kw=>(repeat' (any_goals (first|wp_step|assumption)));exact⟨_,rfl,hq⟩
 |cons a rest=>(repeat' (any_goals (first|wp_step|assumption)));exact⟨_,rfl,hq⟩
def wX(a)(t):checkTypeCall "enumerate" ⟨[a],[("start", .int 1 t)]⟩=pure ():=by kernel_rfl
def wc(a)(t):checkBuiltinCall "enumerate.__new__" ⟨[.type "enumerate", a],[("start", .int 1 t)]⟩=pure ():=by kernel_rfl
def yl(o a)(t):argsOk "object.__init__" ⟨[o,a],[("start", .int 1 t)]⟩:=by kernel_rfl
def wb{l:Up}{items:Array Ul}{t:Tok}{Q}(hL:s.heap.IsList l items)
  (h:∀h',IsEnum h' (s.heap.objs.size+1) s.heap.objs.size 1 .none->h'.IsListIter s.heap.objs.size l 0->(∀b o,s.heap.get? b=zd o->h'.get? b=zd o)->Q (.ref (s.heap.objs.size+1)) {s with heap:=h'}) :
  Ut (model prog w) A (call (.type "enumerate") [.ref l] [("start", .int 1 t)]) Q E s:=by
 obtain⟨⟨c,dct,dt,sl⟩,hl,hc,n,hd⟩:=hL;subst hc hd;have hz:(s.heap.push {cls:=.type "list_iterator", data:=.fields #[.ref l,.int 0 0]}).objs.size=s.heap.objs.size+1:=JF ..;have he:IsEnum ((s.heap.push {cls:=.type "list_iterator", data:=.fields #[.ref l,.int 0 0]}).push {cls:=.type "enumerate", data:=.fields #[.none,.bool zm,.ref s.heap.objs.size,rawInt 1,.none,.none]}) (s.heap.objs.size+1) s.heap.objs.size 1 .none:=by rw[←hz];exact QD _ zh
 refine yC F.called_enumerate (wX _ t) (wc _ t) F.entry_enumerate_new F.entry_object_init (kQ l t items n dct sl) (Q1:=λobj s1=>s1.TypeIs obj "enumerate" /\ Q obj s1) ⟨hl,?_⟩ λobj s1 hq=>
  ⟨hq.1,yl obj _ t,_,wY F.called_enumerate.init.lookup F.called_enumerate.made (by decide),hq.1,rfl,hq.2⟩
 rw[hz];exact⟨⟨_,he,rfl⟩,h _ he ⟨_,Qk _ (QD _ zh),rfl,rfl⟩ λb o x=>Qk _ (Qk _ x)⟩
end
section
variable{prog:Uo}{w:World}{A:Around}{E:Ul->Um->Prop}{s:Um}
def vO{en it l:Up}{i:Nat}{j:Int}{items:Array Ul}{x old:Ul}{Q:zw->Um->Prop}(st:IsEnum s.heap en it j old)(li:s.heap.IsListIter it l i)(ls:s.heap.IsList l items)
  (at_:items[i]?=zd x) (ne:en≠it)
  (k:∀h',IsEnumOut h' en it (j+1) x s.heap.objs.size->h'.IsListIter it l (i+1)->h'.get? s.heap.objs.size=zd {cls:=.type "tuple", data:=.seq #[.int j s.toks,x]}->(∀b o,b≠en->b≠it->s.heap.get? b=zd o->h'.get? b=zd o) ->
   Q (zd (.ref s.heap.objs.size)) {s with heap:=h',toks:=s.toks+1}):Ut (model prog w) A (pyNext (.ref en)) Q E s:=by
 have ty:s.TypeIs (.ref en) "enumerate" :=⟨_,st,rfl⟩
 have lt:en<s.heap.objs.size:=Qh st;unfold pyNext;refine Qf (wpAny_attempt (wpAny_callSpecial?_slot (name:=UG "__next__") ty F.slot_enumerate_next (wpAny_call_entry F.slot_enumerate_next ty F.entry_enumerate_next ?_ (F.args_enumerate_next_1 _))));show Ut _ _ (field (.ref en) 2 >>= _) _ _ s;refine Qf (wpAny_field st zh (x:=.ref it) zh ?_);refine Qf (wpAny_nextOf_list_item li ls at_ λm1 li1 c1=>?_);have c1:Heap.SameBut it s.heap m1:=c1;have st1:IsEnum m1 en it j old:=(c1.2 en ne).trans st;show Ut _ _ (field (.ref en) 3 >>= _) _ _ {s with heap:=m1};refine Qf (wpAny_field st1 zh (x:=rawInt j) zh ?_);show Ut _ _ (field (.ref en) 4 >>= _) _ _ {s with heap:=m1};refine Qf (wpAny_field st1 zh (x:=.none) zh ?_);show Ut _ _ (mkInt j >>= _) _ _ {s with heap:=m1};refine Qf (wpAny_mkInt ?_);refine wpAny_bind (wpAny_setField_rec st1 (by simp) λm2 st2 c2=>?_);have c2:Heap.SameBut en m1 m2:=c2;have st2:IsEnum m2 en it (j+1) old:=st2;show Ut _ _ (setField (.ref en) 4 .none >>= _) _ _ {s with heap:=m2,toks:=s.toks+1};refine wpAny_bind (wpAny_setField_rec st2 (by simp) λm3 st3 c3=>?_);have c3:Heap.SameBut en m2 m3:=c3;have st3:IsEnum m3 en it (j+1) old:=st3;refine Qf (wpAny_newTuple ?_);have z3:m3.objs.size=s.heap.objs.size:=c3.1.trans (c2.1.trans c1.1);have st4:IsEnum (m3.push {cls:=.type "tuple", data:=.seq #[.int j s.toks,x]}) en it (j+1) old:=Qk _ (show IsEnum m3 en it (j+1) old from st3);have tp4:(m3.push {cls:=.type "tuple", data:=.seq #[.int j s.toks,x]}).get? s.heap.objs.size=zd {cls:=.type "tuple", data:=.seq #[.int j s.toks,x]}:=by rw[←z3];exact QD _ zh
 have kp4:∀b o,b≠en->b≠it->s.heap.get? b=zd o->(m3.push {cls:=.type "tuple", data:=.seq #[.int j s.toks,x]}).get? b=zd o:=λb o n1 n2 q=>Qk _ ((c3.2 b n1).trans ((c2.2 b n1).trans ((c1.2 b n2).trans q)))
 have li4:(m3.push {cls:=.type "tuple", data:=.seq #[.int j s.toks,x]}).IsListIter it l (i+1):=by obtain⟨o,q,r⟩:=li1;exact⟨o,Qk _ ((c3.2 it (Ne.symm ne)).trans ((c2.2 it (Ne.symm ne)).trans q)),r⟩
 generalize m3.push {cls:=.type "tuple", data:=.seq #[.int j s.toks,x]}=m4 at st4 tp4 kp4 li4;rw[z3];refine Qf ?_;unfold Builtin.SmallTypes.ownedTupleIsFree Builtin.SmallTypes.ownedTupleHandOut;refine Qf (wpAny_field st4 zh (x:=.none) zh (Qn ?_));simp only[if_true];refine wpAny_bind (wpAny_rule (wpAny_bind (wpAny_field st4 zh (x:=old) zh (wpAny_bind (wpAny_setField_rec st4 (by simp) λm5 zY c5=>?_)))));have c5:Heap.SameBut en m4 m5:=c5;have zY:IsEnum m5 en it (j+1) x:=zY;refine wpAny_bind (wpAny_bind (wpAny_setField_rec zY (by simp) λm6 st6 c6=>?_));have c6:Heap.SameBut en m5 m6:=c6;have st6:IsEnumOut m6 en it (j+1) x s.heap.objs.size:=st6;refine wpAny_setField_rec st6 (by simp) λm7 st7 c7=>?_
 have c7:Heap.SameBut en m6 m7:=c7;have st7:IsEnumOut m7 en it (j+1) x s.heap.objs.size:=st7;have up:∀b,b≠en->m7.get? b=m4.get? b:=λb n=>(c7.2 b n).trans ((c6.2 b n).trans (c5.2 b n));refine Qf (wpAny_letGo (Qn ⟨_,rfl,Qn (k m7 st7 ?_ ((up _ (JE lt)).trans tp4) λb o n1 n2 q=>(up b n1).trans (kp4 b o n1 n2 q))⟩))
 obtain⟨o,q,r⟩:=li4;exact⟨o,(up it (Ne.symm ne)).trans q,r⟩
def xW  {i:Nat}{j:Int}{items:Array Ul}{old:Ul}{Q}(hh:A.handled=zj)(st:IsEnum s.heap en it j old)(li:s.heap.IsListIter it l i)(ls:s.heap.IsList l items)
  (at_:items[i]?=zj) (k:∀h',Heap.ExtBut it s.heap h'->Q zj {s with heap:=h'}):Ut (model prog w) A (pyNext (.ref en)) Q E s:=by
 have ty:s.TypeIs (.ref en) "enumerate" :=⟨_,st,rfl⟩
 refine Qf (wpAny_attempt (wpAny_callSpecial?_slot  ty F.slot_enumerate_next (wpAny_call_entry F.slot_enumerate_next ty F.entry_enumerate_next ?_ (F.args_enumerate_next_1 _))));show Ut _ _ (field (.ref en) 2 >>= _) _ _ s;refine Qf (wpAny_field st zh  rfl (Qf  (wpAny_nextOf_list_end hh li ls at_ λh' z c y=>?_)));obtain⟨o,q,t⟩:=y;exact Qf (wpAny_isInstance  (b:=zk) ⟨o,q,t⟩ isSubtype_stop (Qn (k _ c)))
end
noncomputable def Rq(K:Frag)(a:Up):It:=
 ⟨λi H=>∃xs x,SqL K H a xs/\xs[i]?=zd x,
  λi H v H'=>∃p x,H p=zj/\v=.ref p/\(∀xs,SqL K H a xs->xs[i]?=zd x)/\H'=upd H p (.tup [.int (1+(i:Int)),x]),
  λi H=>∃xs,SqL K H a xs/\xs.length<=i⟩
def wa{P:Uo}{w:World}{K:Frag}{elts:zq}{x1}{tp:Pos}(a e it:Up)(hne:e≠it) :
  Turn P w K (.Tuple elts x1 tp) (Rq K a) [e,it] e (λi h=>(∃old,IsEnum h e it (1+(i:Int)) old)/\h.IsListIter it a i) where
 mem:=by simp
 obj:=λi h st b hb=>by
  obtain⟨⟨old,he⟩,o,ho,c,d⟩:=st;have hb':b=e∨b=it:=by simpa using hb
  rcases hb' with rfl|rfl
  .exact⟨_,he,λv z=>by have z'   :=z;cases z'⟩
  .exact⟨o,ho,λv z=>by rw[d]at z;cases z⟩
 keep:=λi h h' st k=>by obtain⟨⟨old,he⟩,hi⟩:=st;exact⟨⟨old,k e (by simp) _ he⟩,hi.at λo q=>k it (by simp) o q⟩
 item:=by
  intro X hP hw hK hc i pins s σ H E I hf st hg;subst hP hw hK;obtain⟨⟨old,he⟩,hi⟩:=st;obtain⟨xs,x,hq,hx⟩:=hg;obtain⟨its,rv,p,hz⟩:=I.list hq;obtain⟨u,hu,ru⟩:=rv.get hx;refine vO he hi p.isList (x:=u) (by simpa using hu) hne λh1 out hi1 ht kk=>?_
  refine⟨_,rfl,wpAny_letOwnedTupleGo_enum out λh2 aq hs2=>?_⟩;have hel:e<s.heap.objs.size:=Qh he;have zP:Heap.SameBut e h1 h2:=hs2;have ht2   :=(zP.2 _ (JE hel)).trans ht
  have kk2:∀b o,b∉[e,it]->s.heap.get? b=zd o->h2.get? b=zd o:=λb o hb q=>by
   have zM:b≠e:=λz=>hb (by simp[z])
   have hbi:b≠it:=λz=>hb (by simp[z])
   exact(zP.2 b zM).trans (kk b o zM hbi q)
  have hn:H s.heap.objs.size=zj:=I.hok.fresh (Qp _)
  have I2:Inv X pins σ (upd H s.heap.objs.size (.tup [.int (1+(i:Int)),x])) {s with heap:=h2,toks:=s.toks+1}:=
   I.turnedNew (fp:=[e,it]) hf kk2 (Qp _) ⟨by show 2<=Us;decide,[.int (1+(i:Int)) s.toks,u],.cons ⟨_,rfl⟩ (.cons ru .nil),⟨_,ht2,rfl,_,rfl⟩⟩
  refine⟨.ref s.heap.objs.size,_,I2,rfl,⟨_,x,hn,rfl,λys hy=>by rw[I.list_inj hy hq];exact hx,rfl⟩,⟨⟨u,?_⟩,?_⟩,λb hb=>?_⟩
  .have e2:(1+((i+1:Nat):Int))=1+(i:Int)+1:=by lia
   rw[e2];exact aq
  .exact hi1.at λo q=>(zP.2 it (Ne.symm hne)).trans q
  .have hlt:b<s.heap.objs.size:=by
    have hb':b=e∨b=it:=by simpa using hb
    rcases hb' with rfl|rfl
    .exact hel
    .obtain⟨o,ho,_⟩:=hi;exact Qh ho
   rw[KP (QS hlt)];exact(hf b hb).1
 done:=by intro X hP hw hK hc i pins s σ H E I hf st hg;subst hP hw hK;obtain⟨⟨old,he⟩,hi⟩:=st;obtain⟨xs,hq,hx⟩:=hg;obtain⟨its,rv,p,hz⟩:=I.list hq;have hl:=rv.length;exact xW (I.ok.hd hc) he hi p.isList (by simp;lia) λh' eb=>⟨rfl,I.turnedL (t':=s.toks) hf λb o hb q=>eb b o (λz=>hb (by simp[z])) q⟩
 self:=λ_ _ _ _ _ st h=>by obtain⟨⟨old,he⟩,_⟩:=st;exact wpAny_pyIter_enum he h
section
variable{X:Cx}
def kP{a:Ur}{ta:TA}{p pos k1 k2:Pos}{j}{elts}{x1}{tp:Pos}(hg:Gl X "enumerate")(hm:X.mg "enumerate" = zj)(ha:PA X [a] ta)
  (hs:backTo pos (Uu [a] X.env)=(zm,eval a X.env)::backTo pos (Uu [] X.env):=by rfl) (hpl:(backTo pos (Uu [a] X.env)).any (·.1)=zm:=by rfl) :
  PI X (.Tuple elts x1 tp) (.Call (.Name "enumerate" p) [a] [⟨zd "start", .Constant (.int 1) j k1,k2⟩] pos) (λσ H R=>ta σ H λvs H1=>∃a xs,vs=[.ref a]/\SqL X.K H1 a xs/\R (Rq X.K a) H1):=by
 intro pins s σ H R I h;refine wpAny_Call_Name_kw (Tz I hg hm boot_enumerate (Al hpl zh ?_));rw[hs];refine evalArgs_kwB zh ?_;rw[←hs];refine thn (ha pos pins s σ H _ I h) λus s1 ⟨vs,H1,I1,r1,q1⟩=>?_;refine kws_cons (wpAny_Constant_int (kws_nil ?_))
 obtain⟨l,xs,e,hq,q⟩:=q1;subst e;cases r1 with
 |cons r rr=>
  cases rr;cases (r);have I1':=I1.tok (s1.toks+1);obtain⟨its,rv,pl,hz⟩:=I1'.list hq;refine wb pl.isList λh' he hi kk=>?_;have I2   :=I1'.kept (t':=s1.toks+1) kk;refine wpAny_pyIter_enum he ?_
  refine⟨s1.heap.objs.size+1,[s1.heap.objs.size+1,s1.heap.objs.size],_,_,H1,rfl,I2,wa l _ _ (Nat.succ_ne_self _),⟨⟨_,he⟩,hi⟩,λb hb=>?_,q⟩;have hb'   :=by simpa using hb
  rcases hb' with rfl|rfl
  .exact I1.fpOk (JR _) (I1.hok.fresh (JR _))
  .exact I1.fpOk (Qp _) (I1.hok.fresh (Qp _))
end
end L2
namespace DL
open PySem PySem.Spec L2
open PyProof.Rows hiding St
section
variable{X:Cx}{B G0:Hp}{e a b c tg:Ur}{pos:Pos}{es rest:zq}
def yk{K}{G1}{ad}{vs}{ds}(h:SqL K G1 ad vs)(r:Reps K G1 vs ds):WC K (Rq K ad) (Yu 1 ds) G1 where
 go:=λi G H s1 s2 hi=>by
  rw[Yt]at hi;have hi':i<vs.length:=by rw[r.length];exact hi
  exact⟨vs,vs[i],(s1.trans s2).seq h,Qe hi'⟩
 stop:=λi G H s1 s2 hi=>by rw[Yt]at hi;exact⟨vs,(s1.trans s2).seq h,by rw[r.length];exact hi⟩
 yld:=λi G H x H' d s1 s2 e y=>by
  obtain⟨p,v,hp,rfl,y1,rfl⟩:=y;have z1:=y1 vs ((s1.trans s2).seq h);rw[Nf]at e;cases q:ds[i]? with
  |none=>rw[q]at e;cases e
  |some dd=>rw[q]at e;cases e;obtain⟨v',e1,r1⟩:=r.get q;rw[z1]at e1;cases e1;refine⟨upd G p _,Ext.new s2 hp,.tup (SqT.of Zp) (.cons ?_ (.cons ((r1.mono s1).mono (ZM (s2.free hp))) .nil))⟩;exact .int _
noncomputable def RH:zn->Option zn
 |[.list ds]=>zd (Yu 1 ds)
 |_=>zj
noncomputable def NL(f:M zn):M zn:=Kd f λx=>Ka (RH x)
def v8  (h:RH x=zd l):∃ds,x=[.list ds]/\l=Yu 1 ds:=by
 unfold RH at h;split at h
 .simp_all
 simp_all
def kO  {p2 k1 k2}{j}{elts}{x1}{tp}(hg:Gl X "enumerate")(hm:X.mg "enumerate" = zj)(ha:PA X [a] (tDs X.K B G0 f))
  (hs:backTo pos (Uu [a] X.env)=(zm,eval a X.env)::backTo pos (Uu [] X.env):=by rfl) (hpl:(backTo pos (Uu [a] X.env)).any (·.1)=zm:=by rfl) :
  PI X (.Tuple elts x1 tp) (.Call (.Name "enumerate" p2) [a] [⟨zd "start", .Constant (.int 1) j k1,k2⟩] pos) (iD X.K B G0 (NL f)):=Wj (kP hg hm ha hs hpl) λσ H R q=>tM.toI  q λv H' G' ρ' x k r a=>by
 cases z:RH x with
 |none=>rw[z]at a;exact a.elim
 |some l=>obtain⟨ds,rfl,rfl⟩:=v8 z;obtain⟨v,rfl,q⟩:=r.one_inv;obtain⟨l,ws,rfl,h1,r1⟩:=q.lst_inv;exact⟨l,ws,rfl,k.gh.seq h1,a _ G' H' k (.refl _) (yk h1 r1)⟩
end
section
variable{X:Cx}
noncomputable def most:zo->Int
 |[]=>0
 |[n]=>n
 |n::r=>if most r > n then most r else n
theorem PX:∀{ns},0<ns.length->most ns∈ns
 |[n],_=>List.mem_singleton.2 zh
 |n::m::r,_=>by
  have ih:=PX (ns:=m::r) (Jk _);unfold most;split
  .exact Qj _ ih
  .exact Ql ..
theorem PN:∀{ns}{a},a∈ns->a<=most ns
 |[n],a,h=>by rw[List.mem_singleton.1 h];exact Jb _
 |n::m::r,a,h=>by
  have ih:∀b,b∈m::r->b<=most _:=λb hb=>PN hb;unfold most;rcases QB.1 h with e|h
  .subst e;split<;>lia
  .have:=ih a h;split<;>lia
def Ak  {M}(h1:M∈ns)(h2:∀a,a∈ns->a<=M):most ns=M:=
 JQ (h2 _ (PX (J0 h1))) (PN h1)
def xV(hc:X.calm=zk):YS X (.builtin "max") (λxs H Q=>∃l,∃ns:zo,xs=[.ref l]/\SqL X.K H l (ns.map V.int)/\0<ns.length/\Q (.int (most ns)) H):=by
 intro pins s σ H xs us Q I rx h;obtain⟨l,ns,rfl,hq,hb,q⟩:=h;obtain⟨u,rfl,ru⟩:=rx.one;cases ru;obtain⟨its,rv,p,hz⟩:=I.list hq;have hi:=Vx rv;obtain⟨ys,e⟩:=hi.allInts.items;have hns:ns=ys.toList.map (·.1):=by rw[←hi.numsOf,←nums_intItems,←e]
 have hsz:0<ys.size:=by simp_all
 have hl:=p.isList;rw[e]at hl;refine max_intList (I.ok.hd hc) hl hsz λv h' tk hv hk=>?_
 obtain⟨t,rfl⟩:=intItems_at hv;obtain⟨h1,h2⟩:=argBest_gt (numAt ys) (ys.size-1);refine⟨.int _,H,I.kept hk,⟨t,?_⟩,q⟩;rw[Ak  ?_ ?_]
 .rw[hns,numAt_eq];exact getD_mem (by rw[Qb,Uc];omega)
 .intro a ha
  rw[hns]at ha;obtain⟨j,hj,rfl⟩:=mem_getD ha;rw[Qb,Uc]at hj;rw[←numAt_eq];exact h2 j (by omega)
def Tp:zn->zp
 |[.list ds]=>(match YL ds with
  |some ns=>if 0<ns.length then zd (.int (most ns))else zj
  |none=>zj)
 |_=>zj
def xU   (h:Tp xs=zd d):∃ds ns,xs=[.list ds]/\YL ds=zd ns/\0<ns.length/\d=.int (most ns):=by
 unfold Tp at h;split at h
 .rename_i ds
  cases z:YL ds with
  |none=>simp_all
  |some ns=>simp_all
 simp_all
def Be(hc:X.calm=zk):YV X (.builtin "max") Tp:=by refine⟨_,xV hc,λvs G H ds d Q s r e k=>?_⟩;obtain⟨ds,ns,rfl,z,c,rfl⟩:=xU e;obtain⟨v,rfl,q1⟩:=r.one_inv;obtain⟨l,ws,rfl,h1,r1⟩:=q1.lst_inv;have:=R9 r1 z;subst this;exact⟨l,ns,rfl,s.seq h1,c,k _ G H (.refl s) (.int _)⟩
def Mz  (h:0<ns.length):Tp [.list (ns.map .int)]=zd (.int (most ns)):=by unfold Tp;simp only[R3,Qu h]
end
section
variable{X:Cx}{B G0:Hp}{e o:Ur}{es:zq}
noncomputable def yj   {xs:zn}{as}{d:D}(rs:ReadsAll h vs xs as)(hxs:UC xs=zk) :
  vs.countP (λy=>UE (SeqAt.readOf h y) d)=xs.countP (λy=>UE y d):=by
 have key   :=(SeqAt.readsAll_map xs vs as hxs rs).symm;rw[key,List.countP_map];rfl
noncomputable def TH(y x:D):zp:=match y with
 |.list ds=>if x.canLay0=zk/\UC ds=zk/\x.depth<=60 then zd (.int (ds.countP λy=>UE y x))else zj
 |_=>zj
def kN(hu:X.A.units+64<cLine):MtR X "list.count" (λv vs H Q=>∃G u y x d,vs=[u]/\Same G H/\Rep X.K G v y/\Rep X.K G u x/\TH y x=zd (.int d)/\Q (.int d) H):=by
 intro pins s σ H x xs v us Q I rx rs h;obtain⟨G,u,dy,dx,d,rfl,sg,py,px,e,q⟩:=h;obtain⟨w,rfl,zN⟩:=rs.one;unfold TH at e;split at e
 .split at e
  .rename_i c
   obtain⟨bs,rb⟩:=XF I sg py rx (c.2.1);obtain⟨as,ra⟩:=XF I sg px zN c.1;cases rb with
   |list h1 h2 h3 h4=>rename_i l ob its cs n;obtain⟨cls,dd,data,sl⟩:=ob;subst h2 h3;refine call_meets F.slot_list_count ⟨_,h1,rfl⟩ F.entry_list_count (F.args_list_count_2 _ _) (SeqAt.list_countAt _ _ _ dd sl _ _) ⟨h1,SeqAt.items_eqAt h4 ra c.2.1 c.1 (by lia),?_⟩;rw[yj h4 c.2.1];cases e;exact⟨.int _,H,I.tok _,⟨_,rfl⟩,q⟩
  simp_all
 simp_all
noncomputable def OO(y:D)(xs:zn):zp:=match xs with
 |[x]=>TH y x
 |_=>zj
def yi{ds xs:zn}{d}(h:OO (.list ds) xs=zd d):∃x n,xs=[x]/\d=.int n/\TH (.list ds) x=zd (.int n):=by
 unfold OO at h;split at h
 .rename_i x
  have h':=h;unfold TH at h;dsimp only at h;split at h
  .cases h;exact⟨x,_,rfl,rfl,h'⟩
  .cases h
 simp_all
noncomputable def Tw(f:M D)(g:M zn):M D:=Kd f λy=>Kd g λxs=>Ka (match y with | .list ds=>OO (.list ds) xs|_=>zj)
def xT{apos cpos}{f}{g}(hu:X.A.units+64<cLine)(ho:PE X o (tD X.K B G0 f))(ha:PA X (e::es) (tDs X.K B G0 g))
  (hbase:attributeBase o "count" X.env (eval o X.env)=eval o X.env:=by rfl)
  (hfew:((backTo cpos (Uu (e::es) X.env)).all (λx=>!x.1)&&(backToKw cpos (keywordEach [] X.env)).all (λx=>x.1.isSome)
   && decide ((e::es).length+([]:List Keyword).length+(if([]:List Keyword).isEmpty then 0 else 1)<30))=zk:=by rfl)
  (hline:(apos.endLine==cpos.line)=zk:=by rfl) (hs:Uu (e::es) X.env=(zm,eval e X.env)::Uu es X.env:=by rfl) (hplain:(backTo cpos (Uu es X.env)).any (·.1)=zm:=by rfl) :
  PE X (.Call (.Attribute o "count" apos) (e::es) [] cpos) (tD X.K B G0 (Tw f g)):=
 Kz (Nx F.plainAttrs_list F.slot_list_count F.type_list_count (kN hu) ho ha hbase hfew hline hs hplain) λσ H Q q=>by
  refine tM.one  q λv H2 G ρ y k r a=>?_
  cases y with
  |list ds=>
   obtain⟨l,ws,rfl,h1,r1⟩:=r.lst_inv;refine⟨.inl ⟨rfl,ws,k.gh.seq h1⟩,?_⟩;refine tM.nx  k a λxs H3 G3 ρ3 es k3 s3 r3 a3=>?_
   obtain⟨d,e,a3⟩:=a3.opt;obtain⟨x,n,rfl,rfl,e'⟩:=yi e;obtain⟨u,rfl,ru⟩:=r3.one_inv;exact⟨G3,u,.list ds,x,n,rfl,k3.gh,r.mono s3,ru,e',aft.now a3 k3 (.int _)⟩
  |_=>
   unfold Kd at a;cases z:g ρ with
   |bad=>rw[z]at a;exact a.elim
   |ok xs ρ1=>rw[z]at a;exact a.elim
def OW   {ρ ρ1 ρ2}{ds:zn}{x d}(h1:f ρ=.ok (.list ds) ρ1)(h2:g ρ1=.ok [x] ρ2)(h3:TH (.list ds) x=zd d):Tw f g ρ=.ok d ρ2:=by unfold Tw Kd;rw[h1];dsimp only;rw[h2];dsimp only[OO];rw[h3];rfl
end
section
variable{prog:Uo}{w:World}{A:Around}{R:Result->Um->Prop}{h0:Heap}{l I S:Up}{rs:List (Up×zr)}
def Wq(h h':Heap):Prop:=∀b o,h.get? b=zd o->h'.get? b=zd o
def Ls1(h:Heap)(a:Up)(its:zr)(sl:Array zw):Prop:=∃n,h.get? a=zd {cls:=.type "list", dict:=zj,data:=.seq its.toArray n,slots:=sl}
def Ls(h:Heap)(a:Up)(its:zr):Prop:=∃n sl,h.get? a=zd {cls:=.type "list", dict:=zj,data:=.seq its.toArray n,slots:=sl}
noncomputable def Ls.kept  {a}{its}(x:Ls h a its)(k:Wq h h'):Ls h' a its:=by obtain⟨n,sl,e⟩:=x;exact⟨n,sl,k _ _ e⟩
def v7(hh:A.in1.handled=zj)(hI:h0.objs.size<=I)(hS:h0.objs.size<=S)(hIS:S≠I)(hl:h0.IsList l (rs.map λp=>Value.ref p.1).toArray)(hr:∀p∈rs,Ls h0 p.1 p.2) :
  ∀(k i:Nat)(s:Um)(t:Up)(acc:zr)(c:Nat)(sl:Array zw),rs.length-i=k->i<=rs.length->Wq h0 s.heap->s.heap.IsListIter I l i ->
   s.heap.get? S=zd {cls:=.type "list", dict:=zj,data:=.seq #[.ref t] c,slots:=#[]}->t≠S->t≠I->Ls1 s.heap t acc sl->acc.length+((rs.drop i).map (·.2)).flatten.length<=Us ->
   (∀p h' tk zS,Wq h0 h'->Ls1 h' p (acc++((rs.drop i).map (·.2)).flatten) zS->(p=t/\i=rs.length/\zS=sl∨h0.objs.size<=p/\zS=#[])->R (.ok (.ret (.ref p))) {s with heap:=h',toks:=tk}) ->
   codeAny (model prog w) A (.builtin "sum.loop" ⟨[.ref I,.ref S,rawInt 2,rawInt 0],[]⟩) R s:=by
 intro k;induction k with
 |zero=>
  intro i s t acc c sl hk hi hK hit hSS htS htI ht hz hR;have hin:i=rs.length:=by lia
  subst hin;refine codeAny_builtin F.entry_sum_loop ?_;rw[Around.under_plainId F.plain_sum_loop _];show Ut _ A.in1 (seqItems? (.ref S) >>= _) _ _ s;refine Qf (wpAny_seqItems hSS zh ?_);show Ut _ A.in1 (tryCatch (pyNext (.ref I)) _ >>= _) _ _ s;have hl':s.heap.IsList l (rs.map λp=>Value.ref p.1).toArray:=by obtain⟨o,e,r⟩:=hl;exact⟨o,hK _ _ e,r⟩
  refine wpAny_bind (wpAny_tryCatch (wpAny_pyNext_list_end hh hit hl' (by simp) λh' ex=>?_));refine Qn (hR t h' s.toks sl (λb o e=>?_) ?_ (.inl ⟨rfl,rfl,rfl⟩))
  .exact ex b o (QS (QE (Qh e) hI)) (hK b o e)
  .obtain⟨n,e⟩:=ht
   rw[List.drop_length,List.map_nil,List.flatten_nil,Jd];exact⟨n,ex _ _ htI e⟩
 |succ k ih=>
  intro i s t acc c sl hk hi hK hit hSS htS htI ht hz hR;have hlt:i<rs.length:=by lia
  refine codeAny_builtin F.entry_sum_loop ?_;rw[Around.under_plainId F.plain_sum_loop _];show Ut _ A.in1 (seqItems? (.ref S) >>= _) _ _ s;refine Qf (wpAny_seqItems hSS zh ?_);show Ut _ A.in1 (tryCatch (pyNext (.ref I)) _ >>= _) _ _ s;have hl':s.heap.IsList l (rs.map λp=>Value.ref p.1).toArray:=by obtain⟨o,e,r⟩:=hl;exact⟨o,hK _ _ e,r⟩
  refine wpAny_bind (wpAny_tryCatch (wpAny_pyNext_list_item (x:=.ref (rs[i]'hlt).1) hit hl' (by simp[hlt]) λh' bF sb=>?_));refine Qf (wpAny_attempt (wpAny_holding ?_));have hm:rs[i]'hlt∈rs:=Jp hlt;have hd:rs.drop i=rs[i]'hlt::rs.drop (i+1):=Jr hlt;have hK':Wq h0 h':=λb o e=>(sb.2 b (QS (QE (Qh e) hI))).trans (hK b o e)
  obtain⟨n1,e1⟩:=ht;have e1':=(sb.2 t htI).trans e1;obtain⟨n2,s2,e2⟩:=(hr _ hm).kept hK';have bV:=(sb.2 S hIS).trans hSS;rw[hd,QC,Js,Qi]at hz;refine concat_meets ⟨_,e1',rfl⟩ ⟨_,e2,rfl⟩ noFill_list_add seq_list_add PySem.F.slot_list_add PySem.F.entry_list_add (PySem.F.args_list_add_2 _ _) (list_addW t _ acc.toArray _ n1 n2 zj zj sl s2 (by rw[Jf,Jf];lia)) ⟨e1',e2,?_⟩;have hlS:S<h'.objs.size:=Qh bV;have hlI:I<h'.objs.size:=by obtain⟨o,e,_⟩:=bF;exact Qh e
  have ea:acc.toArray++(rs[i]'hlt).2.toArray=(acc++(rs[i]'hlt).2).toArray:=by simp
  rw[ea];have hP:∀b o,h'.get? b=zd o->(h'.push {cls:=Value.type "list", data:=Data.seq (acc++(rs[i]'hlt).2).toArray}).get? b=zd o:=λb o e=>Qk _ e
  have hS1:=hP _ _ bV;have hNew:(h'.push {cls:=Value.type "list", data:=Data.seq (acc++(rs[i]'hlt).2).toArray}).get? h'.objs.size=zd {cls:=Value.type "list", data:=Data.seq (acc++(rs[i]'hlt).2).toArray}:=QD _ zh;show Ut _ A.in1 (updateSeq S (λ_=>#[.ref h'.objs.size]) >>= _) _ _ _;refine Qf (wpAny_updateSeq hS1 zh ?_);have hS2:=Heap.get?_update_self (Obj.mapSeq λ_=>#[Value.ref h'.objs.size]) hS1 zh;refine Qf (wpAny_letGo ?_);refine Qf (wpAny_updateSeq hS2 zh (Qn ⟨plainId_quiet F.plain_sum_loop _,?_⟩));have oth:∀b o,b≠S->(h'.push {cls:=Value.type "list", data:=Data.seq (acc++(rs[i]'hlt).2).toArray}).get? b=zd o->(((h'.push {cls:=Value.type "list", data:=Data.seq (acc++(rs[i]'hlt).2).toArray}).update S (Obj.mapSeq λx=>#[Value.ref h'.objs.size])).update S (Obj.mapSeq λx=>#[Value.ref h'.objs.size])).get? b=zd o:=λb o hb e=>(Heap.get?_update_other _ _ (Ne.symm hb)).trans ((Heap.get?_update_other _ _ (Ne.symm hb)).trans e)
  refine ih (i+1) _ h'.objs.size (acc++(rs[i]'hlt).2) _ #[] (by lia) hlt ?_ ?_ (Heap.get?_update_self _ hS2 zh) (JE hlS) (JE hlI) ?_ (by rw[Qi];lia) λp h'' tk zS hk'' hp hq=>?_
  .exact λb o e=>oth b o (QS (QE (Qh e) hS)) (hP b o (hK' b o e))
  .obtain⟨o,e,r⟩:=bF
   exact⟨o,oth I o (Ne.symm hIS) (hP I o e),r⟩
  .exact⟨_,oth _ _ (JE hlS) hNew⟩
  .refine hR p h'' tk zS hk'' ?_ (.inr ?_)
   .rw[hd,QC,Js,←Q5];exact hp
   .rcases hq with ⟨rfl, -,e⟩|hq
    .exact⟨Uh (Nat.lt_of_le_of_lt hS hlS),e⟩
    .exact hq
end
section
variable{prog:Uo}{w:World}{A:Around}{E:Ul->Um->Prop}{s:Um}{l z:Up}{rs:List (Up×zr)}
noncomputable def xS(a b:Ul):argsOk "sum" ⟨[a,b],[]⟩:=by unfold argsOk;kernel_rfl
def vZ{Q:Ul->Um->Prop}(hh:A.handled=zj)(hl:s.heap.IsList l (rs.map λp=>Value.ref p.1).toArray)(hr:∀p∈rs,Ls s.heap p.1 p.2)(hz:Ls s.heap z [])(hb:(rs.map (·.2)).flatten.length<=Us)
  (h:∀p h' tk zS,Wq s.heap h'->Ls1 h' p (rs.map (·.2)).flatten zS->(p=z/\rs=[]∨s.heap.objs.size<=p/\zS=#[])->Q (.ref p) {s with heap:=h',toks:=tk}) :
  Ut (model prog w) A (call (.builtin "sum") [.ref l,.ref z]) Q E s:=by
 refine call_function_tree F.kind_sum F.plain_sum F.entry_sum (xS _ _) ?_;unfold Builtin.«sum»;simp only[QL,Qt];rw[QH (by decide)];refine Qf (wpAny_of_eq (rfl) ?_);refine Qf (Jx hl ?_);refine Qf (Qn ?_);obtain⟨n,sl,ez⟩:=id hz;have ty:∀h:Heap,h.get? z=zd {cls:=.type "list", dict:=zj,data:=.seq [].toArray n,slots:=sl}->({s with heap:=h}:Um).TypeIs (.ref z) "list" :=λh e=>⟨_,e,rfl⟩
 have ez':(s.heap.push {cls:=.type "list_iterator", data:=.fields #[.ref l,.int 0 0]}).get? z=_:=Qk _ ez;refine Qf (Qf (Qf (wpAny_isInstance (T:= "list") (b:=zm) (ty _ ez') F.sub_list_str ?_)));simp only[J4,if_false];refine Qn (Qf (Qf (wpAny_isInstance (T:= "list") (b:=zm) (ty _ ez') F.sub_list_bytes ?_)));simp only[J4,if_false];refine Qn (Qf (Qf (wpAny_isInstance (T:= "list") (b:=zm) (ty _ ez') F.sub_list_bytearray ?_)));simp only[J4,if_false];refine Qn (Qn ?_);refine Qf (wpAny_newObj_type ?_);have hzs:=Qh ez;have s1:(s.heap.push {cls:=.type "list_iterator", data:=.fields #[.ref l,.int 0 0]}).objs.size=s.heap.objs.size+1:=JF ..;have k2:Wq s.heap ((s.heap.push {cls:=.type "list_iterator", data:=.fields #[.ref l,.int 0 0]}).push {cls:=.type "list", data:=.seq #[.ref z]}):=λb o e=>Qk _ (Qk _ e)
 refine Qn ⟨plainId_quiet F.plain_sum_loop _,v7 (h0:=s.heap) (l:=l) (I:=s.heap.objs.size)  (rs:=rs) hh (Qp _) (by rw[s1];exact JR _) (by rw[s1];exact Nat.succ_ne_self _) hl hr rs.length 0 _ z [] 0 sl zh (JS _)
  k2 ⟨_,Heap.get?_push_of_some _ (Heap.get?_push_size _ zh),rfl,rfl⟩ (Heap.get?_push_size _ zh) (by rw[s1];exact Nat.ne_of_lt (Nat.lt_succ_of_lt hzs)) (Nat.ne_of_lt hzs) ⟨n,k2 _ _ ez⟩ (by simpa using hb) λp h' tk zS hk hp hq=>?_⟩
 exact h p h' tk zS hk (by simpa using hp) (hq.imp (λe=>⟨e.1,List.eq_nil_of_length_eq_zero e.2.1.symm⟩) id)
end
section
variable{X:Cx}{pins:List (Up×Obj)}{σ:St}{H:Hp}{s:Um}
theorem Ga(I:Inv X pins σ H s):∀{rs:List (Up×List V)},(∀p∈rs,SqL X.K H p.1 p.2) ->
  ∃ts:List (Up×zr),(ts.map λp=>Value.ref p.1)=(rs.map λp=>Value.ref p.1)/\(∀p∈ts,Ls s.heap p.1 p.2)/\Vals (rs.map (·.2)).flatten (ts.map (·.2)).flatten
 |[],_=>⟨[],rfl,(λ_ h=>by cases h),(Paired.nil)⟩
 |p::rs,h=>by
  obtain⟨ts,e,hl,hv⟩:=Ga I λq hq=>h q (Qj _ hq)
  obtain⟨its,rv,⟨⟨c1,d1,t1,sl⟩,n,e1,ec,ed,et⟩,z⟩:=I.list (h p (Ql ..));simp only at ec ed et;subst ec ed et;refine⟨(p.1,its)::ts,by simp_all,λq hq=>?_,?_⟩
  .rcases QB.1 hq with rfl|hq
   .exact⟨n,sl,e1⟩
   .exact hl q hq
  .exact rv.append hv
theorem FX:∀{as:zu}{us},Vals (as.map V.ref) us->us=as.map Value.ref
 |[],_,.nil=>rfl
 |a::as,_,.cons h t=>by cases h;rw[FX t];rfl
def xR(hc:X.calm=zk):YS X (.builtin "sum") (λxs H Q=>∃l z,∃rs:List (Up×List V),xs=[.ref l,.ref z]/\SqL X.K H l (rs.map λp=>V.ref p.1)/\(∀p∈rs,SqL X.K H p.1 p.2)/\SqL X.K H z []/\(rs.map (·.2)).flatten.length<=Us /\
  (rs=[]->Q (.ref z) H)/\∀p,H p=zj->Q (.ref p) (upd H p (.lst (rs.map (·.2)).flatten))):=by
 intro pins s σ H xs us Q I rx h;obtain⟨l,z,rs,rfl,hq,hr,hz,hb,q0,q⟩:=h;obtain⟨u,u',rfl,ru,ru'⟩:=Oh rx;cases ru;cases ru';obtain⟨its,rv,pl, -⟩:=I.list hq;obtain⟨ts,e,hl,hv⟩:=Ga I hr;have ei:its=ts.map λp=>Value.ref p.1:=by rw[e];have:=FX   (by rw[QO];exact rv);rw[this,QO];rfl
 subst ei;obtain⟨zi,rz,⟨⟨c1,d1,t1,sl⟩,n,e1,ec,ed,et⟩, -⟩:=I.list hz;cases rz;simp only at ec ed et;subst ec ed et;have hlen:=hv.length;refine vZ (I.ok.hd hc) pl.isList hl ⟨n,sl,e1⟩ (by lia) λp h' tk zS hk hp hq=>?_
 rcases hq with ⟨rfl,rfl⟩|⟨bc,rfl⟩
 .have hr0:rs=[]:=by
   simp_all
  exact⟨.ref _,H,I.kept hk,rfl,q0 hr0⟩
 .obtain⟨m,ep⟩:=hp
  exact⟨.ref p,_,I.laid  hk bc (show Yv X.prog X.w _ h' _ (.lst _)from⟨hb,_,m,hv,ep⟩),rfl,q p (I.hok.fresh bc)⟩
noncomputable def Vl:zn->Option (List zn)
 |[]=>zd []
 |.list xs::r=>(Vl r).map (xs :: ·)
 |_=>zj
theorem Dc{K}{G}:∀{vs}{ds}{ls},Reps K G vs ds->Vl ds=zd ls ->
  ∃rs:List (Up×List V),vs=(rs.map λp=>V.ref p.1)/\(∀p∈rs,SqL K G p.1 p.2)/\Reps K G (rs.map (·.2)).flatten ls.flatten/\rs.length=ls.length
 |_,_,ls,.nil,e=>by cases e;exact⟨[],rfl,(λ_ h=>by cases h),.nil,rfl⟩
 |_,_,ls,.cons (d:=d) r t,e=>by
  cases d with
  |list xs=>
   unfold Vl at e;cases z:Vl _ with
   |none=>rw[z]at e;cases e
   |some cs=>
    rw[z]at e;cases e;obtain⟨rs,rfl,h1,h2,h3⟩:=Dc t z;obtain⟨a,ws,rfl,h,rr⟩:=r.lst_inv;refine⟨(a,ws)::rs,rfl,λp hp=>?_,?_,J5 _ h3⟩
    .rcases QB.1 hp with rfl|hp
     .exact h
     .exact h1 p hp
    .exact rr.append h2
  |_=>cases e
def vY(ls):Vl (ls.map Uy)=zd ls:=by
 induction ls with
 |nil=>rfl
 |cons b r ih=>rw[QC,Vl,ih];rfl
noncomputable def Rr:zn->zp
 |[.list ds,.list []]=>(match Vl ds with
  |some ls=>if ls.flatten.length<=1000000 then zd (.list ls.flatten)else zj
  |none=>zj)
 |_=>zj
def xQ   (h:Rr xs=zd d):∃ds ls,xs=[.list ds,.list []]/\Vl ds=zd ls/\ls.flatten.length<=1000000/\d=.list ls.flatten:=by
 unfold Rr at h;split at h
 .rename_i ds
  cases z:Vl ds with
  |none=>simp_all
  |some ls=>simp_all
 simp_all
def Bd(hc:X.calm=zk):YV X (.builtin "sum") Rr:=by
 refine⟨_,xR hc,λvs G H ds d Q s r e k=>?_⟩;obtain⟨ds,ls,rfl,z,c,rfl⟩:=xQ e;obtain⟨v,v',rfl,q1,q2⟩:=r.two_inv;obtain⟨l,ws,rfl,h1,r1⟩:=q1.lst_inv;obtain⟨a,ws2,rfl,h2,r2⟩:=q2.lst_inv;have:=r2.nil_inv;subst this;obtain⟨rs,rfl,g1,g2,g3⟩:=Dc r1 z;refine⟨l,a,rs,rfl,s.seq h1,λp hp=>s.seq (g1 p hp),s.seq h2,?_,λe0=>?_,λp hp=>?_⟩
 .rw[g2.length];exact QP c lim
 .subst e0
  have   :=List.eq_nil_of_length_eq_zero g3.symm;subst this;exact k _ G H (.refl s) (.lst h2 .nil)
 .exact k _ _ _ (.new s hp) (.lst (SqL.of Zp) (g2.mono (ZM (s.free hp))))
end
section
variable{X:Cx}
noncomputable def YR(ns:zo):zo:=ns.mergeSort λa b=>decide (a<=b)
def Wc(ns:zo):(YR ns).Perm ns:=List.mergeSort_perm ..
def FW(ns):(YR ns).Pairwise (· <= ·):=by have:=List.pairwise_mergeSort (le:=λa b   =>decide (a<=b)) (by intro a b c;simp;lia) (by intro a b;simp;lia) ns;exact this.imp (by simp)
theorem HZ:∀{a b:zo},a.Perm b->a.Pairwise (· <= ·)->b.Pairwise (· <= ·)->a=b
 |[],b,p,_,_=>by simp_all
 |x::a,[],p,_,_=>by simp_all
 |x::a,y::b,p,ha,hb=>by
  have hx:y<=x:=by
   rcases QB.1 (p.mem_iff.1 (Ql ..))with e|e
   .exact Int.le_of_eq e.symm
   simp_all
  have hy:x<=y:=by
   rcases QB.1 (p.mem_iff.2 (Ql ..))with e|e
   .exact Int.le_of_eq e.symm
   simp_all
  have e:=JQ hy hx;subst e;rw[HZ (List.Perm.cons_inv p) (JL.1 ha).2 (JL.1 hb).2]
theorem FV:∀{us}{ns},PyProof.Rows.IntsAre us ns->Vals (ns.map V.int) us
 |_,_,.nil=>Paired.nil
 |_,_,.cons n t h=>Paired.cons ⟨t,rfl⟩ (FV h)
def vX:YS X (.builtin "sorted") (λxs H Q=>∃l,∃ns:zo,xs=[.ref l]/\SqL X.K H l (ns.map V.int)/\ns.length<64/\∀p,H p=zj->Q (.ref p) (upd H p (.lst ((YR ns).map V.int)))):=by
 intro pins s σ H xs us Q I rx h;obtain⟨l,ns,rfl,hq,hb,q⟩:=h;obtain⟨u,rfl,ru⟩:=rx.one;cases ru;obtain⟨its,rv,p,hz⟩:=I.list hq;have hi:=Vx rv;have hn:its.length=ns.length:=by have:=rv.length;simp_all
 refine sorted_ints p.isList hi (by lia) λout ns' a1 a2 a3=>?_
 obtain⟨e,he⟩:=sortedAll_at s.heap its out;have en   :=HZ (a2.trans (Wc ns).symm) a3 (FW ns);subst en;refine⟨.ref _,_,I.laid  (λb o=>sortedAll_old) (JR _) (show Yv X.prog X.w _ _ _ (.lst _)from⟨?_,out.toList,e,FV a1,he⟩),rfl,q _ (I.hok.fresh (JR _))⟩;rw[Qb,(Wc ns).length_eq];simp_all
def RG:zn->zp
 |[.list ds]=>(match YL ds with
  |some ns=>if ns.length<64 then zd (.list ((YR ns).map .int))else zj
  |none=>zj)
 |_=>zj
def vW   (h:RG xs=zd d):∃ds ns,xs=[.list ds]/\YL ds=zd ns/\ns.length<64/\d=.list ((YR ns).map .int):=by
 unfold RG at h;split at h
 .rename_i ds
  cases z:YL ds with
  |none=>simp_all
  |some ns=>simp_all
 simp_all
theorem FT{K}{G}:∀ns:zo,Reps K G (ns.map V.int) (ns.map int)
 |[]=>.nil
 |n::r=>.cons (.int n) (FT r)
def Aj:YV X (.builtin "sorted") RG:=by refine⟨_,vX,λvs G H ds d Q s r e k=>?_⟩;obtain⟨ds,ns,rfl,z,c,rfl⟩:=vW e;obtain⟨v,rfl,q1⟩:=r.one_inv;obtain⟨l,ws,rfl,h1,r1⟩:=q1.lst_inv;have:=R9 r1 z;subst this;exact⟨l,ns,rfl,s.seq h1,c,λp hp=>k _ _ _ (.new s hp) (.lst (SqL.of Zp) (FT _))⟩
def xP  (h:ns.length<64):RG [.list (ns.map .int)]=zd (.list ((YR ns).map .int)):=by unfold RG;simp only[R3,Qu h]
end
@[simp] theorem mBind_ok   {k:α->M β}{ρ ρ'}{x}(h:f ρ=.ok x ρ'):Kd f k ρ=k x ρ':=by unfold Kd;rw[h]
theorem FS   {P:Nat->UU->Prop}{R:Out->Prop}:∀(ds)(n:Nat)(ρ:UU),P n ρ ->
  (∀i d ρ,ds[i]?=zd d->P (n+i) ρ->∃ρ1,s d ρ=zd ρ1/\((∃ρ2,(g ρ1=.nx ρ2∨g ρ1=.ct ρ2)/\P (n+i+1) ρ2)∨(∃x,g ρ1=.rt x/\R (.rt x))∨(∃ρ2,g ρ1=.bk ρ2/\R (.nx ρ2))∨(∃ρ2 x,g ρ1=.ex ρ2 x/\R (.ex ρ2 x)) ∨ ∃x,g ρ1=.ro x/\R (.ro x)))->(∀ρ,P (n+ds.length) ρ->R (.nx ρ))->R (TQ s g ds ρ)
 |[],n,ρ,h,_,f=>f ρ h
 |d::r,n,ρ,h,st,f=>by
  obtain⟨ρ1,e1,e2⟩:=st 0 d ρ zh h;rw[TQ,e1];dsimp only;rcases e2 with ⟨ρ2,e2,h2⟩|⟨x,e2,h2⟩|⟨ρ2,e2,h2⟩|⟨ρ2,x,e2,h2⟩|⟨x,e2,h2⟩
  .have goal:=FS (R:=R) r (n+1) ρ2 h2 (λi d' ρ3 q p=>by
    have e:n+1+i=n+(i+1):=by lia
    rw[e]at p⊢;exact st (i+1) d' ρ3 (by simpa using q) p) (λρ3 p=>f ρ3 (by
    have e:n+1+r.length=n+(d::r).length:=by rw[QL];lia
    rw[e]at p;exact p))
   rcases e2 with e2|e2<;>(rw[e2];exact goal)
  .rw[e2];exact h2
  .rw[e2];exact h2
  .rw[e2];exact h2
  .rw[e2];exact h2
def WK{lo hi}{i:Nat}{d}(h:(YM lo hi)[i]?=zd d):d=.int (lo+i)/\(i:Int)<hi-lo:=by have hl   :=(Qg.mp h).1;rw[YX]at hl;unfold YM at h;simp_all
section
variable{α β:Type}{ρ ρ1 ρ2 ρ3 ρ':UU}{f g h:M D}
def UW{a:α}:UR a ρ=.ok a ρ:=rfl
def UV:UN ρ=.ok [] ρ:=rfl
def YK{o:Option α}{a:α}(h:o=zd a):Ka o ρ=.ok a ρ:=by subst h;rfl
def Za{f}{k}{x:α}{r:Res β}(h:f ρ=.ok x ρ1)(h2:k x ρ1=r):Kd f k ρ=r:=by unfold Kd;rw[h];exact h2
def Kx{f}{k:α->β}{x}(h:f ρ=.ok x ρ1):U0 k f ρ=.ok (k x) ρ1:=by unfold U0 Kd;rw[h];rfl
def UM{i:Nat}{d:D}(h:ρ[i]?=zd (zd (.pub d))):UL i ρ=.ok d ρ:=by unfold UL;rw[h]
def Yi  {ds:zn}(h:ρ[i]?=zd (zd (.own ds)))(h2:ρ.set i (zd (.pub (.list ds)))=ρ'):UL i ρ=.ok (.list ds) ρ':=by unfold UL;simp_all
def U2  {x y}{r:β}(h1:f ρ=.ok x ρ1)(h2:g ρ1=.ok y ρ2)(h3:op x y=zd r):UQ op f g ρ=.ok r ρ2:=by exact Za h1 (Za h2 (YK h3))
def UP{g}{x}{xs}(h1:f ρ=.ok x ρ1)(h2:g ρ1=.ok xs ρ2):UO f g ρ=.ok (x::xs) ρ2:=by exact Za h1 (Za h2 zh)
def Zk{g}{xs:zn}(h1:g ρ=.ok xs ρ1)(h2:xs.length<=1000000):Kl g ρ=.ok (.tuple xs) ρ1:=by exact Za h1 (by rw[Qu h2];rfl)
def KZ{g}{xs:zn}(h1:g ρ=.ok xs ρ1)(h2:xs.length<=1000000):Kh g ρ=.ok (.list xs) ρ1:=by exact Za h1 (by rw[Qu h2];rfl)
def WO{g}{xs:zn}(h1:g ρ=.ok xs ρ1)(h2:xs.length<=1000000):(Kd g λxs=>if xs.length<=1000000 then UR xs else λ_=>.bad) ρ=.ok xs ρ1:=
 Za h1 (by rw[Qu h2];rfl)
def Kr  {d y r}(h:ρ[i]?=zd (zd (.pub d)))(h1:g ρ=.ok y ρ1)(h2:oIx d y=zd r):UY i g ρ=.ok r ρ1:=by unfold UY;rw[h];exact Za h1 (YK h2)
def Vk  {ds es:zn}{y r}(h:ρ[i]?=zd (zd (.own ds)))(h1:g ρ=.ok y ρ1)(h3:ρ1[i]?=zd (zd (.own es)))(h2:oIx (.list es) y=zd r):UY i g ρ=.ok r ρ1:=by unfold UY;rw[h];exact Za h1 (by rw[h3];exact YK h2)
def Zf  {g}{xs}{r}(h1:g ρ=.ok xs ρ1)(h2:p xs=zd r):K4 p g ρ=.ok r ρ1:=by exact Za h1 (YK h2)
def Kg   {g}{xs}{r}(h1:g ρ=.ok xs ρ1)(h2:xs.length=n)(h3:F xs=zd r):UX n F g ρ=.ok r ρ1:=by exact Za h1 (by rw[Qu h2];exact YK h3)
def WH  (h1:f ρ=.ok (.int i) ρ1):ZH f ρ=.ok (.int (-i)) ρ1:=by exact Za h1 zh
def Zg   (h:ρ[i]?=zd (zd (.pub d)))(h2:Ki [d]=zd r):K5 i ρ=.ok r ρ:=by unfold K5;rw[h];exact YK h2
def HY   (h:ρ[i]?=zd (zd (.own ds))):K5 i ρ=.ok (.int ds.length) ρ:=by unfold K5;rw[h]
def X6{g}{i}{r}(h1:g ρ=.ok [.int i] ρ1)(h2:Pq [.int i]=zd r):Xw g ρ=.ok r ρ1:=by exact Za h1 (YK h2)
def A3{g}{i j}{r}(h1:g ρ=.ok [.int i,.int j] ρ1)(h2:Po [.int i,.int j]=zd r):Nn g ρ=.ok r ρ1:=by exact Za h1 (YK h2)
def Xc{g}{xs r}(h1:g ρ=.ok xs ρ1)(h2:Pn xs=zd r):YG g ρ=.ok r ρ1:=by exact Za h1 (YK h2)
def ZE  (h1:f ρ=.ok (.int i) ρ1):(Kd f λx=>Ka (Zo x)) ρ=.ok (zd i) ρ1:=Za h1 zh
def Yl{f:M Bool}{t:Bool}(h1:f ρ=.ok t ρ1):KB f ρ=.ok (!t) ρ1:=Kx h1
def Yh  (h1:f ρ=.ok (.bool t) ρ1):Zt f ρ=.ok t ρ1:=by exact Za h1 zh
def NK{f g}{t u}(h1:f ρ=.ok t ρ)(h2:t=zk->g ρ=.ok u ρ):Zi f g ρ=.ok (t&&u) ρ:=by
 refine Za h1 ?_;cases t with
 |true=>exact h2 zh
 |false=>rfl
def Wf  (h1:f ρ=.ok (.bool t) ρ)(h2:t=zk->g ρ=.ok (.bool u) ρ):WD f g ρ=.ok (.bool (t&&u)) ρ:=by
 refine Za h1 ?_;cases t with
 |true=>exact h2 zh
 |false=>rfl
def T2  (h1:f ρ=.ok (.bool t) ρ)(h2:t=zm->g ρ=.ok (.bool u) ρ):Y4 f g ρ=.ok (.bool (t || u)) ρ:=by
 refine Za h1 ?_;cases t with
 |false=>exact h2 zh
 |true=>rfl
def A1  (h1:f ρ=.ok (.bool t) ρ1):Np f ρ=.ok (.bool (!t)) ρ1:=by exact Za h1 zh
def Ha{f}{g h:M α}{r}(h1:f ρ=.ok zk ρ1)(h2:g ρ1=r):mIf f g h ρ=r:=by exact Za h1 (by exact h2)
def NJ{f}{g h:M α}{r}(h1:f ρ=.ok zm ρ1)(h2:h ρ1=r):mIf f g h ρ=r:=by exact Za h1 (by exact h2)
def D2{f}{g h}{t}{x y:α}(h1:f ρ=.ok t ρ1)(h2:g ρ1=.ok x ρ1)(h3:h ρ1=.ok y ρ1):mIf f g h ρ=.ok (if t=zk then x else y) ρ1:=by
 refine Za h1 ?_;cases t with
 |true=>exact h2
 |false=>exact h3
def My  {x y z}{t u}(h1:f ρ=.ok x ρ)(h2:g ρ=.ok y ρ)(h3:p x y=zd t)(h4:t=zk->h ρ=.ok z ρ)(h5:t=zk->q y z=zd u):RK p q f g h ρ=.ok (t&&u) ρ:=by
 refine Za h1 (Za h2 (Za (YK h3) ?_));cases t with
 |true=>exact Za (h4 zh) (YK (h5 zh))
 |false=>rfl
def KW{i j:Int}:U1 (.int i) (.int j)=zd (.int (i+j)):=rfl
def Xx{x y:zn}(h:x.length+y.length<=1000000):U1 (.list x) (.list y)=zd (.list (x++y)):=by exact Qu h
def YT{i j:Int}:K0 (.int i) (.int j)=zd (.int (i-j)):=rfl
def WP  (h1 : -18446744073709551616<i)(h2:i<18446744073709551616):Ks (.int i) (.int j)=zd (.int (i*j)):=by exact Qu (.inl ⟨by lia,by lia⟩)
def XE{i j}(h1 : -18446744073709551616<j)(h2:j<18446744073709551616):Ks (.int i) (.int j)=zd (.int (i*j)):=by exact Qu (.inr ⟨by lia,by lia⟩)
def O5{x:zn}{k}(h : -1000000<=k/\k<=1000000/\x.length*k.toNat<=1000000):Ks (.list x) (.int k)=zd (.list (Ux k.toNat x).flatten):=by exact Qu h
def Xj{i j}(h:0<j):Zy (.int i) (.int j)=zd (.int (i % j)):=by exact Qu h
def kM{i j}(h:0<j)(h2:j<2 ^ 200):WR (.int i) (.int j)=zd (.int (i / j)):=by exact Qu ⟨h,h2⟩
def HX{i j}(h:0<j)(h2:j<18446744073709551616):WR (.int i) (.int j)=zd (.int (i / j)):=kM h (Int.lt_trans h2 (by decide))
def A0{i j}(h:0<=j/\j<=1000000/\i.natAbs<2 ^ 64):VA (.int i) (.int j)=zd (.int (i ^ j.toNat)):=by exact Qu h
def TZ{p:Int->Int->Bool}{i j:Int}:oIB p (.int i) (.int j)=zd (p i j):=rfl
def YI  : oEq (.int i) (.int j)=zd (decide (i=j)):=by
 congr 1
def K8{xs:zn}:Ki [.list xs]=zd (.int xs.length):=rfl
def Mx{xs:zn}:Ki [.tuple xs]=zd (.int xs.length):=rfl
def Ml{i j:Int}:Rt [.int i,.int j]=zd (.int (if j > i then j else i)):=rfl
def AZ{i j:Int}:Of [.int i,.int j]=zd (.int (if j<i then j else i)):=rfl
def X7  (h1:j<=1000000)(h2 : -1000000<=j):Pq [.int j]=zd (YM 0 j):=by exact Qu ⟨h1,h2⟩
def kL{i j}(h1:j<=1000000)(h2 : -1000000<=j)(h3:i<=1000000)(h4 : -1000000<=i):Po [.int i,.int j]=zd (YM i j):=by exact Qu ⟨h1,h2,h3,h4⟩
def Xe{xs:zn}:Pn [.list xs]=zd (Yu 0 xs):=rfl
def Kt  {d}(h1:f ρ=.ok d ρ1)(h2:i<ρ1.length)(h3:ρ1.set i (zd (.pub d))=ρ'):U5 i f ρ=.nx ρ':=by unfold U5 Zd sB gN;simp_all
def ZT  {f}{ds}(h1:f ρ=.ok ds ρ1)(h2:i<ρ1.length)(h3:ρ1.set i (zd (.own ds))=ρ'):Zc i f ρ=.nx ρ':=by unfold Zc sB;simp_all
def WG   {aP ds}(h0:ρ[i]?=zd (zd (.own aP)))(h1:f ρ=.ok d ρ1)(h2:ρ1[i]?=zd (zd (.own ds)))(h3:ds.length<1000000)(h4:ρ1.set i (zd (.own (ds++[d])))=ρ'):ZG i f ρ=.nx ρ':=by unfold ZG sB;simp_all
def YW   (h1:f ρ=.ok d ρ1)(h2:s d ρ1=zd ρ'):Zd f s ρ=.nx ρ':=by unfold Zd sB;simp_all
def We{d:D}(h1:f ρ=.ok d ρ1):Xz f ρ=.nx ρ1:=by unfold Xz sB;rw[h1]
def UT   (h:i<ρ.length)(h2:ρ.set i (zd (.pub d))=ρ'):gN i d ρ=zd ρ':=by unfold gN;simp_all
def Kn:gN0 [] ρ=zd ρ:=rfl
def UZ     (h1:s d ρ=zd ρ1)(h2:t r ρ1=zd ρ'):gNC s t (d::r) ρ=zd ρ':=by unfold gNC;simp_all
def Km   {ds:zn}(h1:ds.length=n)(h2:t ds ρ=zd ρ'):gT n t (.tuple ds) ρ=zd ρ':=by unfold gT;simp_all
structure Ho(g:SM)(ρ:UU)(Q:Out->Prop):Prop where
 out:Q (g ρ)
def D1(h:SM)(Q:Out->Prop):Out->Prop
 |.nx ρ'=>Ho h ρ' Q
 |o=>Q o
structure Nu(h:SM)(Q:Out->Prop)(o:Out):Prop where
 out:D1 h Q o
variable{Q:Out->Prop}{s t u:SM}
def KL(h:Ho s ρ (Nu t Q)):Ho (US s t) ρ Q:=by
 have h:=h.out.out;constructor;unfold US;cases e:s ρ with
 |nx o=>rw[e]at h;exact h.out
 |_=>rw[e]at h;exact h
def Kf(h1:s ρ=.nx ρ1)(h2:Ho t ρ1 Q):Ho (US s t) ρ Q:=by
 constructor;unfold US;rw[h1];exact h2.out
noncomputable def Z7{o:Out}(h1:s ρ=o)(h2:Q o):Ho s ρ Q:=by constructor;rw[h1];exact h2
def KO(h:Q (.nx ρ)):Ho sNx ρ Q:=⟨h⟩
def KI{o:UU}(h:Ho t o Q):Nu t Q (.nx o):=⟨h⟩
noncomputable def ZK{d:D}(h:Q (.rt d)):Nu t Q (.rt d):=⟨h⟩
def Kw{f}{b}(h1:f ρ=.ok b ρ1)(h2:b=zk->Ho s ρ1 Q)(h3:b=zm->Ho t ρ1 Q):Ho (sIf f s t) ρ Q:=by
 constructor;unfold sIf sB;rw[h1];cases b with
 |true=>exact(h2 zh).out
 |false=>exact(h3 zh).out
def Kk  (h1:f ρ=.ok d ρ1)(h2:Q (.rt d)):Ho (U3 f) ρ Q:=by constructor;unfold U3 sB;simp_all
noncomputable def HW{P:Out->Prop}(h:Ho s ρ P)(k:∀o,P o->Q o):Ho s ρ Q:=⟨k _ h.out⟩
def D0(I:UU->Prop)(Q:Out->Prop):Out->Prop
 |.nx ρ | .ct ρ=>I ρ
 |.bk ρ=>Q (.nx ρ)
 |.rt d=>Q (.rt d)
 |.ex ρ d=>Q (.ex ρ d)
 |.ro ds=>Q (.ro ds)
 |.bad=>False
structure To(I:UU->Prop)(Q:Out->Prop)(o:Out):Prop where
 out:D0 I Q o
def KU{I:UU->Prop}(h:I ρ):To I Q (.nx ρ):=⟨h⟩
noncomputable def Vi{I:UU->Prop}{d:D}(h:Q (.rt d)):To I Q (.rt d):=⟨h⟩
def Zs{f}{tg}{ds}(I:Nat->UU->Prop)(h1:f ρ=.ok ds ρ1)(h0:I 0 ρ1)
  (hst:∀i d ρ,ds[i]?=zd d->I i ρ->∃ρ2,tg d ρ=zd ρ2/\Ho s ρ2 (To (I (i+1)) Q)) (hend:∀ρ,I ds.length ρ->Q (.nx ρ)):Ho (Ku f tg s) ρ Q:=by
 constructor;unfold Ku sB;rw[h1];refine FS   ds 0 ρ1 h0 (λi d ρ e p=>?_) (λρ p=>hend ρ (by simp_all))
 rw[QU]at p;obtain⟨ρ2,e2,q⟩:=hst i d ρ e p;refine⟨ρ2,e2,?_⟩;rw[QU];have q:=q.out.out;cases z:s ρ2 with
 |nx o=>rw[z]at q;exact .inl ⟨o,.inl zh,q⟩
 |ct o=>rw[z]at q;exact .inl ⟨o,.inr zh,q⟩
 |rt o=>rw[z]at q;exact .inr (.inl ⟨o,rfl,q⟩)
 |bk o=>rw[z]at q;exact .inr (.inr (.inl ⟨o,rfl,q⟩))
 |ex o x=>rw[z]at q;exact .inr (.inr (.inr (.inl ⟨o,x,rfl,q⟩)))
 |ro o=>rw[z]at q;exact .inr (.inr (.inr (.inr ⟨o,rfl,q⟩)))
 |bad=>rw[z]at q;exact q.elim
def XB   {P:D->Prop}(h0:WI N ds=ρ)(h:Ho s ρ λo=>∃d,o=.rt d/\P d):∃d,U8 N s ds=zd d/\P d:=by subst h0;obtain⟨d,e,p⟩:=h.out;refine⟨d,?_,p⟩;unfold U8;rw[e]
def KY    (h0:WI N ds=ρ)(h:Ho s ρ λo=>o=.rt d):U8 N s ds=zd d:=by obtain⟨d',e,p⟩:=XB  h0 (HW h λo e=>⟨d,e,rfl⟩);simp_all
end
section
variable{α β:Type}{ρ ρ1 ρ2 ρ3 ρ':UU}{f g h:M D}
def Ye  {x r}{a b}(h1:f ρ=.ok x ρ1)(h2:l ρ1=.ok a ρ2)(h3:u ρ2=.ok b ρ3)(h4:Xm x a b=zd r):KS f l u ρ=.ok r ρ3:=by exact Za h1 (Za h2 (Za h3 (YK h4)))
def WF{f g}(h1:f ρ=.ok zk ρ1):mOr f g ρ=.ok zk ρ1:=by exact Za h1 zh
def Yk{f g}{u}(h1:f ρ=.ok zm ρ1)(h2:g ρ1=.ok u ρ2):mOr f g ρ=.ok u ρ2:=by exact Za h1 (by exact h2)
def TF{f g}(h1:f ρ=.ok zm ρ1):Zi f g ρ=.ok zm ρ1:=by exact Za h1 zh
def Vg{f g}{u}(h1:f ρ=.ok zk ρ1)(h2:g ρ1=.ok u ρ2):Zi f g ρ=.ok u ρ2:=by exact Za h1 (by exact h2)
def YU  {d}{t}(h:f ρ=.ok d ρ1)(ht:(!KR d c)=t):KB (Zt (U0 (λd=>.bool (KR d c)) f)) ρ=.ok t ρ1:=by subst ht;exact Yl (Yh (Kx  h))
def K7   (h1:f ρ=.ok x ρ1)(h2:NZ x=zd r):KJ f ρ=.ok r ρ1:=by exact Za h1 (YK h2)
def ZS  {i}{d y}{r:β}(h:ρ[i]?=zd (zd (.pub d)))(h1:g ρ=.ok y ρ1)(h2:p d y=zd r):Zj p i g ρ=.ok r ρ1:=by unfold Zj;rw[h];exact Za h1 (YK h2)
def kJ  {i}{ds es}{y}{r:β}(h:ρ[i]?=zd (zd (.own ds)))(h1:g ρ=.ok y ρ1)(h3:ρ1[i]?=zd (zd (.own es)))(h2:p (.list es) y=zd r):Zj p i g ρ=.ok r ρ1:=by unfold Zj;rw[h];exact Za h1 (by rw[h3];exact YK h2)
def Zl{f}{k}{s}{t}{ds es}(h1:f ρ=.ok ds ρ1)(h2:K6 s t g ds (KD ρ1++Ux k zj) []=zd es):Zb f k s t g ρ=.ok es ρ1:=by unfold Zb;simp_all
theorem Vu   (p)(q)(I:UU->Prop):∀(ds:zn)(ρ:UU)(es:zn),(∀d∈ds,∀ρ,I ρ->∃ρ1,s d ρ=zd ρ1/\t ρ1=.ok (p d) ρ1/\(p d=zk->g ρ1=.ok (q d) ρ1)/\I (KD ρ1))->I ρ->es.length+ds.length<=1000000 ->
  K6 s t g ds ρ es=zd (es++(ds.filter p).map q)
 |[],ρ,es,_,_,_=>by rw[K6];simp
 |d::r,ρ,es,st,h0,hz=>by
  obtain⟨ρ1,e1,e2,e3,h1⟩:=st d Ql ρ h0;have ih:=λes' hz'=>Vu p q I r _ es' (λd' hd=>st d' (Qj _ hd)) h1 hz';rw[QL]at hz;rw[K6,e1];dsimp only;rw[e2];dsimp only
  cases hp:p d with
  |true=>rw[Qu zh,e3 hp];dsimp only;rw[Qu (by lia),ih _ (by rw[Qi,QX];lia),List.filter_cons_of_pos hp,Q5];rfl
  |false=>rw[QH (by decide),ih _ (by lia),List.filter_cons_of_neg (by rw[hp];decide)]
def ON  {d}{k}{aP ds}(h1:f ρ=.ok d ρ1)(h0:ρ1[j]?=zd (zd (.own aP)))(h2:g ρ1=.ok (.int k) ρ2)(h3:ρ2[j]?=zd (zd (.own ds)))(h4:0<=k/\k<ds.length)(h5:ρ2.set j (zd (.own (ds.set k.toNat d)))=ρ'):TN j g f ρ=.nx ρ':=by unfold TN sB;simp_all
def Yg{xs:zn}{a b:zx}:Xm (.list xs) a b=zd (.list (DL.cutD xs a b)):=rfl
def Zh{xs:zn}:NZ (.list xs)=zd xs:=rfl
def Db(bs):Vh (bs.map Uz)=zd bs:=by
 induction bs with
 |nil=>rfl
 |cons b r ih=>rw[QC,Vh,ih];rfl
def TD{bs:List Bool}:ZC [.list (bs.map Uz)]=zd (.bool (bs.all id)):=by unfold ZC;dsimp only;rw[Db];rfl
end
section
variable{α β:Type}{ρ ρ1 ρ2 ρ3 ρ4 ρ':UU}{f g h:M D}{s:SM}
def L9{g}{xs r}(h1:g ρ=.ok xs ρ1)(h2:Wl xs=zd r):VF g ρ=.ok r ρ1:=by exact Za h1 (YK h2)
def Px  {xs:zn}(h1:f ρ=.ok (.list xs) ρ1)(h2:l ρ1=.ok zj ρ2)(h3:u ρ2=.ok zj ρ3)(h4:t ρ3=.ok (zd (-1)) ρ4):XN f l u t ρ=.ok (.list xs.reverse) ρ4:=by exact Za h1 (Za h2 (Za h3 (Za h4 (YK (by unfold Se;exact Qu zh)))))
def Mw    (h:ρ[i]?=zd (zd (.pub d)))(h2:TM [d]=zd ds):T3 i ρ=.ok ds ρ:=by unfold T3;rw[h];exact YK h2
def Pw   (h0:WI N ds=ρ)(h:Ho s ρ λo=>∃ρ',o=.nx ρ'):U8 N s ds=zd .none:=by subst h0;obtain⟨ρ',e⟩:=h.out;unfold U8;rw[e]
def Vo  : oNe (.int i) (.int j)=zd (!decide (i=j)):=by
 congr 1
def Mv{xs:zo}{a b:Int}(ha:0<=a)(hb:0<=b)(hl:b<=xs.length):DL.cutD (xs.map int) (zd a) (zd b)=((xs.drop a.toNat).take (b.toNat-a.toNat)).map int:=by
 unfold DL.cutD HT.sIx;dsimp only;rw[QH (by lia),QH (by lia),Qb,List.map_take];have e2:min b.toNat xs.length=b.toNat:=by lia
 rw[e2];by_cases hab:a.toNat<=xs.length
 .simp_all
 .have e3:b.toNat-a.toNat=0:=by lia
  grind
def xO{xs ys:zo}:Yj (xs.map int) (ys.map int)=(xs.zip ys).map λp=>.tuple [.int p.1,.int p.2]:=by unfold Yj;rw[List.zip_map,QO];rfl
end
section
variable{ρ ρ1:UU}
def jj   (h1:g ρ=.ok xs ρ1)(h2:RH xs=zd r):NL g ρ=.ok r ρ1:=by exact Za h1 (YK h2)
def xN{xs:zn}:RH [.list xs]=zd (Yu 1 xs):=rfl
end
section
variable{X:Cx}{B G0:Hp}{KX:XW}{e o a b c tg i:Ur}{pos p2:Pos}{es rest:zq}
noncomputable def Wa(f:M Bool)(g:SM):Nat->SM
 |0,_=>.bad
 |n+1,ρ=>match f ρ with
  |.bad=>.bad
  |.ok t ρ1=>if t=zk then(match g ρ1 with
   |.nx ρ2=>Wa f g n ρ2
   |.ct ρ2=>Wa f g n ρ2
   |.bk ρ2=>.nx ρ2
   |.rt d=>.rt d
   |.ro ds=>.ro ds
   |.ex ρ2 d=>.ex ρ2 d
   |.bad=>.bad)else .nx ρ1
def ji  {f}{g}(n)(hp:PassesOwn (model X.prog X.w) X.A X.env X.xe)(hc:PT X c (tBo X.K B G0 f))(hb:PSs X body (tS X.K B G0 KX g)):PS X (.While c body [] pos) (tS X.K B G0 KX (Wa f g n)):=
 ZP (kH hp hc hb) λDn σ H ⟨G,ρ,k,a⟩=>by
  refine⟨λm σ' H'=>∃G' ρ',EOk X.K B G0 G' H' σ' ρ'/\aftS X.K B G0 KX (Wa f g m ρ') G' Dn,⟨n,G,ρ,k,a⟩,?_⟩;rintro m σ' H' ⟨G',ρ',k',a'⟩;cases m with
  |zero=>exact a'.elim
  |succ m=>
   rw[Wa]at a';refine⟨G',ρ',k',?_⟩;cases z:f ρ' with
   |bad=>rw[z]at a';exact a'.elim
   |ok t ρ1=>
    rw[z]at a';dsimp only at a';intro v G1 H1 k1 s1 e1;subst e1;cases v with
    |false=>exact a' _ G1 H1 k1 s1
    |true=>
     refine⟨λσ2 H2=>∃G2 ρ2,EOk X.K B G0 G2 H2 σ2 ρ2/\aftS X.K B G0 KX _ G2 Dn,λσ2 H2 h2=>⟨m,JJ m,h2⟩,G1,ρ1,k1,?_⟩;cases z2:g ρ1 with
     |nx ρ2=>rw[z2]at a';exact λσ4 G4 H4 k4 s4=>⟨G4,ρ2,k4,aftS.mono (s1.trans s4) a'⟩
     |ct ρ2=>rw[z2]at a';exact λσ4 G4 H4 k4 s4=>⟨G4,ρ2,k4,aftS.mono (s1.trans s4) a'⟩
     |bk ρ2=>rw[z2]at a';exact λσ4 G4 H4 k4 s4=>a' σ4 G4 H4 k4 (s1.trans s4)
     |rt d=>rw[z2]at a';exact a'
     |ro ds=>rw[z2]at a';exact a'
     |ex ρ2 d=>rw[z2]at a';exact λv σ4 G4 H4 k4 s4 r4=>a' v σ4 G4 H4 k4 (s1.trans s4) r4
     |bad=>rw[z2]at a';exact a'.elim
noncomputable def Wh(op:Int->Int->zp)(j:Nat)(f:M D):SM:=λρ=>match ρ[j]? with
 |some (zd (.pub (.int a)))=>sB f (λy ρ1=>match y with
  |.int b=>(match op a b with
   |some d=>if j<ρ1.length then .nx (ρ1.set j (zd (.pub d)))else .bad
   |none=>.bad)
  |_=>.bad) ρ
 |_=>.bad
def IpD(X:Cx)(op:Operator)(p:Int->Int->zp):Prop:=∃ti,PIp X op ti/\∀i j d,p i j=zd d->∃v:V,(∀G,Rep X.K G v d)/\∀H(Q:VK),Q v H->ti (.int i) (.int j) H Q
def AY:IpD X .Mult XI:=⟨_,qx,λi j d e=>by
 unfold XI at e;split at e
 .rename_i h
  cases e;exact⟨_,λ_=>.int _,λH Q q=>⟨i,j,rfl,rfl,h,q⟩⟩
 simp_all⟩
def Bc  {x:Str}{op}{p}{f:M D}{pos':Pos}(hN:X.N.Nodup)(hi:X.N[j]?=zd x)(hx:Loc X.env.scope x)(ho:IpD X op p)(he:PE X e (tD X.K B G0 f))(hf:X.fn x=zk∨X.env.scope.names.lookup x=zd .local:=by first|exact .inl rfl|exact .inr rfl|assumption) :
  PS X (.AugAssign (.Name x pos') op e pos) (tS X.K B G0 KX (Wh p j f)):=by
 obtain⟨ti,hti,hp⟩:=ho;refine ZP (B7 hN hi hx he hti hf) λDn σ H ⟨G,ρ,k,a⟩=>?_;unfold Wh at a
 cases q:ρ[j]? with
 |none=>rw[q]at a;exact a.elim
 |some o0=>
  cases o0 with
  |none=>rw[q]at a;exact a.elim
  |some sl=>
   cases sl with
   |deep _ _=>rw[q]at a;exact a.elim
   |own ds=>rw[q]at a;exact a.elim
   |pub d0=>
    rw[q]at a;cases d0 with
    |int i0=>
     dsimp only at a;obtain⟨v,h1,h2⟩:=k.pub j _ q;cases h2.int_inv;refine⟨.int i0,h1,G,ρ,k,?_⟩;unfold sB at a;cases z:f ρ with
     |bad=>rw[z]at a;exact a.elim
     |ok y ρ1=>
      rw[z]at a;intro u G1 H1 k1 s1 r1;cases y with
      |int i1=>
       cases r1.int_inv;dsimp only at a;cases w:p i0 i1 with
       |none=>rw[w]at a;exact a.elim
       |some d=>
        rw[w]at a;dsimp only at a;split at a
        .rename_i hl
         obtain⟨v',rv,hq⟩:=hp i0 i1 d w;exact hq H1 _ (a _ G1 H1 (k1.setPub (rv G1) hl) s1)
        .exact a.elim
      |_=>exact a.elim
    |_=>exact a.elim
end
section
variable{X:Cx}{B G0:Hp}{e o a b c tg i:Ur}{pos p2:Pos}{es rest:zq}
def xM(hc:X.calm=zk):YS X (.builtin "sum") (λxs H Q=>∃l,∃ns:zo,xs=[.ref l]/\SqL X.K H l (ns.map V.int)/\Q (.int ns.sum) H):=by
 intro pins s σ H xs us Q I rx h;obtain⟨l,ns,rfl,hq,q⟩:=h;obtain⟨u,rfl,ru⟩:=rx.one;cases ru;obtain⟨its,rv,p,hz⟩:=I.list hq;have hi:=Vx rv;obtain⟨ys,e⟩:=hi.allInts.items;have hns:ns=ys.toList.map (·.1):=by rw[←hi.numsOf,←nums_intItems,←e]
 have hl:=p.isList;rw[e]at hl;refine sum_intListG (I.ok.hd hc) hl λh' tk t' hk=>?_
 have e2:preSum (numAt ys) ys.size=ns.sum:=by rw[preSum_eq,List.take_of_length_le (by simp),hns]
 rw[e2];exact⟨.int ns.sum,H,I.kept hk,⟨t',rfl⟩,q⟩
noncomputable def Tn:zn->zp
 |[.list ds]=>(YL ds).map λns=>.int ns.sum
 |_=>zj
def xL   (h:Tn xs=zd d):∃ds ns,xs=[.list ds]/\YL ds=zd ns/\d=.int ns.sum:=by
 unfold Tn at h;split at h
 .rename_i ds
  cases z:YL ds with
  |none=>simp_all
  |some ns=>simp_all
 simp_all
def Bb(hc:X.calm=zk):YV X (.builtin "sum") Tn:=by refine⟨_,xM hc,λvs G H ds d Q s r e k=>?_⟩;obtain⟨ds,ns,rfl,z,rfl⟩:=xL e;obtain⟨v,rfl,q1⟩:=r.one_inv;obtain⟨l,ws,rfl,h1,r1⟩:=q1.lst_inv;have:=R9 r1 z;subst this;exact⟨l,ns,rfl,s.seq h1,k _ G H (.refl s) (.int _)⟩
def Mu{ns:zo}:Tn [.list (ns.map .int)]=zd (.int ns.sum):=by unfold Tn;dsimp only;rw[R3];rfl
def xK:MtR X "list.index" (λv vs H Q=>∃l k,∃ns:zo,v=.ref l/\vs=[.int k]/\SqL X.K H l (ns.map V.int)/\PyData.layable0 (.list (ns.map .int))=zk/\k∈ns/\Q (.int (ns.idxOf k:Nat)) H):=by intro pins s σ H x vs v us Q I rx rv h;obtain⟨l,k,ns,rfl,rfl,hq,hl,hk,q⟩:=h;cases rx;obtain⟨u,rfl,ru⟩:=rv.one;obtain⟨t,rfl⟩:=ru;obtain⟨its,rv,p,hz⟩:=I.list hq;exact index_list_ints p.isList (Vx rv) hl hk ⟨.int _,H,I.tok _,⟨_,rfl⟩,q⟩
noncomputable def RO(y:D)(xs:zn):zp:=match y,xs with
 |.list ds,[.int k]=>(match YL ds with
  |some ns=>if PyData.layable0 (.list (ns.map .int))=zk/\k∈ns then zd (.int (ns.idxOf k:Nat))else zj
  |none=>zj)
 |_,_=>zj
def yh{ds xs:zn}{d}(h:RO (.list ds) xs=zd d):∃k ns,xs=[.int k]/\YL ds=zd ns/\PyData.layable0 (.list (ns.map .int))=zk/\k∈ns/\d=.int (ns.idxOf k:Nat):=by
 unfold RO at h;split at h
 .rename_i ds' k e1
  cases e1;cases z:YL ds with
  |none=>simp_all
  |some ns=>simp_all
 simp_all
noncomputable def Oj(f:M D)(g:M zn):M D:=Kd f λy=>Kd g λxs=>Ka (match y with | .list ds=>RO (.list ds) xs|_=>zj)
def xJ{apos cpos}{f}{g}(ho:PE X o (tD X.K B G0 f))(ha:PA X (e::es) (tDs X.K B G0 g))
  (hbase:attributeBase o "index" X.env (eval o X.env)=eval o X.env:=by rfl)
  (hfew:((backTo cpos (Uu (e::es) X.env)).all (λx=>!x.1)&&(backToKw cpos (keywordEach [] X.env)).all (λx=>x.1.isSome)
   && decide ((e::es).length+([]:List Keyword).length+(if([]:List Keyword).isEmpty then 0 else 1)<30))=zk:=by rfl)
  (hline:(apos.endLine==cpos.line)=zk:=by rfl) (hs:Uu (e::es) X.env=(zm,eval e X.env)::Uu es X.env:=by rfl) (hplain:(backTo cpos (Uu es X.env)).any (·.1)=zm:=by rfl) :
  PE X (.Call (.Attribute o "index" apos) (e::es) [] cpos) (tD X.K B G0 (Oj f g)):=
 Kz (Nx F.plainAttrs_list F.slot_list_index F.type_list_index xK ho ha hbase hfew hline hs hplain) λσ H Q q=>by
  refine tM.one  q λv H2 G ρ y k r a=>?_
  cases y with
  |list ds=>
   obtain⟨l,ws,rfl,h1,r1⟩:=r.lst_inv;refine⟨.inl ⟨rfl,ws,k.gh.seq h1⟩,?_⟩;refine tM.nx  k a λxs H3 G3 ρ3 es k3 s3 r3 a3=>?_
   obtain⟨d,e,a3⟩:=a3.opt;obtain⟨x,ns,rfl,z,hl,hk,rfl⟩:=yh e;obtain⟨u,rfl,ru⟩:=r3.one_inv;have:=R9 r1 z;subst this;exact⟨l,x,ns,rfl,by rw[ru.int_inv],k3.gh.seq (s3.seq h1),hl,hk,aft.now a3 k3 (.int _)⟩
  |_=>
   unfold Kd at a;cases z:g ρ with
   |bad=>rw[z]at a;exact a.elim
   |ok xs ρ1=>rw[z]at a;exact a.elim
def jh   {ρ ρ1 ρ2}{ds:zn}{x d}(h1:f ρ=.ok (.list ds) ρ1)(h2:g ρ1=.ok [x] ρ2)(h3:RO (.list ds) [x]=zd d):Oj f g ρ=.ok d ρ2:=by unfold Oj Kd;rw[h1];dsimp only;rw[h2];dsimp only;rw[h3];rfl
def yg:bootBuiltins "tuple" = zd (.type "tuple"):=by decide +kernel
end
end DL
namespace DL
open PySem PySem.Spec PySem.W PyProof.Rows
noncomputable def Kv{α:Type}(lt:Nat->Nat->Bool):KasT α->α
 |.ret a=>a
 |.ask i j k=>Kv lt (k (lt i j))
theorem R7   {f:α->KasT β}:∀t:KasT α,Kv lt (t.bind f)=Kv lt (f (Kv lt t))
 |.ret _=>rfl
 |.ask i j k=>by show Kv lt ((k _).bind f)=_;rw[R7];rfl
section
variable{key:Nat->Int}{p:Array Nat}
noncomputable def KA(key:Nat->Int)(p:Array Nat)(i:Nat):Int:=key (p.getD i 0)
def srt(key:Nat->Int)(p:Array Nat)(m:Nat):Prop:=∀i j,i<=j->j<m->KA key p i<=KA key p j
def dsc(key:Nat->Int)(p:Array Nat)(m:Nat):Prop:=∀i j,i<=j->j<m->KA key p j<=KA key p i
noncomputable abbrev kl(key:Nat->Int)(i j:Nat):Bool:=decide (key i<key j)
def FR  (hk:k<p.size)(hd:d<=k):KA key (bubble p k d) i=if i=k-d then KA key p k else if k-d<i/\i<=k then KA key p (i-1)else KA key p i:=by
 unfold KA;simp only[Jy];rw[getElem?_bubble hk d hd]
 repeat' split
 all_goals rfl
def Pv{i j k}(hj:j<=p.size):KA key (kas_rev p i j) k=if i<=k/\k<j then KA key p (i+j-1-k)else KA key p k:=by
 unfold KA kas_rev;simp only[Jy];rw[getElem?_mirror_all hj]
 split<;>rfl
noncomputable def Sc{i j:Nat}:(kas_rev p i j).size=p.size:=mirror_size _ _ _ _
noncomputable def Vm{i j:Nat}:(kas_rev p i j).Perm p:=mirror_perm _ _ _ _
theorem Mt:∀(f n:Nat),1<=n->srt key p n->srt key p (Kv (kl key) (kas_asc p f n))/\n<=Kv (kl key) (kas_asc p f n)/\Kv (kl key) (kas_asc p f n)<=n+f /\
  (Kv (kl key) (kas_asc p f n)<n+f->KA key p (Kv (kl key) (kas_asc p f n))<KA key p (Kv (kl key) (kas_asc p f n)-1))
 |0,n,h1,hs=>⟨hs,Qp _,Qp _,λh=>absurd h (Jo _)⟩
 |f+1,n,h1,hs=>by
  unfold kas_asc Kv;cases c:kl key (p.getD n 0) _ with
  |true=>exact⟨hs,Qp _,by show n<=n+(f+1);lia,λ_=>Qa c⟩
  |false=>
   dsimp only;rw[QH (by decide)];have hle   :=Ui.mp (Q9 c)
   obtain⟨a1,a2,a3,a4⟩:=Mt f (n+1) (by lia) (λi j hij hj=>by
    by_cases aK:j=n
    .subst aK
     by_cases hin:i=j
     .subst hin;exact Jb _
     .exact JT (hs i (j-1) (by lia) (by lia)) hle
    .exact hs i j hij (by lia))
   exact⟨a1,by lia,by lia,λh=>a4 (by lia)⟩
def eqs(key:Nat->Int)(p:Array Nat)(n q:Nat):Prop:=∀i,n-1-q<=i->i<n->KA key p i=KA key p (n-1)
theorem Nb:∀(f:Nat)(p:Array Nat)(n q:Nat),1<=n->q+1<=n->n+f<=p.size->dsc key p n->eqs key p n q ->
  let r:=Kv (kl key) (kas_desc f p n q)
  r.1.Perm p/\r.1.size=p.size/\dsc key r.1 r.2.1/\eqs key r.1 r.2.1 r.2.2/\r.2.2+1<=r.2.1/\n<=r.2.1/\r.2.1<=n+f
 |0,p,n,q,h1,hq,hz,hd,he=>⟨Ue _,rfl,hd,he,hq,Qp _,Qp _⟩
 |f+1,p,n,q,h1,hq,hz,hd,he=>by
  intro r;have hr:r=Kv (kl key) (kas_desc (f+1) p n q):=rfl;unfold kas_desc Kv at hr;cases c:kl key (p.getD n 0) (p.getD (n-1) 0)with
  |true=>
   rw[c]at hr;(try dsimp only at hr);rw[if_pos zh]at hr;have hlt:KA key p n<KA key p (n-1):=Qa c
   have ext:∀p':Array Nat,(∀i,KA key p' i=KA key p i)->dsc key p' (n+1)/\eqs key p' (n+1) 0:=λp' hp=>⟨λi j hij hj=>by
     rw[hp,hp];by_cases aK:j=n
     .subst aK
      by_cases hin:i=j
      .subst hin;exact Jb _
      .exact JT (Int.le_of_lt hlt) (hd i (j-1) (by lia) (by lia))
     .exact hd i j hij (by lia),λi hi1 hi2=>by
     have:i=n:=by lia
     subst this;rfl⟩
   by_cases hq0:q > 0
   .rw[Qu hq0]at hr
    have same:∀i,KA key (kas_rev p (n-(q+1)) n) i=KA key p i:=λi=>by
     rw[Pv (by lia)];split
     .rw[he _ (by lia) (by lia),he i (by lia) (by lia)]
     .rfl
    obtain⟨d1,e1⟩:=ext _ same;obtain⟨a1,a2,a3,a4,a5,a6,a7⟩:=Nb f (kas_rev p (n-(q+1)) n) (n+1) 0 (by lia) (by lia) (by rw[Sc];lia) d1 e1;rw[←hr]at a1 a2 a3 a4 a5 a6 a7;exact⟨a1.trans Vm,a2.trans Sc,a3,a4,a5,by lia,by lia⟩
   .rw[QH hq0]at hr
    obtain⟨d1,e1⟩:=ext p λ_=>rfl
    obtain⟨a1,a2,a3,a4,a5,a6,a7⟩:=Nb f p (n+1) 0 (by lia) (by lia) (by lia) d1 e1;rw[←hr]at a1 a2 a3 a4 a5 a6 a7;exact⟨a1,a2,a3,a4,a5,by lia,by lia⟩
  |false=>
   rw[c]at hr;(try dsimp only at hr);rw[if_neg (by decide)]at hr;unfold Kv at hr;have hle:KA key p (n-1)<=KA key p n:=Ui.mp (Q9 c);cases d:kl key (p.getD (n-1) 0) (p.getD n 0)with
   |true=>rw[d]at hr;(try dsimp only at hr);rw[if_pos zh]at hr;unfold Kv at hr;rw[hr];exact⟨Ue _,rfl,hd,he,hq,Qp _,by show n<=n+(f+1);lia⟩
   |false=>
    rw[d]at hr;(try dsimp only at hr);rw[if_neg (by decide)]at hr;have hge:KA key p n<=KA key p (n-1):=Ui.mp (Q9 d)
    obtain⟨a1,a2,a3,a4,a5,a6,a7⟩:=Nb f p (n+1) (q+1) (by lia) (by lia) (by lia) (λi j hij hj=>by
     by_cases aK:j=n
     .subst aK
      by_cases hin:i=j
      .subst hin;exact Jb _
      .exact JT hge (hd i (j-1) (by lia) (by lia))
     .exact hd i j hij (by lia)) (λi hi1 hi2=>by
     have e0:KA key p n=KA key p (n-1):=JQ hge hle;rw[Nat.add_sub_cancel,e0];by_cases hin:i=n
     .subst hin;exact e0
     .exact he i (by lia) (by lia))
    rw[←hr]at a1 a2 a3 a4 a5 a6 a7;exact⟨a1,a2,a3,a4,a5,by lia,by lia⟩
def ES  (h1:1<=n)(hn:n<=nrem)(hz:nrem<=p.size)(hd:dsc key p n) :
  let r:=Kv (kl key) (kas_tail3 n nrem p)
  r.2.Perm p/\r.2.size=p.size/\srt key r.2 r.1/\1<=r.1/\r.1<=nrem:=by
 intro r;have hr:r=Kv _ _:=rfl;unfold kas_tail3 at hr;rw[R7]at hr;have hs:srt key (kas_rev p 0 n) n:=λi j hij hj=>by rw[Pv (by lia),Pv (by lia),Qu (by lia),Qu (by lia)];exact hd _ _ (by lia) (by lia)
 obtain⟨a1,a2,a3,_⟩:=Mt   _ n h1 hs;rw[hr];exact⟨Vm,Sc,a1,by show 1<=Kv _ _;lia,by show Kv _ _<=_;lia⟩
def Dg{n nrem:Nat}(h1:1<=n)(hn:n+1<=nrem)(hz:nrem<=p.size)(hd:dsc key p (n+1)) :
  let r:=Kv (kl key) (kas_descPart n nrem p)
  r.2.Perm p/\r.2.size=p.size/\srt key r.2 r.1/\1<=r.1/\r.1<=nrem:=by
 intro r;have hr:r=Kv (kl key) _:=rfl;unfold kas_descPart at hr;rw[R7]at hr
 obtain⟨a1,a2,a3,a4,a5,a6,a7⟩:=Nb (key:=key) (nrem-(n+1)) p (n+1) 0 (by lia) (by lia) (by lia) hd (λi hi1 hi2=>by
  have:i=n:=by lia
  subst this;rfl)
 generalize Kv (kl key) (kas_desc _ p (n+1) 0)=d at hr a1 a2 a3 a4 a5 a6 a7;obtain⟨p1,n1,q1⟩:=d;dsimp only at hr a1 a2 a3 a4 a5 a6 a7;by_cases hq:q1 > 0
 .rw[Qu hq]at hr
  have same:∀i,KA key (kas_rev p1 (n1-(q1+1)) n1) i=KA key p1 i:=λi=>by
   rw[Pv (by lia)];split
   .rw[a4 _ (by lia) (by lia),a4 i (by lia) (by lia)]
   .rfl
  obtain⟨b1,b2,b3,b4,b5⟩:=ES (key:=key) (p:=kas_rev p1 (n1-(q1+1)) n1) (n:=n1) (nrem:=nrem) (by lia) (by lia) (by rw[Sc];lia) (λi j hij hj=>by rw[same,same];exact a3 i j hij hj);rw[hr];exact⟨(b1.trans Vm).trans a1,(b2.trans Sc).trans a2,b3,b4,b5⟩
 .rw[QH hq]at hr
  obtain⟨b1,b2,b3,b4,b5⟩:=ES (key:=key) (p:=p1) (n:=n1) (nrem:=nrem) (by lia) (by lia) (by lia) a3;rw[hr];exact⟨b1.trans a1,b2.trans a2,b3,b4,b5⟩
def wO{nrem:Nat}(h1:1<=nrem)(hz:nrem<=p.size) :
  let r:=Kv (kl key) (kas_count nrem p)
  r.2.Perm p/\r.2.size=p.size/\srt key r.2 r.1/\1<=r.1/\r.1<=nrem:=by
 intro r;have hr:r=Kv (kl key) (kas_count nrem p):=rfl;unfold kas_count at hr;rw[R7]at hr
 obtain⟨a1,a2,a3,a4⟩:=Mt (key:=key) (p:=p) (nrem-1) 1 (Qp _) (λi j hij hj=>by
  have:i=j:=by lia
  subst this;exact Jb _)
 generalize Kv (kl key) (kas_asc p (nrem-1) 1)=n at hr a1 a2 a3 a4;by_cases hn:(n==nrem)=zk
 .rw[Qu hn]at hr
  unfold Kv at hr;rw[hr];exact⟨Ue _,rfl,a1,a2,by show n<=nrem;lia⟩
 .rw[QH hn]at hr
  have hlt:=a4 (by lia);by_cases hn1:n > 1
  .rw[Qu hn1]at hr
   unfold Kv at hr;cases c:kl key (p.getD 0 0) (p.getD (n-1) 0)with
   |true=>rw[c]at hr;(try dsimp only at hr);rw[if_pos zh]at hr;unfold Kv at hr;rw[hr];exact⟨Ue _,rfl,a1,a2,by show n<=nrem;lia⟩
   |false=>
    rw[c]at hr;(try dsimp only at hr);rw[if_neg (by decide)]at hr;have hge:KA key p (n-1)<=KA key p 0:=Ui.mp (Q9 c);have all   :=λi hi=>JQ (JT (a1 i (n-1) (by lia) (by lia)) hge) (a1 0 i (by lia) hi)
    have same:∀i,KA key (kas_rev p 0 n) i=KA key p i:=λi=>by
     rw[Pv (by lia)];split
     .rw[all _ (by lia),all i (by lia)]
     .rfl
    obtain⟨b1,b2,b3,b4,b5⟩:=Dg (key:=key) (p:=kas_rev p 0 n) (n:=n) (nrem:=nrem) a2 (by lia) (by rw[Sc];exact hz) (λi j hij hj=>by
     rw[same,same];by_cases aK:j=n
     .subst aK
      by_cases hin:i=j
      .subst hin;exact Jb _
      .rw[all i (by lia)]
       rw[all (j-1) (by lia)]at hlt;exact Int.le_of_lt hlt
     .rw[all i (by lia),all j (by lia)];exact Jb _)
    rw[hr];exact⟨b1.trans Vm,b2.trans Sc,b3,b4,b5⟩
  .rw[QH hn1]at hr
   have:n=1:=by lia
   subst this
   obtain⟨b1,b2,b3,b4,b5⟩:=Dg (key:=key) (p:=p) (n:=1) (nrem:=nrem) (Qp _) (by lia) hz (λi j hij hj=>by
    by_cases hij2:i=j
    .subst hij2;exact Jb _
    .have h0:i=0:=by lia
     have h1:j=1:=by lia
     subst h0;subst h1;exact Int.le_of_lt hlt)
   rw[hr];exact⟨b1,b2,b3,b4,b5⟩
theorem M8{k:Nat}(hs:srt key p k):∀(f l r:Nat),l<=r->r<=k->r-l<=f->(∀i,i<l->KA key p i<=KA key p k)->(∀i,r<=i->i<k->KA key p k<KA key p i) ->
  let m:=Kv (kl key) (kas_place p k f l r)
  m<=k/\(∀i,i<m->KA key p i<=KA key p k)/\(∀i,m<=i->i<k->KA key p k<KA key p i)
 |0,l,r,hlr,hrk,hf,h1,h2=>⟨by show l<=k;lia,h1,λi (hi:l<=i)=>h2 i (by lia)⟩
 |f+1,l,r,hlr,hrk,hf,h1,h2=>by
  intro m;have hm:m=Kv (kl key) _:=rfl;unfold kas_place at hm;by_cases hge:l ≥ r
  .rw[Qu hge]at hm
   unfold Kv at hm;rw[hm];exact⟨by lia,h1,λi hi=>h2 i (by lia)⟩
  .rw[QH hge]at hm
   unfold Kv at hm;cases c:kl key (p.getD k 0) (p.getD ((l+r) / 2) 0)with
   |true=>rw[c]at hm;rw[hm];have hlt   :=Qa c;exact M8 hs f l ((l+r) / 2) (by lia) (by lia) (by lia) h1 λi hi hik=>Int.lt_of_lt_of_le hlt (hs _ _ hi hik)
   |false=>rw[c]at hm;(try dsimp only at hm);rw[hm];have hle   :=Ui.mp (Q9 c);exact M8 hs f ((l+r) / 2+1) r (by lia) hrk (by lia) (λi hi=>JT (hs i ((l+r) / 2) (by lia) (by lia)) hle) h2
theorem GZ:∀(f:Nat)(p:Array Nat)(k:Nat),k+f<=p.size->srt key p k->let r:=Kv (kl key) (kas_bin f p k);r.Perm p/\r.size=p.size/\srt key r (k+f)
 |0,p,k,_,hs=>⟨Ue _,rfl,hs⟩
 |f+1,p,k,hz,hs=>by
  intro r;have hr:r=Kv (kl key) _:=rfl;unfold kas_bin at hr;rw[R7]at hr;obtain⟨a1,a2,a3⟩:=M8 (key:=key) hs k 0 k (JS _) (Qp _) (by omega) (λi hi=>by omega) (λi h1 h2=>by omega);generalize Kv (kl key) (kas_place p k k 0 k)=l at hr a1 a2 a3;have hk:k<p.size:=by omega
  obtain⟨b1,b2,b3⟩:=GZ f (bubble p k (k-l)) (k+1) (by rw[bubble_size];omega) (λi j hij hj=>by
   rw[FR hk (by omega),FR hk (by omega),show k-(k-l)=l by omega];by_cases hi:i=l
   .rw[Qu hi]
    by_cases zL:j=l
    .rw[Qu zL];exact Jb _
    .rw[QH zL,Qu (by omega)]
     exact Int.le_of_lt (a3 (j-1) (by omega) (by omega))
   .rw[QH hi]
    by_cases hi2:l<i/\i<=k
    .rw[Qu hi2,QH (show ¬j=l by omega),Qu (by omega)]
     exact hs _ _ (by omega) (by omega)
    .rw[QH hi2]
     by_cases zL:j=l
     .rw[Qu zL];exact a2 i (by omega)
     .rw[QH zL]
      split
      .exact hs _ _ (by omega) (by omega)
      .exact hs _ _ (by omega) (by omega))
  rw[hr];exact⟨b1.trans (bubble_perm _ _ _),b2.trans (bubble_size _ _ _),by rw[show k+(f+1)=k+1+f by omega];exact b3⟩
def xI{n:Nat}(h1:1<=n):let r:=Kv (kl key) (kas_sort n);r.Perm (List.toArray (Uw n))/\r.size=n/\srt key r n:=by
 intro r;have hr:r=Kv (kl key) _:=rfl;unfold kas_sort at hr;rw[R7]at hr;have hsz:(List.toArray (Uw n)).size=n:=by simp
 obtain⟨a1,a2,a3,a4,a5⟩:=wO   (nrem:=n) h1 (by rw[hsz];exact Qp _);generalize Kv (kl key) (kas_count n _)=d at hr a1 a2 a3 a4 a5;by_cases hlt:d.1<n
 .rw[Qu hlt]at hr
  have hmax:max d.1 1=d.1:=by lia
  rw[hmax]at hr;obtain⟨b1,b2,b3⟩:=GZ  (n-d.1) d.2 d.1 (by lia) a3;rw[hr];exact⟨b1.trans a1,by lia,by rw[show d.1+(n-d.1)=n by lia]at b3;exact b3⟩
 .rw[QH hlt]at hr
  unfold Kv at hr;rw[hr];exact⟨a1,by lia,by rw[show d.1=n by lia]at a3;exact a3⟩
noncomputable def Asks{α:Type}(N:Nat)(R:α->Prop):KasT α->Prop
 |.ret a=>R a
 |.ask i j k=>i<N/\j<N/\∀b,Asks N R (k b)
def Asks.bind   {R:α->Prop}{S:β->Prop}{f}(hf:∀a,R a->Asks N S (f a)):∀{t},Asks N R t->Asks N S (t.bind f)
 |.ret a,h=>hf a h
 |.ask _ _ k,⟨h1,h2,h3⟩=>⟨h1,h2,λb=>Asks.bind hf (h3 b)⟩
theorem GY   {cmp}{s}{N}{R}(hc:∀i j C,i<N->j<N->C (lt i j) s->cmp i j C s):∀(t:KasT α)(Q),Asks N R t->Q (Kv lt t) s->t.kasWp cmp Q s
 |.ret _,_,_,h=>h
 |.ask i j k,Q,⟨h1,h2,h3⟩,h=>hc i j _ h1 h2 (GY hc _ Q (h3 _) h)
def bnd(N:Nat)(p:Array Nat):Prop:=∀i,p.getD i 0<N
def RZ  {p q}(hN:0<N)(h:bnd N p)(e:q.Perm p):bnd N q:=λi=>by
 rw[Jy];cases z:q[i]? with
 |none=>simp_all
 |some v=>have hm   :=Array.mem_of_getElem? z;have hm2   :=e.mem_iff.mp hm;obtain⟨j,hj,e2⟩:=Array.mem_iff_getElem.mp hm2;have:=h j;simp_all
section
variable{N:Nat}(hN:0<N)
include hN
theorem Ms{p}(h:bnd N p):∀(f n),Asks N (λ_=>True) (kas_asc p f n)
 |0,_=>trivial
 |f+1,n=>⟨h _,h _,λb=>by
  cases b with
  |true=>trivial
  |false=>exact Ms h f _⟩
theorem Na:∀(f)(p)(n q),bnd N p->Asks N (λr=>bnd N r.1) (kas_desc f p n q)
 |0,p,_,_,h=>h
 |f+1,p,n,q,h=>⟨h _,h _,λb=>by
  cases b with
  |true=>
   dsimp only;rw[Qu zh];split
   .exact Na f _ _ _ (RZ hN h Vm)
   .exact Na f _ _ _ h
  |false=>
   refine⟨h _,h _,λb=>?_⟩;cases b with
   |true=>exact h
   |false=>exact Na f _ _ _ h⟩
theorem ER{p}{n nrem}(h:bnd N p):Asks N (λr=>bnd N r.2) (kas_tail3 n nrem p):=
 Asks.bind   (S:=λr   =>bnd N r.2) (f:=λm=>.ret (m,kas_rev p 0 n)) (λ_ _=>RZ   hN h Vm) (Ms hN (RZ hN h Vm) _ _)
theorem Df{p}{n nrem}(h:bnd N p):Asks N (λr=>bnd N r.2) (kas_descPart n nrem p):=
 Asks.bind (λr hr=>by
  split
  .exact ER hN (RZ hN hr Vm)
  .exact ER hN hr) (Na hN _ _ _ _ h)
theorem wN{p}{nrem}(h:bnd N p):Asks N (λr=>bnd N r.2) (kas_count nrem p):=
 Asks.bind  (λn _=>by
  split
  .exact h
  .split
   .refine⟨h _,h _,λb=>?_⟩
    cases b with
    |true=>exact h
    |false=>exact Df hN (RZ hN h Vm)
   .exact Df hN h) (Ms hN h _ _)
theorem M7{p}(h:bnd N p)(k):∀(f l r),Asks N (λ_=>True) (kas_place p k f l r)
 |0,_,_=>trivial
 |f+1,l,r=>by
  unfold kas_place;split
  .trivial
  .refine⟨h _,h _,λb=>?_⟩
   cases b with
   |true=>exact M7 h k f _ _
   |false=>exact M7 h k f _ _
theorem GX:∀(f)(p)(k),bnd N p->Asks N (λ_=>True) (kas_bin f p k)
 |0,_,_,_=>trivial
 |f+1,p,k,h=>Asks.bind  (λl _=>GX f _ _ (RZ hN h (bubble_perm _ _ _))) (M7 hN h k _ _ _)
end
def xH  (hn:0<n):Asks n (λ_=>True) (kas_sort n):=by
 have hb:bnd n (List.toArray (Uw n)):=λi=>by
  by_cases hi:i<n
  .simp_all
  simp_all
 refine Asks.bind (λr hr=>?_) (wN hn hb);split
 .exact GX hn _ _ _ hr
 .trivial
end
noncomputable def KQ(q:Int×Int):Int:=q.1*10000000+q.2
def okP(q:Int×Int):Prop:=-1000000<=q.2/\q.2<=1000000
def AX  (hx:okP x)(hy:okP y):KQ x<KQ y ↔ (x.1<y.1∨x.1=y.1/\x.2<y.2):=by
 unfold KQ okP at *
 lia
def jg  (hx:okP x)(hy:okP y)(h:KQ x=KQ y):x=y:=by
 unfold KQ okP at *
 grind
section
variable{prog:Uo}{w:World}{A:Around}{E:Ul->Um->Prop}{s:Um}
def OB(h:Heap)(v:Ul)(q:Int×Int):Prop:=∃a t u o n,v=.ref a/\h.get? a=zd o/\o.cls=.type "tuple" /\ o.data=.seq #[.int q.1 t,.int q.2 u] n
def AW{x y:Ul}{p q:Int×Int}{Q:Bool->Um->Prop}(hx:OB s.heap x p)(hy:OB s.heap y q)(h:Q (decide (p.1<q.1∨p.1=q.1/\p.2<q.2)) s):Ut (model prog w) A (keyLt' (tuples' zk) x y) Q E s:=by
 obtain⟨a,t,u,o,n,rfl,e1,c1,d1⟩:=hx;obtain⟨b,t',u',o',n',rfl,e2,c2,d2⟩:=hy;refine kat_lt e1 d1 e2 d2 ?_;refine kat_cons (wpAny_eqBool_int ?_);by_cases h1:p.1=q.1
 .have e:(p.1==q.1)=zk:=by simpa using h1
  rw[e];refine kat_yes (kat_cons (wpAny_eqBool_int ?_));by_cases h2:p.2=q.2
  .have e:(p.2==q.2)=zk:=by simpa using h2
   rw[e];have:decide (p.1<q.1∨p.1=q.1/\p.2<q.2)=zm:=QZ (by lia);rw[this]at h;exact h
  .have e:(p.2==q.2)=zm:=by simpa using h2
   rw[e];refine kat_no (kat_one _ _ (PyProof.Rows.lt_int ?_))
   have:decide (p.1<q.1∨p.1=q.1/\p.2<q.2)=decide (p.2<q.2):=by
    by_cases z:p.2<q.2
    .rw[QW z,QW (.inr ⟨h1,z⟩)]
    .rw[QZ z,QZ (by lia)]
   rw[this]at h;exact h
 .have e:(p.1==q.1)=zm:=by simpa using h1
  rw[e];refine kat_no (oneLt_int ?_)
  have:decide (p.1<q.1∨p.1=q.1/\p.2<q.2)=decide (p.1<q.1):=by
   by_cases z:p.1<q.1
   .rw[QW z,QW (.inl z)]
   .rw[QZ z,QZ (by lia)]
  rw[this]at h;exact h
noncomputable def Xi(h:Heap):zr->LP->Prop
 |[],[]=>True
 |v::vs,q::qs=>OB h v q/\Xi h vs qs
 |_,_=>False
def Xi.get  : ∀{vs}{qs},Xi h vs qs->vs.length=qs.length/\∀(i)(hi:i<vs.length),OB h (vs.getD i .none) (qs.getD i (0,0))
 |[],[],_=>⟨rfl,λi hi=>absurd hi (Je _)⟩
 |v::vs,q::qs,⟨h1,h2⟩=>by
  obtain⟨e,f⟩:=Xi.get h2;refine⟨by simp_all,λi hi=>?_⟩;cases i with
  |zero=>exact h1
  |succ i=>exact f i (by simpa using hi)
def Xi.tups  : ∀{vs}{qs},Xi h vs qs->∃fs:zr,KatTups h vs fs/\fs.length=vs.length/\∀v∈fs,∃i t,v=.int i t
 |[],[],_=>⟨[],trivial,rfl,λ_ h=>by cases h⟩
 |v::vs,q::qs,⟨hp,h2⟩=>by
  obtain⟨a,t,u,o,n,rfl,e1,c1,d1⟩:=hp;obtain⟨fs,f1,f2,f3⟩:=Xi.tups h2;refine⟨.int q.1 t::fs,.cons e1 c1 d1 zh f1,by simp_all,λv hv=>?_⟩;rcases QB.mp hv with rfl|hv
  .exact⟨_,_,rfl⟩
  .exact f3 v hv
def Xi.mono  (k:∀b o,h.get? b=zd o->h'.get? b=zd o):∀{vs}{qs},Xi h vs qs->Xi h' vs qs
 |[],[],_=>trivial
 |v::vs,q::qs,⟨hp,h2⟩=>by obtain⟨a,t,u,o,n,rfl,e1,c1,d1⟩:=hp;exact⟨⟨a,t,u,o,n,rfl,k _ _ e1,c1,d1⟩,Xi.mono k h2⟩
def Oc(qs:LP)(π:List Nat):Prop:=π.Perm (Uw qs.length)/\(π.map λi=>qs.getD i (0,0)).Pairwise λx y=>KQ x<=KQ y
def za{a:Up}{vs:zr}{qs:LP}{n:Nat}{P:Fin->Um->Prop}(ho:s.heap.get? a=zd (seqObj "list" vs.toArray n))
  (hp:Xi ((s.heap.update a (Obj.mapSeq λ_=>#[]))) vs qs) (hq:∀q∈qs,okP q) (h64:vs.length<64)
  (h:∀π:List Nat,Oc qs π->P (.done (.ret .none)) {s with heap:=sortedHeap s.heap a vs (List.toArray (π.map λi=>vs.getD i .none))}) :
  Ut (model prog w) A (Builtin.«list.sort» ⟨[.ref a],[]⟩) P E s:=by
 obtain⟨hl,hget⟩:=hp.get;rw[list_sort_plain];have ha:a<s.heap.objs.size:=Qh ho;refine Qf (listItems_at ho zh ?_);refine Qf (listUpdate_at ho zh ?_);obtain⟨e1,ho1⟩:∃e1,(s.heap.update a (Obj.mapSeq λ_=>#[])).get? a=zd (seqObj "list" #[] e1):=⟨_,get?_update_seq ho (λ_=>#[])⟩
 refine Qf (seqEpoch_at ho1 zh ?_);refine Qf (wpAny_newTuple ?_);refine Qf (wpAny_newList ?_);refine wpAny_holding ?_;have ho6:(((s.heap.update a (Obj.mapSeq λ_=>#[])).push (seqObj "tuple" vs.toArray 0)).push (seqObj "list" #[] 0)).get? a=zd (seqObj "list" #[] e1):=by rw[Heap.get?_push_ne _ _ _ (by rw[size_push',Heap.size_update];exact QS (JU ha)),Heap.get?_push_ne _ _ _ (by rw[Heap.size_update];exact QS ha)];exact ho1
 have hp6:Xi (((s.heap.update a (Obj.mapSeq λ_=>#[])).push (seqObj "tuple" vs.toArray 0)).push (seqObj "list" #[] 0)) vs qs:=hp.mono λb o e=>Qk _ (Qk _ e)
 dsimp only;have hsz:vs.toArray.size=vs.length:=by simp
 by_cases h2:vs.toArray.size<2
 .rw[Qu h2,Qu h2]
  refine Qf (Qn ?_);rw[StateT.run_pure];refine Qf (Qn ?_);dsimp only;refine Qf (seqEpoch_at ho6 zh ?_);refine Qf (listUpdate_at ho6 zh ?_ (hsz2:=by rw[Array.size_map];show(pairsOf vs).size<=_;rw[pairsOf_size,sizeLine_eq];lia));simp only[bne_self_eq_false,J4,if_false]
  have hid:(arrOf (SortSt.mk' general' (vs.toArray.zip vs.toArray) #[] 7 zj)).map (·.2)=List.toArray ((Uw vs.length).map λi=>vs.getD i .none):=by
   show(vs.toArray.zip vs.toArray).map (·.2)=_
   apply Array.toList_inj.mp;apply J8;intro i;simp only[Array.toList_map,Array.toList_zip,Qd,List.getElem?_zip_eq_some];by_cases hi:i<vs.length
   .simp[List.getElem?_zip_eq_some,hi,List.getElem?_range]
   .simp[hi]
  rw[hid];refine Qn (h (Uw vs.length) ⟨by rw[hl],?_⟩);rw[List.pairwise_map];rw[hsz]at h2
  rcases(show vs.length=0∨vs.length=1 by lia)with z|z<;>rw[z]
  .exact .nil
  .exact List.pairwise_singleton _ _
 .rw[QH h2,QH h2]
  rw[hsz]at h2;obtain⟨fs,f1,f2,f3⟩:=hp6.tups;refine Qf (kat_kind (T:=.type "int") f1 (by lia) (λv hv=>by obtain⟨i,t,rfl⟩:=f3 v hv;exact(show Looks _ _ (pure (Value.type "int")) _ from .now)) zh ?_)
  refine Qf (QK (kat_run (ks:=vs) (G:=λp s'=>s' = {s with heap:=((s.heap.update a (Obj.mapSeq λ_=>#[])).push (seqObj "tuple" vs.toArray 0)).push (seqObj "list" #[] 0)}/\p=Kv (kl λi=>KQ (qs.getD i (0,0))) (kas_sort vs.length))
   (Q:=λst' s'=>s' = {s with heap:=((s.heap.update a (Obj.mapSeq λ_=>#[])).push (seqObj "tuple" vs.toArray 0)).push (seqObj "list" #[] 0)}/\failedOf st'=zj/\arrOf st'=(Kv (kl λi=>KQ (qs.getD i (0,0))) (kas_sort vs.length)).map (kas_item (vs.toArray.zip vs.toArray)))
   rfl (by lia) h64 (λp st' s' a1 a2 a3 a4=>⟨a4.1,a3,by rw[a2,a4.2]⟩) ?_) ?_ λ_ _ e=>e)
  .refine GY (N:=vs.length) (R:=λ_=>True) (lt:=kl λi=>KQ (qs.getD i (0,0))) (λi j C hi hj hC=>?_) _ _ (xH (by lia)) ⟨rfl,rfl⟩
   refine AW (Xi.get hp6 |>.2 i hi) (Xi.get hp6 |>.2 j hj) ?_;have oi:okP (qs.getD i (0,0)):=hq _ (by rw[Qm,Qe (by lia)];exact Jp _);have oj:okP (qs.getD j (0,0)):=hq _ (by rw[Qm,Qe (by lia)];exact Jp _);have e:decide ((qs.getD i (0,0)).1<(qs.getD j (0,0)).1∨(qs.getD i (0,0)).1=(qs.getD j (0,0)).1/\(qs.getD i (0,0)).2<(qs.getD j (0,0)).2)=kl (λi=>KQ (qs.getD i (0,0))) i j:=by unfold kl;exact Uj.mpr (AX oi oj).symm
   rw[e];exact hC
  .rintro⟨⟨⟩,st'⟩ s' ⟨rfl,hf,har⟩
   dsimp only;obtain⟨b1,b2,b3⟩:=xI (key:=λi=>KQ (qs.getD i (0,0))) (n:=vs.length) (by lia);generalize Kv (kl λi=>KQ (qs.getD i (0,0))) (kas_sort vs.length)=p at har b1 b2 b3;have hout:=kat_snds (ks:=vs) (vs:=vs) zh har;have hsz2:((arrOf st').map (·.2)).size=vs.length:=by rw[hout,Jf,Qb,Uc,b2]
   refine Qf (seqEpoch_at ho6 zh ?_);refine Qf (listUpdate_at ho6 zh ?_ (hsz2:=by rw[hsz2,sizeLine_eq];lia));rw[hf];simp only[bne_self_eq_false,J4,if_false];rw[hout];refine Qn (h p.toList ⟨?_,?_⟩)
   .have:=Array.perm_iff_toList_perm.mp b1
    rw[←hl];exact this
   .rw[List.pairwise_map,List.pairwise_iff_getElem]
    intro i j hi hj hij;rw[Uc,b2]at hi hj;have:=b3 i j (by lia) hj;unfold KA at this;rw[Jy,Jy,Array.getElem?_eq_getElem (by lia),Array.getElem?_eq_getElem (by lia)]at this;simpa using this
end
section
variable{prog:Uo}{w:World}{A:Around}{E:Ul->Um->Prop}{s:Um}
def yu{l:Up}{vs:zr}{qs:LP}{Q:Ul->Um->Prop}(hl:s.heap.IsList l vs.toArray)(hp:Xi s.heap vs qs)(hq:∀q∈qs,okP q)(h64:vs.length<64)
  (h:∀π:List Nat,Oc qs π->Q (.ref (s.heap.objs.size+1)) {s with heap:=sortedAll s.heap vs (List.toArray (π.map λi=>vs.getD i .none))}) :
  Ut (model prog w) A (call (.builtin "sorted") [.ref l]) Q E s:=by
 refine Calls.call_function_entry kind_sorted plain_sorted entry_sorted (args_sorted1 _) ?_;unfold Builtin.«sorted»;refine Qf  (Qn ?_);refine Qf (collect_list hl ?_);refine Qf (wpAny_newList ?_);have hsz:((s.heap.push (seqObj "list" #[] 0)).update s.heap.objs.size (Obj.mapSeq (· ++ vs.toArray))).objs.size=s.heap.objs.size+1:=by rw[Heap.size_update,size_push']
 have hoL:(((s.heap.push (seqObj "list" #[] 0)).update s.heap.objs.size (Obj.mapSeq (· ++ vs.toArray))).push (seqObj "list" vs.toArray 0)).get? (s.heap.objs.size+1)=zd (seqObj "list" vs.toArray 0):=by rw[←hsz];exact QD _ zh
 rw[hsz];refine Qf (wpAny_holding (wpAny_call_entry slot_list_sort ⟨_,hoL,rfl⟩ entry_list_sort (za (qs:=qs) hoL (hp.mono λb o e=>?_) hq h64 λπ a1=>⟨_,rfl,?_⟩) (args_list_sort _)))
 .have hlt:b<s.heap.objs.size:=Qh e
  dsimp only;have bC:(b:Nat)<s.heap.objs.size:=hlt;rw[Heap.get?_update_ne _ _ _ _ (QS (JU bC)),Heap.get?_push_ne _ _ _ (by rw[hsz];exact QS (JU bC)),Heap.get?_update_ne _ _ _ _ (QS hlt),Heap.get?_push_ne _ _ _ (QS hlt)];exact e
 .exact Qn ⟨_,rfl,h π a1⟩
end
end DL
namespace DL
open PySem PySem.Spec L2
open PyProof.Rows hiding St
section
variable{X:Cx}
theorem Fz   {σ:St}{H}(I:Inv X pins σ H s):∀{as:zu}{us}{qs},Vals (as.map V.ref) us->as.length=qs.length->(∀(i:Nat) a q,as[i]?=zd a->qs[i]?=zd q->SqT X.K H a [.int q.1,.int q.2])->Xi s.heap us qs
 |[],_,[],.nil,_,_=>trivial
 |a::as,_,q::qs,.cons r t,hl,h=>by refine⟨?_,Fz I t (by simpa using hl) λi a q h1 h2=>h (i+1) a q (by simpa using h1) (by simpa using h2)⟩;cases r;obtain⟨its,rv,⟨o,e,c,n,d⟩,_⟩:=I.tuple (h 0 a q zh zh);obtain⟨u,v,rfl,r1,r2⟩:=rv.two;obtain⟨t1,rfl⟩:=r1;obtain⟨t2,rfl⟩:=r2;exact⟨a,t1,t2,o,n,rfl,e,c,by simpa using d⟩
theorem FQ{as:zu}{us}(r:Vals (as.map V.ref) us):∀(π:List Nat),(∀i∈π,i<as.length)->Vals (π.map λi=>V.ref (as.getD i 0)) (π.map λi=>us.getD i .none)
 |[],_=>.nil
 |i::π,h=>by
  refine .cons ?_ (FQ r π λj hj=>h j (Qj _ hj));have hi:=h i Ql;have e:(as.map V.ref)[i]?=zd (.ref (as.getD i 0)):=by simp[List.getD,List.getElem?_eq_getElem hi]
  obtain⟨u,e2,ru⟩:=r.get e;simp only[List.getD,e2];exact ru
def wM:YS X (.builtin "sorted") (λxs H Q=>∃l,∃as:zu,∃qs:LP,xs=[.ref l]/\SqL X.K H l (as.map V.ref)/\as.length=qs.length/\(∀(i:Nat) a q,as[i]?=zd a->qs[i]?=zd q->SqT X.K H a [.int q.1,.int q.2])/\(∀q∈qs,okP q)/\qs.length<64 /\
  ∀π p,Oc qs π->H p=zj->Q (.ref p) (upd H p (.lst (π.map λi=>V.ref (as.getD i 0))))):=by
 intro pins s σ H xs us Q I rx h;obtain⟨l,as,qs,rfl,hq,hl,ht,ho,hb,q⟩:=h;obtain⟨u,rfl,ru⟩:=rx.one;cases ru;obtain⟨its,rv,p,hz⟩:=I.list hq;have hn:its.length=qs.length:=by have:=rv.length;rw[Qb]at this;lia
 refine yu (qs:=qs) p.isList (Fz I rv hl ht) ho (by lia) λπ hπ=>?_
 obtain⟨e,he⟩:=sortedAll_at s.heap its _
 have hπl:∀i∈π,i<as.length:=λi hi=>by
  have:=hπ.1.mem_iff.mp hi;rw[QN]at this
  lia
 refine⟨.ref _,_,I.laid  (λb o=>sortedAll_old) (JR _) (show Yv X.prog X.w _ _ _ (.lst _)from⟨?_,_,e,FQ rv π hπl,he⟩),rfl,q π _ hπ (I.hok.fresh (JR _))⟩;rw[Qb,hπ.1.length_eq,Qs];rw[Qb]at hz
 lia
noncomputable def OA:D->Option (Int×Int)
 |.tuple [.int a,.int b]=>zd (a,b)
 |_=>zj
noncomputable def TC:zn->Option LP
 |[]=>zd []
 |d::r=>(OA d).bind λq=>(TC r).map (q :: ·)
noncomputable def Kp(q:Int×Int):D:=.tuple [.int q.1,.int q.2]
def xG   (h:OA d=zd q):d=Kp q:=by
 unfold OA at h;split at h
 .cases h;rfl
 simp_all
theorem Da:∀{ds}{qs},TC ds=zd qs->ds=qs.map Kp
 |[],qs,h=>by cases h;rfl
 |d::r,qs,h=>by
  unfold TC at h;cases z:OA d with
  |none=>simp_all
  |some q=>
   rw[z]at h;cases z2:TC r with
   |none=>simp_all
   |some qs'=>rw[z2]at h;cases h;rw[xG z,Da z2];rfl
theorem E3:∀qs:LP,TC (qs.map Kp)=zd qs
 |[]=>rfl
 |q::r=>by rw[QC,TC,E3 r];rfl
def Vj(qs:LP):LP:=qs.mergeSort λx y=>decide (KQ x<=KQ y)
def EQ(qs:LP):(Vj qs).Perm qs:=List.mergeSort_perm ..
def FP(qs):(Vj qs).Pairwise λx y=>KQ x<=KQ y:=by have:=List.pairwise_mergeSort (le:=λx y   =>decide (KQ x<=KQ y)) (by intro a b c;simp;lia) (by intro a b;simp;lia) qs;exact this.imp (by simp)
theorem Mr:∀{a b:LP},(∀x∈a,okP x)->a.Perm b->a.Pairwise (λx y=>KQ x<=KQ y)->b.Pairwise (λx y=>KQ x<=KQ y)->a=b
 |[],b,_,p,_,_=>by simp_all
 |x::a,[],_,p,_,_=>by simp_all
 |x::a,y::b,ok,p,ha,hb=>by
  have hx:KQ y<=KQ x:=by
   rcases QB.1 (p.mem_iff.1 (Ql ..))with e|e
   .simp_all
   .exact(JL.1 hb).1 x e
  have hy:KQ x<=KQ y:=by
   rcases QB.1 (p.mem_iff.2 (Ql ..))with e|e
   .simp_all
   .exact(JL.1 ha).1 y e
  have oky   :=ok y (p.mem_iff.2 (Ql ..));have e:=jg (ok x (Ql ..)) oky (JQ hy hx);subst e;rw[Mr (λz hz=>ok z (Qj _ hz)) (List.Perm.cons_inv p) (JL.1 ha).2 (JL.1 hb).2]
def jf   (ok:∀q∈qs,okP q)(h:Oc qs π):(π.map λi=>qs.getD i (0,0))=Vj qs:=by
 have hp   :=by
  have h1:=h.1.map λi=>qs.getD i (0,0)
  have e:(Uw qs.length).map (λi=>qs.getD i (0,0))=qs:=by
   apply J8;intro i;rw[Qd];by_cases hi:i<qs.length
   .rw[List.getElem?_range hi];simp[List.getD,List.getElem?_eq_getElem hi]
   .simp_all
  rw[e]at h1;exact h1
 exact Mr (λx hx=>ok x (hp.mem_iff.mp hx)) (hp.trans (EQ qs).symm) h.2 (FP qs)
noncomputable def okPB(q:Int×Int):Bool:=decide (-1000000<=q.2/\q.2<=1000000)
def Pu:zn->zp
 |[.list ds]=>(match TC ds with
  |some qs=>if qs.length<64/\qs.all okPB=zk then zd (.list ((Vj qs).map Kp))else zj
  |none=>zj)
 |_=>zj
def wL   (h:Pu xs=zd d):∃qs:LP,xs=[.list (qs.map Kp)]/\qs.length<64/\(∀q∈qs,okP q)/\d=.list ((Vj qs).map Kp):=by
 unfold Pu at h;split at h
 .rename_i ds
  cases z:TC ds with
  |none=>simp_all
  |some qs=>
   rw[z]at h;dsimp only at h;split at h
   .rename_i c
    cases h;exact⟨qs,by rw[Da z],c.1,λq hq=>(show -1000000<=q.2/\q.2<=1000000 from Qa (Q2.mp c.2 q hq)),rfl⟩
   simp_all
 simp_all
theorem FO{K}{G}:∀{vs}{qs:LP},Reps K G vs (qs.map Kp)->∃as:zu,vs=as.map V.ref/\as.length=qs.length/\∀(i:Nat) a q,as[i]?=zd a->qs[i]?=zd q->SqT K G a [.int q.1,.int q.2]
 |_,[],.nil=>⟨[],rfl,rfl,λi a q h=>by simp_all⟩
 |_,q::qs,.cons r t=>by
  obtain⟨as,rfl,hl,h⟩:=FO t;obtain⟨a,ws,rfl,h1,r1⟩:=r.tup_inv;cases r1 with
  |cons ra rb=>
   obtain⟨v,rfl,rb'⟩:=rb.one_inv;refine⟨a::as,rfl,by simp_all,λi a' q' e1 e2=>?_⟩;cases i with
   |zero=>cases e1;cases e2;rw[ra.int_inv,rb'.int_inv]at h1;simp_all
   |succ i=>exact h i a' q' (by simpa using e1) (by simpa using e2)
def je{K}{G}{a}{q}(h:SqT K G a [.int q.1,.int q.2]):Rep K G (.ref a) (Kp q):=.tup h (.cons (.int _) (.cons (.int _) .nil))
theorem FN{K}{G}{as:zu}{qs:LP}(hl:as.length=qs.length)(h:∀(i:Nat) a q,as[i]?=zd a->qs[i]?=zd q->SqT K G a [.int q.1,.int q.2]):∀π:List Nat,(∀i∈π,i<qs.length)->Reps K G (π.map λi=>V.ref (as.getD i 0)) ((π.map λi=>qs.getD i (0,0)).map Kp)
 |[],_=>.nil
 |i::π,hb=>by
  refine .cons ?_ (FN hl h π λj hj=>hb j (Qj _ hj));have hi:=hb i Ql;refine je (h i _ _ ?_ ?_)
  .simp_all
  simp_all
def AV:YV X (.builtin "sorted") Pu:=by refine⟨_,wM,λvs G H ds d Q s r e k=>?_⟩;obtain⟨qs,rfl,h64,ok,rfl⟩:=wL e;obtain⟨v,rfl,q1⟩:=r.one_inv;obtain⟨l,ws,rfl,h1,r1⟩:=q1.lst_inv;obtain⟨as,rfl,hl,ht⟩:=FO r1;refine⟨l,as,qs,rfl,s.seq h1,hl,λi a q e1 e2=>XA s (ht i a q e1 e2),ok,h64,λπ p hπ hp=>?_⟩;have hb:∀i∈π,i<qs.length:=λi hi=>QN.mp (hπ.1.mem_iff.mp hi);have rr:=(FN hl ht π hb).mono (ZM (s.free hp):Same G (upd G p (.lst (π.map λi=>V.ref (as.getD i 0)))));rw[jf ok hπ]at rr;exact k _ _ _ (Ext.new s hp) (.lst (SqL.of Zp) rr)
def YV.or   (h1:YV X f p)(h2:YV X f q):YV X f (λxs=>(p xs).orElse λ_=>q xs):=by
 obtain⟨r1,c1,k1⟩:=h1;obtain⟨r2,c2,k2⟩:=h2;refine⟨λxs H Q=>r1 xs H Q∨r2 xs H Q,λpins s σ H xs us Q I rx h=>?_,λvs G H ds d Q s r e k=>?_⟩
 .rcases h with h|h
  .exact c1 pins s σ H xs us Q I rx h
  .exact c2 pins s σ H xs us Q I rx h
 .dsimp only at e
  cases z:p ds with
  |some d'=>rw[z]at e;cases e;exact .inl (k1 vs G H ds _ Q s r z k)
  |none=>rw[z]at e;exact .inr (k2 vs G H ds _ Q s r e k)
def TV(xs:zn):zp:=(RG xs).orElse λ_=>Pu xs
def Ba:YV X (.builtin "sorted") TV:=Aj.or AV
def EO  (h:ns.length<64):TV [.list (ns.map .int)]=zd (.list ((YR ns).map .int)):=by unfold TV;rw[xP h];rfl
def xF  (h:qs.length<64)(ok:∀q∈qs,okP q):TV [.list (qs.map Kp)]=zd (.list ((Vj qs).map Kp)):=by
 cases qs with
 |nil=>
  have e1:Vj []=[]:=by unfold Vj;simp
  have e2:YR []=[]:=by unfold YR;simp
  have:=EO (ns:=[]) (by decide);rw[e2]at this;rw[e1];exact this
 |cons q r=>unfold TV;unfold Pu;dsimp only;rw[E3];exact Qu ⟨h,Q2.mpr λq hq=>QW (ok q hq)⟩
end
section
variable{X:Cx}{B G0:Hp}{e o a b c tg:Ur}{pos p2:Pos}{es rest:zq}{te to ti:TE}
noncomputable def RB{β:Type}(p:D->D->Option β)(f:M D)(j:Nat):M β:=Kd f λx=>λρ=>match ρ[j]? with
 |some (zd (.pub d))=>Ka (p x d) ρ
 |some (zd (.own ds))=>Ka (p x (.list ds)) ρ
 |_=>.bad
def DZ{K}{σ}{H}{p}{r:R2}{j}{f}{Q}{QV}(hq:∀t H3,Q t H3->QV (.bl t) H3)
  (hr:∀v u G H x y d Q,Same G H->Rep K G v x->Rep K G u y->p x y=zd d->Q (.bl d) H->r v u H Q)
  (q:tBo K B G0 (RB p f j) σ H Q):tD K B G0 f σ H λx H1=>Zm j σ H1 λy H2=>r x y H2 QV:=by
 refine tM.one  q λv H2 G ρ x k rx a=>?_
 cases z:ρ[j]? with
 |none=>rw[z]at a;exact a.elim
 |some o=>
  cases o with
  |none=>rw[z]at a;exact a.elim
  |some sl=>
   cases sl with
   |deep _ _=>rw[z]at a;exact a.elim
   |pub d=>rw[z]at a;obtain⟨d',e',a'⟩:=aft.opt a;obtain⟨u,h1,h2⟩:=k.pub j d z;exact⟨u,h1,hr v u G H2 x d d' _ k.gh rx h2 e' (hq _ _ (a' d' G H2 k (.refl _) zh))⟩
   |own ds=>rw[z]at a;obtain⟨d',e',a'⟩:=aft.opt a;obtain⟨ad,vs,h1,h2,h3,h4,h5⟩:=k.own j ds z;exact⟨.ref ad,h1,hr v _ H2 H2 x _ d' _ (.refl _) (rx.mono k.gh) (.lst (SqL.of h4) (h5.mono k.gh)) e' (hq _ _ (a' d' G H2 k (.refl _) zh))⟩
def AU    {f}(o:OpB X (Uv op) p)(ha:PE X a (tD X.K B G0 f))(hb:PE X b (Zm j))(hm:behindInMarks op b=zm) :
  PT X (.Compare a [op] [b] pos) (tBo X.K B G0 (RB p f j)):=by
 obtain⟨r,h,i⟩:=o;exact YA (Ma h ha hb hm) λσ H Q q=>DZ (λt H3 z=>⟨t,rfl,z⟩) i q
def Mq   {f}{j}{ρ ρ1}{x}{ds}{r:β}(h1:f ρ=.ok x ρ1)(h2:ρ1[j]?=zd (zd (.own ds)))(h3:p x (.list ds)=zd r):RB p f j ρ=.ok r ρ1:=by exact Za h1 (by rw[h2];exact YK h3)
end
noncomputable def Pt(ρ:UU)(j:Nat):zp:=match ρ[j]? with
 |some (zd (.pub d))=>zd d
 |some (zd (.own ds))=>zd (.list ds)
 |some (zd (.deep _ d))=>zd d
 |_=>zj
def EOk.tree{K}{B G0 G H}{σ}{ρ}{j}{d}(k:EOk K B G0 G H σ ρ)(h:Pt ρ j=zd d):∃v,σ[j]?=zd (zd v)/\Rep K H v d:=by
 unfold Pt at h;split at h
 .rename_i d' e
  cases h;obtain⟨v,h1,h2⟩:=k.pub j _ e;exact⟨v,h1,h2.mono k.gh⟩
 .rename_i ds e
  cases h;obtain⟨a,vs,h1,h2,h3,h4,h5⟩:=k.own j ds e;exact⟨.ref a,h1,.lst (SqL.of h4) (h5.mono k.gh)⟩
 .rename_i p d' e
  cases h;obtain⟨ω,k1,k2⟩:=k.dp;obtain⟨v,fp,s,r,_⟩:=k1 j p _ e;exact⟨v,s,r.rep k.gh⟩
 simp_all
end DL
namespace HT
open PySem PyProof.Rows
end HT
namespace DL
open PySem PySem.Spec L2
open PyProof.Rows hiding St
section
variable{X:Cx}
noncomputable def RA(x y:D):Option zn:=match x,y with
 |.list xs,.int k=>if -1000000<=k/\k<=1000000/\xs.length*k.toNat<=1000000 then zd (Ux k.toNat xs).flatten else zj
 |_,_=>zj
def vd   (h:RA x y=zd ds):∃xs k,x=.list xs/\y=.int k/\(-1000000<=k/\k<=1000000/\xs.length*k.toNat<=1000000)/\ds=(Ux k.toNat xs).flatten:=by
 unfold RA at h;split at h
 .simp_all
 simp_all
noncomputable def TU(f g:M D):M zn:=Kd f λx=>Kd g λy=>Ka (RA x y)
def Gv{f g}(ha:PE X a (tD X.K B G0 f))(hb:PE X b (tD X.K B G0 g)):PE X (.BinOp a .Mult b pos) (tL X.K B G0 (TU f g)):=
 Kz (Ny GH ha hb) λσ H Q ⟨G,ρ,k,q⟩=>by
  refine⟨G,ρ,k,?_⟩;unfold TU Kd at q;cases z:f ρ with
  |bad=>simp_all
  |ok x ρ1=>
   rw[z]at q;dsimp only at q;intro v G1 H1 k1 s1 r1;refine⟨G1,ρ1,k1,?_⟩;cases z2:g ρ1 with
   |bad=>simp_all
   |ok y ρ2=>
    rw[z2]at q;dsimp only[Ka]at q;intro u G2 H2 k2 s2 r2;cases z3:RA x y with
    |none=>simp_all
    |some ds=>rw[z3]at q;obtain⟨xs,i,rfl,rfl,c,rfl⟩:=vd z3;obtain⟨l,vs,rfl,h1,w⟩:=r1.lst_inv;exact⟨l,i,vs,rfl,r2.int_inv,k2.gh.seq (s2.seq h1),by lia,by lia,by rw[w.length];exact QP c.2.2 lim,λp hp=>q p _ G2 _ (k2.ext (Ext.hid k2.gh hp)) (s1.trans s2) (NewL.of k2 hp ((w.mono s2).rep _))⟩
def Mk  {ρ ρ1 ρ2}{x}{n}(h1:f ρ=.ok (.list [x]) ρ1)(h2:g ρ1=.ok (.int n) ρ2)(h:n<=1000):TU f g ρ=.ok (Ux n x) ρ2:=by
 unfold TU Kd;rw[h1];dsimp only;rw[h2];dsimp only[Ka];have e:RA (.list [x]) (.int n)=zd (Ux n x):=by unfold RA;dsimp only;rw[Qu ⟨by lia,by lia,by show 1*_<=_;lia⟩];simp_all
 rw[e]
end
end DL
namespace DL
open PySem
def lz0{P:zr->Prop}{us}(hl:us.length=0)(h:P []):P us:=by simp_all
def lzS{P:zr->Prop}{us}{n}(hl:us.length=n+1)(h:∀a r,r.length=n->P (a::r)):P us:=by
 cases us with
 |nil=>simp_all
 |cons a r=>exact h a r (Nat.succ.inj hl)
def lz1{P:zr->Prop}{us}(hl:us.length=1)(h:∀a,P [a]):P us:=lzS hl λa r e=>lz0 (P:=λr=>P _) e (h a)
def lz2{P:zr->Prop}{us}(hl:us.length=2)(h:∀a b,P [a,b]):P us:=lzS hl λa r e=>lz1 (P:=λr=>P _) e (h a)
def lz3{P:zr->Prop}{us}(hl:us.length=3)(h:∀a b c,P [a,b,c]):P us:=lzS hl λa r e=>lz2 (P:=λr=>P _) e (h a)
def lz4{P:zr->Prop}{us}(hl:us.length=4)(h:∀a b c d,P [a,b,c,d]):P us:=lzS hl λa r e=>lz3 (P:=λr=>P _) e (h a)
def lz5{P:zr->Prop}{us}(hl:us.length=5)(h:∀a b c d e,P [a,b,c,d,e]):P us:=lzS hl λa r e=>lz4 (P:=λr=>P _) e (h a)
def bz1  {ps:List Str}{us}(hl:us.length=1)(h:∀a,bindArgs fd {pos:=[a]}=pure (ps.zip [a])):bindArgs fd {pos:=us}=pure (ps.zip us):=lz1 (P:=λus=>bindArgs fd {pos:=us}=pure _) hl h
def bz2  {ps:List Str}{us}(hl:us.length=2)(h:∀a b,bindArgs fd {pos:=[a,b]}=pure (ps.zip [a,b])):bindArgs fd {pos:=us}=pure (ps.zip us):=lz2 (P:=λus=>bindArgs fd {pos:=us}=pure _) hl h
def bz3  {ps:List Str}{us}(hl:us.length=3)(h:∀a b c,bindArgs fd {pos:=[a,b,c]}=pure (ps.zip [a,b,c])):bindArgs fd {pos:=us}=pure (ps.zip us):=lz3 (P:=λus=>bindArgs fd {pos:=us}=pure _) hl h
def bz4  {ps:List Str}{us}(hl:us.length=4)(h:∀a b c d,bindArgs fd {pos:=[a,b,c,d]}=pure (ps.zip [a,b,c,d])):bindArgs fd {pos:=us}=pure (ps.zip us):=lz4 (P:=λus=>bindArgs fd {pos:=us}=pure _) hl h
def bz5  {ps:List Str}{us}(hl:us.length=5)(h:∀a b c d e,bindArgs fd {pos:=[a,b,c,d,e]}=pure (ps.zip [a,b,c,d,e])):bindArgs fd {pos:=us}=pure (ps.zip us):=lz5 (P:=λus=>bindArgs fd {pos:=us}=pure _) hl h
end DL
namespace DL
open PySem PySem.Spec L2
open PyProof.Rows hiding St
noncomputable def whole(h:Heap):Frag:=(Uw h.objs.size).filterMap λa=>(h.get? a).map λo=>(a,o)
theorem FM{g:Up->Option Obj}{x}:∀l:zu,(l.filterMap λa=>(g a).map λo=>(a,o)).lookup x=if x∈l then g x else zj
 |[]=>rfl
 |y::l=>by
  have ih:=FM (g:=g) (x:=x) l;by_cases e:x=y
  .subst e
   rw[Qu Ql];cases z:g x with
   |none=>rw[List.filterMap_cons_none (by simp_all),ih,z];split<;>rfl
   |some o=>simp_all
  .have m:(x∈y::l)=(x∈l):=by simp_all
   have b:(x==y)=zm:=by simpa using e
   have ih':(if x∈y::l then g x else zj)=_:=(by simp only[m];exact ih.symm)
   rw[ih'];cases z:g y with
   |none=>simp_all
   |some o=>rw[List.filterMap_cons_some (by rw[z];rfl),Q6,b]
def P6   : (whole h).lookup a=h.get? a:=by
 unfold whole;rw[FM];split
 .rfl
 .rename_i n
  cases z:h.get? a with
  |none=>rfl
  |some o=>exact absurd (QN.mpr (Qh z)) n
def jd(h:Heap):(whole h).In h:=λa o e=>by rw[P6]at e;exact e
noncomputable def DY(st:Stmt):Option DefRec:=match st with
 |.FunctionDef name a b _ _ _ sc _ _ pos=>zd ⟨name,a,b,sc,pos⟩
 |_=>zj
noncomputable def Oz(st:Stmt):Option Str:=match st with
 |.FunctionDef name _ _ _ _ _ _ _ _ _=>zd name
 |_=>zj
noncomputable def DX(st:Stmt):Pos:=match st with
 |.FunctionDef _ _ _ _ _ _ _ _ _ pos=>pos
 |_=>⟨0,0,0,0⟩
noncomputable abbrev Zv(p:Uo)(i:Nat):Stmt:=p.main.body.getD i (.Pass ⟨0,0,0,0⟩)
def RF(p:Uo)(ix:List Nat):List DefRec:=ix.filterMap λi=>DY (Zv p i)
section
variable{p q:Uo}{loose:List Str}{mean:ExcName->zw}{mg mb:Str->zw}{h:Heap}{w:World}
def L8  (T:Top q loose mean mg mb h)(e:recsOf q=RF p ix)(i:Nat)(x:Str)(hi:ix.contains i=zk)(hn:Oz (Zv p i)=zd x):∃f fd,mg x=zd (.ref f)/\Fun (whole h) x x (Zv p i) f fd:=by
 cases hs:Zv p i with
 |FunctionDef name a b _ _ _ sc _ _ pos=>
  rw[hs]at hn;cases hn;have hd:(⟨x,a,b,sc,pos⟩)∈recsOf q:=by rw[e];exact List.mem_filterMap.mpr ⟨i,by simpa using hi,by rw[hs];rfl⟩
  obtain⟨f,⟨oc,od,dt,osl⟩,pm,cd,doc,h1,h2,h3,h4⟩:=T.fn _ hd;subst h3;refine⟨f,_,h1,⟨⟨oc,od,.none,doc,pm,_,cd,_,osl,rfl,by rw[P6];exact h2,?_⟩,?_⟩⟩
  .obtain⟨c,⟨_,_,dc,_⟩,vs,t,rfl,g1,g2,g3⟩:=h4
   subst g2;unfold PySem.W.codeIn;dsimp only;rw[P6,g1];dsimp only;have g4:vs.toList[1]?=zd (.str x t):=by rw[Array.getElem?_toList];exact g3
   cases hv:vs.toList with
   |nil=>rw[hv]at g4;cases g4
   |cons v0 r=>
    rw[hv]at g4;cases r with
    |nil=>cases g4
    |cons v1 r=>cases g4;exact beq_self_eq_true _
  .unfold PySem.W.keepIn
   dsimp only;rw[P6,h2]
 |_=>rw[hs]at hn;cases hn
def vc{K}{x qual y}{st}{f}{fd}(F:Fun K x qual st f fd)
  (hb:∀(kV doc pm)(an)(cdv ct v),bindArgs (PySem.W.fnOf x qual (T5 st) (Vd st) (Yo st) .none kV doc pm an cdv ct) ⟨[v],[]⟩=pure [(y,v)]) (s) (v):BindsTo s fd ⟨[v],[]⟩ [(y,v)]:=by
 obtain⟨oc,od,kV,doc,pm,an,cdv,ct,osl,rfl,lk,hcd⟩:=F.ex;exact .of_eq (hb kV doc pm an cdv ct v)
noncomputable def Ob(q:Uo)(loose:List Str)(x:Str):Bool:=
 !startupNames.contains x && !loose.contains x && !((recsOf q).map (·.name)).contains x && !((litsOf q).map (·.1)).contains x && !((clssOf q loose).map (·.name)).contains x
def Xh(T:Top q loose mean mg mb h){xs:List Str}(e:xs.all (Ob q loose)=zk){x}(hx:x∈xs):mg x=zj:=by have:=Q2.mp e x hx;unfold Ob at this;simp only[QM,Bool.not_eq_true',List.contains_eq_mem,decide_eq_false_iff_not]at this;exact T.free x this.1.1.1.1 this.1.1.1.2 this.1.1.2 this.1.2 this.2
def O9(T:Top q loose mean mg mb h){x}{i}(e:valOf q x=zd (.int i)):∃t,mg x=zd (.int i t):=by obtain⟨v,h1,h2⟩:=T.const x _ e;have:=h2 h;cases this;exact⟨_,h1⟩
theorem Lz:∀{vs}{ss},StrsAre vs ss->Vals (ss.map V.str) vs
 |_,_,.nil=>.nil
 |_,_,.cons y t r=>.cons ⟨t,rfl⟩ (Lz r)
def vb(B:Tables q w mg h){x}{ss}(e:tupStrsOf q x=zd ss)(hl:ss.length<=1000) :
  ∃ad o its n,mg x=zd (.ref ad)/\(whole h).lookup ad=zd o/\o.cls=.type "tuple" /\ o.data=.seq its n/\its.size<=Us/\Vals (ss.map V.str) its.toList:=by
 obtain⟨a,vs,h1,⟨o,h2,h3,n,h4⟩,h5⟩:=B.tupS x ss e;have r:=Lz h5;refine⟨a,o,_,n,h1,by rw[P6];exact h2,h3,h4,?_,r⟩;have:=r.length;rw[Qb]at this;have l:(1000)<=Us:=by decide
 rw[Jf]
 lia
end
noncomputable def scOk(sc:Scope)(N gl:List Str):Bool:=(N.all λx=>match sc.names.lookup x with|some .local=>zk|some .cell=>zk|_=>zm)&&gl.all λx=>match sc.names.lookup x with|some .globalImplicit=>zk|_=>zm
noncomputable def fnB(sc:Scope)(N gl:List Str):Bool:=decide (sc.kind=.function) && !sc.isCoroutine && !sc.isGenerator&&decide N.Nodup&&(sc.names.all λy=>match y.2 with | .free=>zm|_=>zk)&&scOk sc N gl
structure FnNm(sc:Scope)(N gl:List Str):Prop where
 kind:sc.kind=.function
 co:sc.isCoroutine=zm
 gen:sc.isGenerator=zm
 nd:N.Nodup
 nofree:∀y∈sc.names,y.2≠.free
 nm:∀x∈N,sc.names.lookup x=zd .local∨sc.names.lookup x=zd .cell
 gl:∀x∈gl,sc.names.lookup x=zd .globalImplicit
def KG   (H:fnB sc N gl=zk):FnNm sc N gl:=by
 unfold fnB scOk at H;simp only[QM,Jg,Bool.not_eq_true',Q2]at H;obtain⟨⟨⟨⟨⟨h1,h2⟩,h3⟩,h4⟩,h5⟩,h6,h7⟩:=H;refine⟨h1,h2,h3,h4,λy hy e=>?_,λx hx=>?_,λx hx=>?_⟩
 .have:=h5 y hy;rw[e]at this;cases this
 .have:=h6 x hx
  split at this
  .rename_i e;exact .inl e
  .rename_i e;exact .inr e
  .simp_all
 .have:=h7 x hx
  split at this
  .rename_i e;exact e
  .simp_all
section
variable{sc:Scope}{N gl:List Str}{x:Str}
noncomputable def nq(H:FnNm sc N gl):N.Nodup:=H.nd
def fq(H:FnNm sc N gl)(n):PM N (N.take n) sc:=⟨H.kind,H.co,H.gen,H.nd,by grind,λx hx=>H.nm x (JG hx),H.nofree⟩
noncomputable def lq(H:FnNm sc N gl)(i:Nat)(h:N[i]?=zd x:=by rfl):L2.Loc sc x:=H.nm x (Qq h)
noncomputable def gq(H:FnNm sc N gl)(i:Nat)(h:gl[i]?=zd x:=by rfl):sc.names.lookup x=zd .globalImplicit:=H.gl x (Qq h)
def pq{X}{pos}(H:FnNm X.env.scope X.N gl)(i)(h:X.N[i]?=zd x:=by rfl)(hd:(x==("__debug__" : Str))=zm:=by decide)(hc:(x==("__classdict__" : Str))=zm:=by decide):PE X (.Name x pos) (Zm i):=
 Hm h ((H.nm x (Qq h)).elim .inl λz=>.inr (.inl z)) hd hc
end
def Cy  {loose}{mean}{mg mb}{h}{ix}(P)(w)(base){ps}{k n:Nat}{F}(T:Top q loose mean mg mb h)(e:recsOf q=RF p ix)(i:Nat)(x)(hi:ix.contains i=zk)(hn:Oz (Zv p i)=zd x)
  (ok:∀{f}{fd},Fun (whole h) x x (Zv p i) f fd->FnOk P w (whole h) mg base CX0 k f fd ps (spD (whole h) n F))
  (hb:∀(kV doc pm)(an)(cdv ct)(us),us.length=ps.length->bindArgs (PySem.W.fnOf x x (T5 (Zv p i)) (Vd (Zv p i)) (Yo (Zv p i)) .none kV doc pm an cdv ct) ⟨us,[]⟩=pure (ps.zip us)):Def P w (whole h) mg base x k n F:=by
 obtain⟨f,fd,m,FU⟩:=L8 T e i x hi hn;exact Def.mk m FU (FU.binds hb) (ok FU)
section
variable{X:Cx}{B G0:Hp}{e:Ur}{pos:Pos}{es:zq}
def pdf{k kk n}{F}{g}{x}{p2}(d:Def X.prog X.w X.K X.mg X.base x k n F)(hr:Room kk X.A)(hg:Gl X x)(ha:PA X (e::es) (tDs X.K B G0 g))(hk:k<=kk:=by decide)(hn:(e::es).length=n:=by rfl)
  (hdb:(x==("__debug__" : Str))=zm:=by decide) (he:Uu (e::es) X.env=(zm,eval e X.env)::Uu es X.env:=by rfl) (hpl:(backTo pos (Uu es X.env)).any (·.1)=zm:=by rfl) :
  PE X (.Call (.Name x p2) (e::es) [] pos) (tD X.K B G0 (UX n F g)):=As d (hr.mono hk) hg ha hn hdb he hpl
end
def Cw  {loose}{mean}{mg mb}{h:Heap}{ix}{P}{w}{k:Nat}{F}{y:Str}{fa:Up}(T:Top q loose mean mg mb h)(e:recsOf q=RF p ix)(i:Nat)(x:Str)(hi:ix.contains i=zk)(hn:Oz (Zv p i)=zd x)(hfa:mg x=zd (.ref fa))
  (hb:∀(kV doc pm)(an)(cdv ct v),bindArgs (PySem.W.fnOf x x (T5 (Zv p i)) (Vd (Zv p i)) (Yo (Zv p i)) .none kV doc pm an cdv ct) ⟨[v],[]⟩=pure [(y,v)])
  (ok:∀(base:Heap){f:Up}{fd},Fun (whole h) x x (Zv p i) f fd->FnOk P w (whole h) mg base CX0 k f fd [y] (spD (whole h) 1 F)) :
  ∃fd:Uq,(∀(s)(v),BindsTo s fd ⟨[v],[]⟩ [(y,v)])/\∀base:Heap,FnOk P w (whole h) mg base CX0 k fa fd [y] (spD (whole h) 1 F):=by
 obtain⟨f,fd,m,FU⟩:=L8 T e i x hi hn;cases hfa.symm.trans m;exact⟨fd,vc FU hb,λbase=>ok base FU⟩
def jc{l:PySem.W.OpenLaw}{n k:Nat}{q}{loose}{XP}{YP}{d}{F}{x:Str}
  (hn:l.most=zd n) (hn2:n<=Us) (hdf:d.params.defaults=[]) (hr:Room k callerA)
  (hF:∀(w:World)(s₀)(mg mb)(fa:Up)(h:Heap),PySem.W.Ground q loose [] XP w s₀ mg mb h->mg d.name=zd (.ref fa) ->
   ∃fd:Uq,(∀(s)(u),BindsTo s fd ⟨[u],[]⟩ [(x,u)])/\∀base:Heap,FnOk l.prog w (whole h) mg base CX0 k fa fd [x] (spD (whole h) 1 F))
  (hl:∀ns:zo,ns.length<=n->F [.list (ns.map int)]=zd (.bool zk)) :
  PySem.W.WalkO q loose XP YP l.row.toRowW d [] (λf vs=>PySem.call f vs):=by
 refine Att.attach_call hn hdf λw s₀ s₁ mg mb fa o pm cd doc a vs ns G Y ho hd hcd hmg hobj hints hlen hg=>?_
 obtain⟨fd,hb,hF⟩:=hF w s₀ mg mb fa _ G hmg;exact kA (jd _) G.T.g G.T.b G.T.builtins G.T.nolimit hg hobj hints (QP hlen hn2) hr (λbase _ _=>hF base) hb (λH hO hS=>CJ hS (hl ns hlen)) λH e s' z=>z
section
variable{α β:Type}{ρ ρ1 ρ2 ρ3 ρ':UU}{f:M D}{s t:SM}{Q:Out->Prop}{d:D}{ds fs:zn}{nm x:Str}{o:Out}
def jb  {t}(h:f ρ=.ok d ρ1)(ht:KR d c=t):U0 (λd=>Uz (KR d c)) f ρ=.ok (Uz t) ρ1:=by subst ht;exact Kx  h
def L7  {kvs:List (D×D)}(h:f ρ=.ok (.dict kvs) ρ1)(hc:(("dict" == c) || ("" == c))=zm:=by decide):U0 (λd=>Uz (KR d c)) f ρ=.ok (Uz zm) ρ1:=jb h (nty hc)
def OM  {kvs:List (D×D)}(h:f ρ=.ok (.dict kvs) ρ1)(hc:(("dict" == c) || ("" == c))=zm:=by decide):KB (Zt (U0 (λd=>.bool (KR d c)) f)) ρ=.ok zk ρ1:=YU h (by rw[nty hc];rfl)
end
section
variable{X:Cx}{B G0:Hp}{KX:XW}{e o a b c:Ur}{pos p2:Pos}{es rest:zq}
noncomputable def Tl:zn->zp
 |[.list xs]=>zd (.tuple xs)
 |[.tuple xs]=>zd (.tuple xs)
 |_=>zj
def Cv:YV X (.type "tuple") Tl:=by
 refine⟨_,yV,λvs G H ds d Q s r e k=>?_⟩;unfold Tl at e;split at e
 .cases e
  obtain⟨v,rfl,q⟩:=r.one_inv;obtain⟨l,ws,rfl,h1,r1⟩:=q.lst_inv;exact⟨l,ws,rfl,.inl ⟨s.seq h1,λp hp=>k _ _ _ (Ext.new s hp) (.tup (SqT.of Zp) (r1.mono (ZM (s.free hp))))⟩⟩
 .cases e
  obtain⟨v,rfl,q⟩:=r.one_inv;obtain⟨l,ws,rfl,h1,r1⟩:=q.tup_inv;exact⟨l,ws,rfl,.inr ⟨XA s h1,k _ G H (.refl s) (.tup h1 r1)⟩⟩
 simp_all
end
end DL
namespace L2
open PySem PySem.Spec PyProof.Rows
def C9(trs:Up->List (TE×TE)):TE:=λσ H Q=>∀p,H p=zj->Oo (trs p) σ (upd H p (.dK [])) λps H2=>H2 p=zd (.dK [])/\∃kvs:List (Key×V),ps=kvs.map (λkv=>(kV kv.1,kv.2))/\kvs.length<=15/\Q (.ref p) (upd H2 p (.dK (Tx [] kvs)))
def ja{X:Cx}{pos:Pos}{keys}{values}{trs}(h:∀p,PPs X pos keys values (trs p))(hall:keys.all (·.isSome)=zk)(hl:keys.length=values.length)(h0:keys≠[])
  (h15:keys.length<=15):PE X (.Dict keys values pos) (C9 trs):=by
 intro pins s σ H Q I q;have hn:=I.hok.fresh (Qp s.heap.objs.size);have I1:=I.laid    (t':=s.toks) (λ_ _ q=>Qk _ q) (Qp _) (kz s.heap I.big);refine wpAny_Dict_walk (knd:=Xy X.prog X.w) hall hl h0 h15 (thn (h _ pins _ σ _ _ I1 (q _ hn)) λws s2 ⟨ps,H2,I2,rel,e,kvs,ep,lk,q2⟩=>?_);subst ep;obtain⟨rs,c,rk⟩:=EW  (w:=X.w) rel;obtain⟨z,hd,vs0,r0,dd⟩:=LF I2.hok e;cases r0;refine⟨rs,c,dd,λh' af hs=>⟨.ref s.heap.objs.size,_,?_,rfl,q2⟩⟩;have hz:(Tx [] kvs).length<=Us:=by have h1:=Dh kvs [];rw[Qt]at h1;rw[sizeLine_eq];lia
 have he:∃q,h'.get? s.heap.objs.size=zd q:=let ⟨q,_,_,hq,_⟩:=af;⟨q,hq⟩
 exact N7 I2 (by rw[e];exact True.intro) hs he (Hh hz hd (rk.merge .nil) af)
def q9  {k:Key}{v}(h:k∉kvs.map (·.1)):Zx kvs k v=kvs++[(k,v)]:=by unfold Zx;simp_all
theorem EN:∀(more kvs),((kvs++more).map (·.1)).Nodup->Tx kvs more=kvs++more
 |[],kvs,_=>by rw[Jd];rfl
 |p::r,kvs,h=>by
  have hn   :=by rw[QA,List.nodup_append]at h;exact λz=>h.2.2 _ z p.1 (Qo.mpr ⟨p,Ql,rfl⟩) zh
  show Tx (Zx kvs p.1 p.2) r=_;rw[q9 hn,EN r _ (by rw[Q5];exact h),Q5];rfl
end L2
namespace DL
open PySem PySem.Spec L2
open PyProof.Rows hiding St
theorem Gu{α β γ:Type}(f):∀(ks:List α)(vs:List (γ×β)),vs.map (·.1)=ks.map f->vs=(ks.zip (vs.map (·.2))).map (λkv=>(f kv.1,kv.2))
 |[],[],_=>rfl
 |k::ks,(a,b)::vs,h=>by injection h with h1 h2;have h1:a=f k:=h1;rw[QC,Ja,QC,←Gu f ks vs h2,h1]
theorem Fy{α β:Type}:∀(ps:List (α×β)),(ps.map (·.1)).zip (ps.map (·.2))=ps
 |[]=>rfl
 |p::r=>by rw[QC,QC,Ja,Fy r]
noncomputable def RE:List (M D×M D)->M (List (D×D))
 |[]=>UR []
 |(f,g)::r=>Kd f λx=>Kd g λy=>Kd (RE r) λps=>UR ((x,y)::ps)
noncomputable def Ys:D->Option Key
 |.int i=>zd (.inl i)
 |.str x=>zd (.inr x)
 |_=>zj
noncomputable def Oy:zn->Option zB
 |[]=>zd []
 |d::r=>match Ys d,Oy r with
  |some k,zd ks=>zd (k::ks)
  |_,_=>zj
noncomputable def Nt(ps:List (D×D)):zp:=match Oy (ps.map (·.1))with
 |some ks=>if ks.Nodup/\ks.length<=15/\ks≠[]then zd (.dict ps)else zj
 |none=>zj
noncomputable def Nr(prs:List (M D×M D)):M D:=Kd (RE prs) λps=>Ka (Nt ps)
def Cu(K:Frag)(G:Hp)(vs:List (V×V))(ps:List (D×D)):Prop:=Reps K G (vs.map (·.1)) (ps.map (·.1))/\Reps K G (vs.map (·.2)) (ps.map (·.2))
section
variable{K:Frag}{B G0 G H:Hp}{σ:St}{ρ:UU}
def RY   (h:Ys d=zd k):d=kD k:=by
 cases d with
 |int i=>cases h;rfl
 |str x=>cases h;rfl
 |_=>cases h
theorem Ej:∀{ds}{ks},Oy ds=zd ks->ds=ks.map kD
 |[],_,h=>by cases h;rfl
 |d::r,ks,h=>by
  unfold Oy at h;split at h
  .rename_i k ks' h1 h2
   cases h;rw[QC,←RY h1,←Ej h2]
  simp_all
def Rep.key_inv   (r:Rep K G v (kD k)):v=kV k:=by
 cases k with
 |inl i=>exact r.int_inv
 |inr x=>exact r.str_inv
def Reps.keys_inv:∀{vs}{ks:zB},Reps K G vs (ks.map kD)->vs=ks.map kV
 |_,[],.nil=>rfl
 |_,k::ks,.cons h t=>by rw[h.key_inv,Reps.keys_inv t];rfl
theorem Ei:∀{prs}{G H}{ρ}{Q},EOk K B G0 G H σ ρ ->
  (match RE prs ρ with
   |.ok ps ρ'=>∀vs G' H',EOk K B G0 G' H' σ ρ'->Same G G'->Cu K G' vs ps->Q vs H'
   |.bad=>False)->Oo (prs.map λp=>(tD K B G0 p.1,tD K B G0 p.2)) σ H Q
 |[],G,H,ρ,Q,k,a=>a [] G H k (.refl _) ⟨.nil,.nil⟩
 |(f,g)::r,G,H,ρ,Q,k,a=>by
  refine⟨G,ρ,k,?_⟩;unfold RE Kd at a;show aft K B G0 _ (f ρ) G σ _;cases z:f ρ with
  |bad=>rw[z]at a;exact a.elim
  |ok x ρ1=>
   rw[z]at a;dsimp only at a;intro v G1 H1 k1 s1 r1;refine⟨G1,ρ1,k1,?_⟩;show aft K B G0 _ (g ρ1) G1 σ _;cases z2:g ρ1 with
   |bad=>rw[z2]at a;exact a.elim
   |ok y ρ2=>
    rw[z2]at a;dsimp only at a;intro u G2 H2 k2 s2 r2;refine Ei  k2 ?_;cases z3:RE r ρ2 with
    |bad=>rw[z3]at a;exact a.elim
    |ok ps ρ3=>rw[z3]at a;intro vs G3 H3 k3 s3 r3;exact a _ G3 H3 k3 ((s1.trans s2).trans s3) ⟨.cons ((r1.mono s2).mono s3) r3.1,.cons (r2.mono s3) r3.2⟩
def EOk.under  (k:EOk K B G0 G H σ ρ)(hp:H p=zj):EOk K (upd B p (.dK [])) G0 G (upd H p (.dK [])) σ ρ where
 bh:=λb o q=>by
  by_cases z:b=p
  .subst z;rw[Zp]at q⊢;exact q
  .rw[KP z]at q⊢;exact k.bh b o q
 gh:=k.gh.trans (ZM hp)
 g0:=k.g0
 np:=λa u q n=>by
  by_cases z:a=p
  .subst z;exact k.gh.free hp
  .rw[KP z]at q;exact k.np a u q n
 len:=k.len
 pub:=k.pub
 own:=λi ds q=>by obtain⟨a,vs,h1,h2,h3,h4,h5⟩:=k.own i ds q;have z   :=YN h4 hp;exact⟨a,vs,h1,by rw[KP z];exact h2,h3,by rw[KP z];exact h4,h5⟩
 sep:=k.sep
 dp:=k.dp.map (λ_ _ _ q=>⟨q,rfl⟩) (λ_ ds q=>⟨ds,q,rfl⟩) λi pt d v fp q s r w n=>⟨r.mono (.refl _) (ZM hp),λb m=>let ⟨_,hl⟩:=r.isl b m;⟨by rw[KP (YN hl hp)];exact(w b m).1,(w b m).2⟩⟩
end
section
variable{X:Cx}{B G0:Hp}{KX:XW}{e o a b c:Ur}{pos p2:Pos}{es rest:zq}
structure DPs(X:Cx)(pos:Pos)(G0:Hp)(keys:List (Option Ur))(values:zq)(prs:List (M D×M D)):Prop where
 out:∀B',PPs X pos keys values (prs.map λp=>(tD X.K B' G0 p.1,tD X.K B' G0 p.2))
def AT:DPs X pos G0 [] [] []:=⟨λ_=>qe⟩
def q8    {f g}{prs}(hk:∀B',PE X k (tD X.K B' G0 f))(hv:∀B',PE X v (tD X.K B' G0 g))(hr:DPs X pos G0 ks vs prs):DPs X pos G0 (zd k::ks) (v::vs) ((f,g)::prs):=
 ⟨λB'=>ku (hk B') (hv B') (hr.out B')⟩
noncomputable def Tr(x y:D):zp:=match x,Ys y with
 |.dict kvs,zd k=>(kvs.find? λp=>decide (Ys p.1=zd k)).map (·.2)
 |_,_=>zj
def OL(k:Key):Ys (kD k)=zd k:=by cases k<;>rfl
theorem Mp{K}{G:Hp}{k}{d:D}:∀{ks:zB}{vs}{ds},Reps K G vs ds->(((ks.map kD).zip ds).find? λp=>decide (Ys p.1=zd k)).map (·.2)=zd d->∃v,ZU (ks.zip vs) k=zd v/\Rep K G v d
 |[],vs,ds,_,e=>by simp at e
 |q::ks,_,_,.nil,e=>by simp at e
 |q::ks,_,_,@Reps.cons _ _ v d0 vs ds r t,e=>by
  rw[QC,Ja,List.find?_cons]at e;unfold ZU;rw[Ja,List.find?_cons];rw[OL]at e;by_cases h:q=k
  .subst h
   simp only[decide_true]at e⊢;cases e;exact⟨v,rfl,r⟩
  .have h':¬_:=λz=>h (Q8 z)
   simp only[h,h',decide_false]at e⊢;exact Mp t e
theorem Eh  : ∀{ks:List zB}{ds:zn},((ks.map tkD).zip ds).find? (λkv=>decide (Ys kv.1=zd ky))=zj
 |[],_=>rfl
 |_::_,[]=>rfl
 |k::ks,d::ds=>by exact Eh (ks:=ks)
def AS(hu:X.A.units+64<cLine){f g}(ha:PE X a (tD X.K B G0 f))(hb:PE X b (tD X.K B G0 g))(hs:VG b:=by intro _ _;rfl):PE X (.Subscript a b pos) (tD X.K B G0 (UQ Tr f g)):=
 Kz (GL (by lia) ha hb hs) λσ H Q q=>tM.two q λv u H2 G ρ x y k rx ry a=>by
  obtain⟨d,e,a1⟩:=a.opt;unfold Tr at e;split at e
  .rename_i kvs ky hk
   have hy:=RY hk;subst hy;have hu:=ry.key_inv;subst hu;cases rx with
   |dic h=>simp_all
   |exc _ _ _ _=>simp[Ys]at e
   |@dct ad ks vs ds _ e0 hne hl h r=>subst e0;obtain⟨w,hw,zN⟩:=Mp r e;exact⟨ad,w,rfl,.inl ⟨_,ky,.inl (k.gh _ _ h),rfl,hw.symm⟩,a1.now k zN⟩
   |@dtt ad ob ks vs ds _ e0 hl h r=>subst e0;have z:=Eh (ks:=ks) (ds:=ds) (ky:=ky);unfold pdD at e;rw[List.find?_cons_of_neg (by show ¬decide ((zj)=zd ky)=zk;simp),z]at e;cases e
  simp_all
end
end DL
namespace DL
open PySem PySem.Spec L2 PySem.SeqAt PySem.AutoSeq1
open PyProof.Rows hiding St
end DL
namespace DL
open PySem PySem.Spec L2
open PyProof.Rows hiding St
end DL
namespace L2
open PySem PySem.Spec PyProof.Rows
end L2
namespace DL
open PySem PySem.Spec L2
open PyProof.Rows hiding St
section
variable{X:Cx}
noncomputable def Nq:D->D->zE
 |.bool c,.bool b=>zd (!(c==b))
 |_,_=>zj
def AR:OpR X (Uv .IsNot) (λx y H Q=>∃c b,x=.bl c/\y=.bl b/\Q (.bl (!(c==b))) H):=by intro pins s σ H x y v u Q I rx ry h;obtain⟨c,b,rfl,rfl,q⟩:=h;cases rx;cases ry;refine Qf (wpAny_of_eq  (by cases c<;>cases b<;>rfl) (Qn (NP I q zh)))
def C8:OpB X (Uv .IsNot) Nq:=⟨_,AR,λv u G H x y d Q s rx ry e q=>by
 unfold Nq at e;split at e
 .cases e;exact⟨_,_,rx.bl_inv,ry.bl_inv,q⟩
 simp_all⟩
end
end DL
namespace L2
open PySem PySem.Spec PyProof.Rows
end L2
namespace DL
open PySem PySem.Spec L2
open PyProof.Rows hiding St
end DL
namespace L2
open PySem PySem.Spec PyProof.Rows
end L2
namespace DL
open PySem PySem.Spec L2
open PyProof.Rows hiding St
def EOk.lent{K}{B G0 G H}{σ}{ρ}(k:EOk K B G0 G H σ ρ):EOk K H H H H σ (Yn ρ) where
 bh:=.refl _
 gh:=.refl _
 g0:=.refl _
 np:=λ_ _ e n=>by lia
 len:=by unfold Yn;rw[Qb];exact k.len
 pub:=λi d e=>by
  rcases Ev e with e2|⟨ds,rfl,e2⟩|⟨p,e2⟩
  .exact k.tree (by unfold Pt;rw[e2])
  .exact k.tree (by unfold Pt;rw[e2])
  .exact k.tree (by unfold Pt;rw[e2])
 own:=λi ds e=>(R8 e).elim
 sep:=λi j a ds es e=>(R8 e).elim
 dp:=.of (λ_ _ _ q=>EU q) λ_ _ q=>R8 q
end DL
namespace L2
open PySem PySem.Spec PyProof.Rows
end L2
namespace DL
open PySem PySem.Spec L2
open PyProof.Rows hiding St
end DL
namespace L2
open PySem PySem.Spec PyProof.Rows
end L2
namespace DL
open PySem PySem.Spec L2
open PyProof.Rows hiding St
noncomputable def NM{α:Type}(a:α):[a].Nodup:=by simp
section
variable{K:Frag}{B G0 G H:Hp}{σ:St}{ρ:UU}
structure NewT(K:Frag)(B G H:Hp)(σ:St)(ρ:UU)(pt:Pat)(v:V)(d:D)(fp:zu):Prop where
 r:RepO K G H pt v d fp
 nd:fp.Nodup
 b:∀a∈fp,B a=zj/\G a=zj
 f:∀a∈fp,∀(j:Nat) es,ρ[j]?=zd (zd (.own es))->σ[j]?≠zd (zd (.ref a))
 dp:∀a∈fp,∀(j:Nat) p d v fp',ρ[j]?=zd (zd (.deep p d))->σ[j]?=zd (zd v)->RepO K G H p v d fp'->a∉fp'
def EOk.setDeep{i:Nat}{pt:Pat}{v:V}{d:D}{fp}(k:EOk K B G0 G H σ ρ)(n:NewT K B G H σ ρ pt v d fp)(hi:i<ρ.length):EOk K B G0 G H (σ.set i (zd v)) (ρ.set i (zd (.deep pt d))) where
 bh:=k.bh
 gh:=k.gh
 g0:=k.g0
 np:=k.np
 len:=by rw[Jc,Jc];exact k.len
 pub:=λj d' q=>by
  by_cases z:i=j
  .subst z;have:=Yx q;cases this
  .rw[Qr z]at q⊢
   exact k.pub j d' q
 own:=λj es q=>by
  by_cases z:i=j
  .subst z;have:=Yx q;cases this
  .rw[Qr z]at q⊢
   exact k.own j es q
 sep:=λj l c es fs q1 q2 s1 s2=>by
  have z1:i≠j:=λz=>by subst z;have:=Yx q1;cases this
  have z2:i≠l:=λz=>by subst z;have:=Yx q2;cases this
  rw[Qr z1]at q1 s1;rw[Qr z2]at q2 s2;exact k.sep j l c es fs q1 q2 s1 s2
 dp:=by
  obtain⟨ω,k1,k2⟩:=k.dp;have hs:i<σ.length:=by rw[←k.len];exact hi
  refine⟨λb=>if b∈fp then i else ω b,λj p d' q=>?_,λj es b q s=>?_⟩
  .by_cases z:i=j
   .subst z
    have:=Yx q;cases this;exact⟨v,fp,QQ hs,n.r,n.nd,λa m=>⟨(n.b a m).1,(n.b a m).2,Qu m⟩⟩
   .rw[Qr z]at q⊢
    obtain⟨v',fp',s,r,nn,w⟩:=k1 j p d' q;refine⟨v',fp',s,r,nn,λb m=>⟨(w b m).1,(w b m).2.1,?_⟩⟩;dsimp only;rw[QH (λz=>n.dp b z j p d' v' fp' q s r m)];exact(w b m).2.2
  .by_cases z:i=j
   .subst z;have:=Yx q;cases this
   .rw[Qr z]at q s
    dsimp only;rw[QH (λz=>n.f b z j es q s)];exact k2 j es b q s
noncomputable def RepOl.leaf:∀{vs}{ds},Reps K G vs ds->RepOl K G H .leaf vs ds []
 |_,_,.nil=>.nil
 |_,_,.cons h t=>.cons   (.leaf h) (RepOl.leaf t)
noncomputable def TR(ρ:UU)(i:Nat):Option (Pat×D):=match ρ[i]? with
 |some (zd (.own ds))=>zd (.lst .leaf,.list ds)
 |some (zd (.deep p d))=>zd (p,d)
 |_=>zj
def EOk.slots(k:EOk K B G0 G H σ ρ):∃ω:Up->Nat,∀(i) p d,TR ρ i=zd (p,d)->∃v fp,σ[i]?=zd (zd v)/\RepO K G H p v d fp/\fp.Nodup/\∀a∈fp,B a=zj/\G a=zj/\ω a=i:=by
 obtain⟨ω,k1,k2⟩:=k.dp;refine⟨ω,λi p d h=>?_⟩;unfold TR at h;split at h
 .rename_i ds q
  cases h;obtain⟨a,vs,h1,h2,h3,h4,h5⟩:=k.own i ds q;refine⟨.ref a,[a],h1,.lst h4 (.leaf h5),NM a,λb m=>?_⟩;rw[Qv.mp m];exact⟨h2,h3,k2 i ds a q h1⟩
 .rename_i p' d' q
  cases h;exact k1 i p d q
 simp_all
def EOk.mutD{j:Nat}{p:Pat}{d d':D}{v:V}{fp fp'}{a:Up}{o:HO}(k:EOk K B G0 G H σ ρ)(hd:ρ[j]?=zd (zd (.deep p d)))(hv:σ[j]?=zd (zd v))(r:RepO K G H p v d fp)(ha:a∈fp)
  (r':RepO K G (upd H a o) p v d' fp') (nd':fp'.Nodup) (sub:∀b∈fp',b∈fp):EOk K B G0 G (upd H a o) σ (ρ.set j (zd (.deep p d'))):=by
 obtain⟨ω,k1,k2⟩:=k.dp;obtain⟨v0,fp0,s0,r0,n0,w0⟩:=k1 j p d hd;rw[hv]at s0;cases s0;have e0:=r0.uniq (.refl _) r;subst e0;obtain⟨hb,hg,hw⟩:=w0 a ha;obtain⟨ws,hl⟩:=r.isl a ha;have nt:∀vs,H a≠zd (.tup vs):=λvs z=>by rw[hl]at z;cases ws<;>cases z
 have nz:∀{m:Nat}{s:Sl},j≠m->(ρ.set j (zd (.deep p d')))[m]?=zd (zd s)->ρ[m]?=zd (zd s):=λ{m s} z q=>by rw[Qr z]at q;exact q
 refine⟨λb u e=>?_,λb u e=>?_,k.g0,k.np,by rw[Jc];exact k.len,λm dm e=>?_,λm es e=>?_,λm l c es fs q1 q2 s1 s2=>?_,ω,λm pm dm e=>?_,λm es b e s=>?_⟩
 .rw[KP (YN e hb)];exact k.bh b u e
 .rw[KP (YN e hg)];exact k.gh b u e
 .by_cases z:j=m
  .subst z;have:=Yx e;cases this
  .exact k.pub m dm (nz z e)
 .by_cases z:j=m
  .subst z;have:=Yx e;cases this
  .have e:=nz z e
   obtain⟨c,us,g1,g2,g3,g4,g5⟩:=k.own m es e;have zc:c≠a:=λw=>by subst w;exact z (hw.symm.trans (k2 m es c e g1))
   exact⟨c,us,g1,g2,g3,by rw[KP zc];exact g4,g5⟩
 .have z1:j≠m:=λz=>by subst z;have:=Yx q1;cases this
  have z2:j≠l:=λz=>by subst z;have:=Yx q2;cases this
  exact k.sep m l c es fs (nz z1 q1) (nz z2 q2) s1 s2
 .by_cases z:j=m
  .subst z
   have:=Yx e;cases this;exact⟨v,fp',hv,r',nd',λb mb=>w0 b (sub b mb)⟩
  .obtain⟨vm,fm,sm,rm,nm,wm⟩:=k1 m pm dm (nz z e)
   exact⟨vm,fm,sm,rm.upd nt (λmm=>z (hw.symm.trans (wm a mm).2.2)),nm,wm⟩
 .have z:j≠m:=λz=>by subst z;have:=Yx e;cases this
  exact k2 m es b (nz z e) s
end
def tT(K:Frag)(B G0:Hp)(pt:Pat)(f:M D):TE:=λσ H Q=>∃G ρ,EOk K B G0 G H σ ρ/\match f ρ with
 |.ok d ρ'=>∀v fp G' H',EOk K B G0 G' H' σ ρ'->Same G G'->NewT K B G' H' σ ρ' pt v d fp->Q v H'
 |.bad=>False
noncomputable def Rz(i:Nat)(pt:Pat)(f:M D):SM:=sB f λd ρ=>if i<ρ.length then .nx (ρ.set i (zd (.deep pt d)))else .bad
section
variable{X:Cx}{B G0:Hp}{KX:XW}{e o a b c:Ur}{pos:Pos}{es:zq}{st:Stmt}{sts:List Stmt}{pt:Pat}
def AQ     (hN:X.N.Nodup)(hi:X.N[i]?=zd x)(hx:Loc X.env.scope x)(he:PE X e (tT X.K B G0 pt f))(hs:swapsWith e (zd (.Name x p2)) pos.line X.env=pure zm:=by rfl)
  (hf:X.fn x=zk∨X.env.scope.names.lookup x=zd .local:=by first|exact .inl rfl|exact .inr rfl|assumption):PS X (.Assign [.Name x p2] e pos) (tS X.K B G0 KX (Rz i pt f)):=
 ZP (NT hN hi hx he hs hf) λD σ H ⟨G,ρ,k,a⟩=>by
  refine⟨G,ρ,k,?_⟩;unfold Rz sB at a;cases z:f ρ with
  |bad=>rw[z]at a;exact a.elim
  |ok ds ρ1=>
   rw[z]at a;intro v fp G' H' k' s' n;dsimp only at a;split at a
   .rename_i hl
    exact a _ G' H' (k'.setDeep n hl) s'
   .exact a.elim
end
noncomputable def isT:Option HO->Bool
 |some (.tup _)=>zk
 |some (.frz _ (.tup _))=>zk
 |_=>zm
def C7{u:MO}:isT (zd u.ho)=zm:=by cases u<;>rfl
def ZO(fp:zu)(G H:Hp):Hp:=λb=>if b∈fp∨isT (H b)=zk then H b else G b
section
variable{K:Frag}{B G0 G H:Hp}{fp:zu}
def va(gh:Same G H):Same G (ZO fp G H):=λb o e=>by
 unfold ZO;split
 .exact gh b o e
 .exact e
def AO(gh:Same G H):Same (ZO fp G H) H:=λb o e=>by
 unfold ZO at e;split at e
 .exact e
 .exact gh b o e
def Gs{b:Up}(h:b∈fp∨isT (H b)=zk):ZO fp G H b=H b:=by unfold ZO;rw[Qu h]
def Gr  (h:b∉fp)(h2:isT (H b)=zm):ZO fp G H b=G b:=by
 unfold ZO;rw[QH];rintro(z|z)
 .exact h z
 lia
def Ext.pubT  (ex:Ext G H G' H')(fr:∀a∈fp,H a=zj):Ext G H (ZO fp G' H') H':=
 ⟨ex.h,ex.g.trans (va ex.gh),AO ex.gh,λa u e n=>by rw[Gr (λm=>by simp_all) (by rw[ex.h a _ e];exact C7)];exact ex.np a u e n⟩
noncomputable def nl0:D->Bool
 |.tuple ds=>ds.all flat
 |d=>flat d
def Rep.nl{G' G2 H'}{v}{d}(r:Rep K G' v d)(h:nl0 d=zk)(gh:Same G' H'):Rep K (ZO fp G2 H') v d:=by
 cases r with
 |tup hs rr=>
  refine .tup ?_ (rr.flat h);rcases hs with (hs|⟨o,hs⟩)|hs
  .have:=gh _ _ hs
   exact .inl (.inl ((Gs (.inr (by rw[this];rfl))).trans this))
  .have:=gh _ _ hs
   exact .inl (.inr ⟨o,(Gs (.inr (by rw[this];rfl))).trans this⟩)
  .exact .inr hs
 |non=>exact .non
 |bl b=>exact .bl b
 |int i=>exact .int i
 |str x=>exact .str x
 |lst _ _=>cases h
 |dic _=>cases h
 |exc _ _ _ _=>cases h
 |dct _ _ _ _ _=>cases h
 |dtt _ _ _ _=>cases h
def Reps.nl{G' G2 H'}(gh:Same G' H'):∀{vs}{ds},Reps K G' vs ds->ds.all nl0=zk->Reps K (ZO fp G2 H') vs ds
 |_,_,.nil,_=>.nil
 |_,_,.cons r t,h=>by rw[Uk,QM]at h;exact .cons (r.nl h.1 gh) (Reps.nl gh t h.2)
end
noncomputable def W8(f:M zn):M zn:=λρ=>match f (Yn ρ)with
 |.ok ds _=>if ds.all nl0=zk then .ok ds ρ else .bad
 |.bad=>.bad
section
variable{ρ ρ1 ρ2 ρ':UU}{pt:Pat}
def AN  {f}{d}(h1:f ρ=.ok d ρ1)(h2:i<ρ1.length)(h3:ρ1.set i (zd (.deep pt d))=ρ'):Rz i pt f ρ=.nx ρ':=by unfold Rz sB;simp_all
def qZ   (h:f (Yn ρ)=.ok ds ρ')(hf:ds.all nl0=zk):W8 f ρ=.ok ds ρ:=by unfold W8;rw[h];dsimp only;rw[if_pos hf]
end
noncomputable def VC(x y:D):Option zn:=match x,y with
 |.list x,.list y=>if x.length+y.length<=1000000 then zd (x++y)else zj
 |_,_=>zj
noncomputable def XQ(f g:M D):M zn:=Kd f λx=>Kd g λy=>Ka (VC x y)
section
variable{X:Cx}{B G0:Hp}{e o a b c:Ur}{pos:Pos}{es:zq}
def AM  (ha:PE X a (tD X.K B G0 f))(hb:PE X b (tD X.K B G0 g)):PE X (.BinOp a .Add b pos) (tL X.K B G0 (XQ f g)):=
 Kz (Ny GI ha hb) λσ H Q ⟨G,ρ,k,q⟩=>by
  refine⟨G,ρ,k,?_⟩;unfold XQ Kd at q;cases z:f ρ with
  |bad=>simp_all
  |ok x ρ1=>
   rw[z]at q;dsimp only at q;intro v G1 H1 k1 s1 r1;refine⟨G1,ρ1,k1,?_⟩;cases z2:g ρ1 with
   |bad=>simp_all
   |ok y ρ2=>
    rw[z2]at q;dsimp only[]at q;intro u G2 H2 k2 s2 r2;cases x with
    |list xs=>
     cases y with
     |list ys=>
      by_cases c:xs.length+ys.length<=1000000
      .have e:VC (.list xs) (.list ys)=zd _:=Qu c
       rw[e]at q;obtain⟨l,vs,rfl,h1,w1⟩:=r1.lst_inv;obtain⟨m,us,rfl,h2,w2⟩:=r2.lst_inv;exact⟨l,m,vs,us,rfl,rfl,k2.gh.seq (s2.seq h1),k2.gh.seq h2,by rw[w1.length,w2.length];exact QP c lim,λp hp=>q p _ G2 _ (k2.ext (Ext.hid k2.gh hp)) (s1.trans s2) (NewL.of k2 hp ((w1.mono s2).append w2))⟩
      .have e:VC (.list xs) (.list ys)=zj:=QH c
       rw[e]at q;exact q.elim
     |_=>exact q.elim
    |_=>exact q.elim
def Ox  {ρ ρ1 ρ2}{xs ys}(h1:f ρ=.ok (.list xs) ρ1)(h2:g ρ1=.ok (.list ys) ρ2)(h:xs.length+ys.length<=1000000):XQ f g ρ=.ok (xs++ys) ρ2:=by have e:VC (.list xs) (.list ys)=zd _:=Qu h;exact Za h1 (Za h2 (by rw[e];rfl))
end
def NewL.back{K}{B G0 G H G' H':Hp}{σ:St}{ρ ρ1:UU}{ad:Up}{vs:List V}{ds}(k:EOk K B G0 G H σ ρ)(k':EOk K H H G' H' σ ρ1)(n:NewL K H G' H' σ ρ1 ad vs ds)(hf:ds.all nl0=zk) :
  EOk K B G0 (ZO [] G H') H' σ ρ/\Same G (ZO [] G H')/\NewL K B (ZO [] G H') H' σ ρ ad vs ds:=by
 have ex:Ext G H G H':=⟨k'.bh,.refl _,k.gh.trans k'.bh,λ_ _ _ n=>n⟩;have ex2:Ext G H (ZO [] G H') H':=ex.pubT (λa m=>by cases m);refine⟨k.ext ex2,ex2.g,⟨k.bh.free n.b,?_,n.h,n.r.nl k'.gh hf,λj es q w=>?_,λj pt d v fp q s r=>k.freshD k'.bh n.b q s r⟩⟩
 .rw[Gr (by simp) (by rw[n.h];rfl)]
  exact k.gh.free n.b
 .obtain⟨b,us,g1,g2,g3,g4,g5⟩:=k.own j es q
  rw[g1]at w;cases w;rw[n.b]at g4;cases g4
section
variable{X:Cx}{B G0:Hp}{KX:XW}
def Ct{l:Bool}{y:Str}{j:Nat}{py:Pos}{spos:Pos}{tg elt iter:Ur}{ifs:zq}{gs:List Comprehension}{scope:Scope}{pos:Pos}{N2:List Str}{k:Nat}{f:M zn}{s}{t:M Bool}{rd:RdB}(hN:X.N.Nodup)(hj:X.N[j]?=zd y)(hy:X.env.scope.names.lookup y=zd .local)(hc:X.calm=zk)
  (hi:∀B' G',PI X tg iter (iD X.K B' G' f)) (zF:Yr X N2 scope (.ListComp elt (⟨tg,iter,ifs,0⟩::gs) scope pos) tg ifs s t rd) (hb:Rs X.env.scope scope X.N N2 k) (hs:∀x,UK iter X.env x=pure x:=by intro _;rfl)
  (hsw:swapsWith (.ListComp elt (⟨tg,iter,ifs,0⟩::gs) scope pos) (zd (.Name y py)) spos.line X.env=pure zk:=by rfl) :
  PS X (.Assign [.Name y py] (.ListComp elt (⟨tg,iter,ifs,0⟩::gs) scope pos) spos) (tS X.K B G0 KX (Zc j (W8 (dCG l f k s t rd)))):=by
 intro pins s0 σ H Dn I ⟨G,ρ,k0,a⟩;unfold Zc sB W8 at a;cases z:dCG l f k s t rd (Yn ρ)with
 |bad=>rw[z]at a;exact a.elim
 |ok es ρ1=>
 rw[z]at a;dsimp only at a;by_cases hnl:es.all nl0=zk
 case neg=>rw[QH hnl]at a;exact a.elim
 rw[Qu hnl]at a;dsimp only at a;by_cases hl:j<ρ.length
 .rw[Qu hl]at a
  obtain⟨ds,ρF,zf,zl,hfl⟩:=N4 z;rw[exec_Assign_Name_used _ _ _ _ hsw];refine Qf (JA (Qf ?_));refine Qf (QK (MA   hc (hi H H) zF hb hs I k0.lent zf zl hfl λC D vs G' H' s4 m I7 hm hC hL hz hcl hp k' s' n=>?_) (λ_ s' hq=>Qn (Qn hq)) λ_ _ e=>e);refine wpAny_assign_Name (Lc I7 hN hj (.inl hy) (v:=.ref D) zh (λs5 I8 ⟨ad,sb,hx⟩=>?_) (.inr hy))
  have hCa:C≠ad:=by
   rcases hx with e|e
   .rw[e];exact hL
   .exact Ne.symm (hcl y ad e)
  refine⟨m,hm.sameBut sb hCa,λh' ae=>⟨_,H',I8.turned (t':=s5.toks) (it:=C) (λb o hb e=>(ae.2 b hb).trans e) hC hL (.inr hz) hcl hp,?_⟩⟩;obtain⟨k2,s2,n2⟩:=NewL.back k0 k' n hnl;exact a _ _ H' (k2.setOwn n2 hl) s2
 .rw[QH hl]at a;exact a.elim
def xZ  (h:∀ρ es ρ',F ρ=.ok es ρ'->F' ρ=.ok es ρ')(ρ)(es)(ρ')(e:W8 F ρ=.ok es ρ'):W8 F' ρ=.ok es ρ':=by
 unfold W8 at e⊢;cases z:F _ with
 |bad=>rw[z]at e;cases e
 |ok ds ρ1=>rw[z]at e;rw[h _ _ _ z];exact e
def Cs   {j:Nat}{py:Pos}{spos:Pos}{tg elt iter:Ur}{ifs}{gs}{scope}{pos:Pos}{f}{s}{t}{rd:RdB}{F}(SC:Scope)(N1 N2)(k:Nat)(le:∀ρ es ρ',F ρ=.ok es ρ'->dCG l f k s t rd ρ=.ok es ρ')(hN:X.N.Nodup)(hj:X.N[j]?=zd y)(hy:X.env.scope.names.lookup y=zd .local)(hc:X.calm=zk)
  (hi:∀B' G',PI X tg iter (iD X.K B' G' f)) (zF:Yr X N2 scope (.ListComp elt (⟨tg,iter,ifs,0⟩::gs) scope pos) tg ifs s t rd) (h1:X.env.scope=SC) (h2:X.N=N1) (hb:W9 Tq SC scope N1 N2 k=zk) (hs:∀x,UK iter X.env x=pure x:=by intro _;rfl)
  (hsw:swapsWith (.ListComp elt (⟨tg,iter,ifs,0⟩::gs) scope pos) (zd (.Name y py)) spos.line X.env=pure zk:=by rfl) :
  PS X (.Assign [.Name y py] (.ListComp elt (⟨tg,iter,ifs,0⟩::gs) scope pos) spos) (tS X.K B G0 KX (Zc j (W8 F))):=
 ZP (Ct hN hj hy hc hi zF (by rw[h1,h2];exact N0 hb) hs hsw) λ_ _ _ q=>Hb (xZ le) q
end
noncomputable def OK(f:M D):M Bool:=Kd f λx=>match x with | .list ds=>UR (!ds.isEmpty)|_=>λ_=>.bad
noncomputable def W6:Nat:=10 ^ 60
section
variable{X:Cx}{B G0:Hp}{e:Ur}
def yf{α β:Type}{xs:List α}{ys:List β}(h:xs.length=ys.length):xs.isEmpty=ys.isEmpty:=by cases xs<;>cases ys<;>first|rfl|simp_all
def AL  (h:PE X e (tD X.K B G0 f))(he:∀whole,isTrue e X.env whole=(do let v ←whole;standAt e.pos;holding [v] (truthy v)):=by intro _;rfl):PT X e (tBo X.K B G0 (OK f)):=
 YA (kE h he) λσ H Q q=>tM.one  q λv H2 G ρ x k r a=>by
  cases x with
  |list ds=>obtain⟨l,vs,rfl,h1,r1⟩:=r.lst_inv;refine⟨!vs.isEmpty,.inl ⟨vs,k.gh.seq h1,rfl⟩,?_⟩;exact aft.now  a k (by rw[yf r1.length])
  |_=>exact a.elim
def xY   {ds:zn}(h1:f ρ=.ok (.list ds) ρ1):OK f ρ=.ok (!ds.isEmpty) ρ1:=by exact Za h1 zh
end
def Wi(kvs:List (D×D))(k:Key)(d:D):List (D×D):=if kvs.any (λp=>decide (Ys p.1=zd k))then kvs.map (λp=>if Ys p.1=zd k then(p.1,d)else p)else kvs++[(kD k,d)]
def Oa(j:Nat)(g f:M D):SM:=sB f λd ρ1=>match ρ1[j]? with
 |some (zd (.deep .dic _))=>sB g (λy ρ2=>match Ys y,ρ2[j]? with
  |some k,zd (zd (.deep .dic (.dict kvs)))=>if kvs.length<1000 then .nx (ρ2.set j (zd (.deep .dic (.dict (Wi kvs k d)))))else .bad
  |_,_=>.bad) ρ1
 |_=>.bad
section
variable{K:Frag}{G:Hp}
theorem OJ  : ∀{ks:zB}{vs:List V}{ds:zn},Reps K G vs ds->((ks.map kD).zip ds).any (λp=>decide (Ys p.1=zd k))=(ks.zip vs).any λkv=>decide (kv.1=k)
 |[],_,_,_=>rfl
 |_::_,_,_,.nil=>rfl
 |k0::ks,_,_,.cons _ t=>by
  rw[QC,Ja,List.any_cons,OJ t,OL];by_cases e:k0=k
  .simp
  .simp[e]
theorem Fx  {w:V}{d:D}(r:Rep K G w d):∀{ks:zB}{vs:List V}{ds:zn},Reps K G vs ds->∃vs' ds',(ks.zip vs).map (λkv=>if kv.1=k then(kv.1,w)else kv)=ks.zip vs'/\((ks.map kD).zip ds).map (λp=>if Ys p.1=zd k then(p.1,d)else p)=(ks.map kD).zip ds'/\ds'.length=ds.length/\Reps K G vs' ds'
 |[],vs,ds,h=>⟨vs,ds,rfl,rfl,rfl,h⟩
 |_::_,_,_,.nil=>⟨[],[],rfl,rfl,rfl,.nil⟩
 |k0::ks,_,_,.cons (v:=v0) (d:=d0) h t=>by
  obtain⟨vs',ds',e1,e2,e3,e4⟩:=Fx r  t;by_cases e:k0=k
  .refine⟨w::vs',d::ds',?_,?_,by rw[QL,e3,QL],.cons r e4⟩
   .rw[Ja,QC,e1,Qu e,Ja]
   .rw[QC,Ja,QC,e2,Qu (by rw[OL,e]),Ja]
  .refine⟨v0::vs',d0::ds',?_,?_,by rw[QL,e3,QL],.cons h e4⟩
   .rw[Ja,QC,e1,QH e,Ja]
   .rw[QC,Ja,QC,e2,QH (by rw[OL];exact λz=>e (Q8 z)),Ja]
noncomputable def Reps.snoc   (r:Rep K G w d):∀{vs}{ds},Reps K G vs ds->Reps K G (vs++[w]) (ds++[d])
 |_,_,.nil=>.cons r .nil
 |_,_,.cons h t=>.cons h (Reps.snoc r t)
def AK  {w:V}{d:D}(r:Rep K G w d){ks:zB}{vs:List V}{ds}(h:Reps K G vs ds)(hl:ks.length=ds.length):∃(ks':zB)(vs':List V)(ds':zn),Zx (ks.zip vs) k w=ks'.zip vs'/\Wi ((ks.map kD).zip ds) k d=(ks'.map kD).zip ds'/\ks'.length=ds'.length/\Reps K G vs' ds':=by
 unfold Zx Wi;rw[OJ h];have hv:=h.length;split
 .obtain⟨vs',ds',e1,e2,e3,e4⟩:=Fx r   h
  exact⟨ks,vs',ds',e1,e2,by rw[e3];exact hl,e4⟩
 .refine⟨ks++[k],vs++[w],ds++[d],?_,?_,by rw[Qi,Qi,hl];rfl,h.snoc r⟩
  .rw[List.zip_append (by lia)];rfl
  .rw[QA,List.zip_append (by rw[Qb];lia)];rfl
end
section
variable{X:Cx}{B G0:Hp}{KX:XW}{e o i:Ur}{pos p2:Pos}
def C6{j:Nat}{f g:M D}(hu:X.A.units+64<cLine)(he:PE X e (tD X.K B G0 f))(ho:PE X o (Zm j))(hi:PE X i (tD X.K B G0 g))(hs:swapsWith e (zd (.Subscript o i p2)) pos.line X.env=pure zm:=by rfl) :
  PS X (.Assign [.Subscript o i p2] e pos) (tS X.K B G0 KX (Oa j g f)):=
 ZP (qf (by lia) ho hi he hs) λD σ H q=>tS.bnd  q λv H1 G1 ρ1 d k r a=>by
  split at a
  .rename_i d0 q0
   obtain⟨ω,ks1⟩:=k.slots;obtain⟨v0,fp0,a8,r0,_,_⟩:=ks1 j .dic d0 (by unfold TR;rw[q0]);refine⟨v0,a8,G1,ρ1,k,?_⟩;unfold sB at a;cases z:g ρ1 with
   |bad=>rw[z]at a;exact a.elim
   |ok y ρ2=>
    rw[z]at a;dsimp only at a;intro kv G' H' k' s' r';split at a
    .rename_i ky kvs hk q2
     split at a
     .rename_i hlt
      obtain⟨ω2,bp⟩:=k'.slots;obtain⟨v2,fp2,hv2,r2,nd2,w2⟩:=bp j .dic _ (by unfold TR;rw[q2]);rw[a8]at hv2;cases hv2;have ey:=RY hk;subst ey;have ekv:=r'.key_inv;subst ekv;cases r2 with
      |@dic ad ks vs ds _ e hl h rr=>
       obtain⟨ks',vs',ds',e1,e2,e3,e4⟩:=AK (k:=ky) (r.mono s') rr hl;refine⟨ad,_,rfl,DPut.k h ?_,a σ G' _ (k'.mutD q2 a8 (.dic e hl h rr) Ql (.dic (ks:=ks') (vs:=vs') (ds:=ds') (by rw[e];exact e2) e3 (by rw[Zp,e1]) e4) (NM ad) λb m=>m) (s'.trans (.refl _))⟩;have:(ks.zip vs).length<=kvs.length:=by rw[e,JP,JP,Qb];have:=rr.length;lia
       exact Nat.lt_of_le_of_lt this (QE hlt (by decide))
     .exact a.elim
    .exact a.elim
  .exact a.elim
def EOk.fillO{K}{B G0 G H:Hp}{σ:St}{ρ:UU}{p:Up}{u:HO}(k:EOk K (upd B p (.dK [])) G0 G H σ ρ)(hb:B p=zj)(h0:G0 p=zj):EOk K B G0 G (upd H p u) σ ρ/\G p=zj/\H p=zd (.dK [])/\(∀(j:Nat) es,ρ[j]?=zd (zd (.own es))->σ[j]?≠zd (zd (.ref p))) /\
  ∀(j:Nat) pt d v fp',ρ[j]?=zd (zd (.deep pt d))->σ[j]?=zd (zd v)->RepO K G (upd H p u) pt v d fp'->p∉fp':=by
 have hG:G p=zj:=k.np p (.k []) Zp h0;have hH   :=k.bh p _ Zp;refine⟨⟨λb o q=>?_,λb o q=>?_,k.g0,λa w q n=>?_,k.len,k.pub,λi ds q=>?_,k.sep,k.dp.map (λ_ _ _ q=>⟨q,rfl⟩) (λ_ ds q=>⟨ds,q,rfl⟩) λi pt d v fp q s r w n=>?_⟩,hG,hH,λj es q s=>?_,λj pt d v fp' q s r=>?_⟩
 .have z:b≠p:=YN q hb
  rw[KP z];exact k.bh b o (by rw[KP z];exact q)
 .rw[KP (YN q hG)];exact k.gh b o q
 .have z:a≠p:=YN q hb
  exact k.np a w (by rw[KP z];exact q) n
 .obtain⟨a,vs,h1,h2,h3,h4,h5⟩:=k.own i ds q
  have z:a≠p:=λe=>by subst e;rw[Zp]at h2;cases h2
  exact⟨a,vs,h1,by rw[KP z]at h2;exact h2,h3,by rw[KP z];exact h4,h5⟩
 .have zz:∀b∈fp,b≠p:=λb m e=>by subst e;have:=(w b m).1;rw[Zp]at this;cases this
  refine⟨r.upd (λ_ e=>by rw[hH]at e;cases e) (λm=>zz p m zh),λb m=>?_⟩;obtain⟨w1,w2⟩:=w b m;rw[KP (zz b m)]at w1;exact⟨w1,w2⟩
 .obtain⟨a,vs,h1,h2,h3,h4,h5⟩:=k.own j es q
  rw[h1]at s;cases s;rw[Zp]at h2;cases h2
 .obtain⟨ω,k1,_⟩:=k.dp
  obtain⟨v',fp,s',r',_,w⟩:=k1 j pt d q;rw[s]at s';cases s';have zz:p∉fp:=λm=>by have:=(w p m).1;rw[Zp]at this;cases this
  have e:=(r'.upd (o:=u) (λ_ e=>by rw[hH]at e;cases e) zz).uniq (.refl _) r;rw[←e];exact zz
def qX  {values:zq}{prs:List (M D×M D)}(h:DPs X pos G0 keys values prs)(hall:keys.all (·.isSome)=zk:=by rfl)(hl:keys.length=values.length:=by rfl)(h0:keys≠[]:=by simp)(h15:keys.length<=15:=by decide) :
  PE X (.Dict keys values pos) (tT X.K B G0 .dic (Nr prs)):=by
 refine Kz (ja (trs:=λp=>prs.map λf=>(tD X.K (upd B p (.dK [])) G0 f.1,tD X.K (upd B p (.dK [])) G0 f.2)) (λp=>h.out _) hall hl h0 h15) λσ H Q ⟨G,ρ,k,a⟩ p hp=>?_;refine Ei (k.under hp) ?_;unfold Nr Kd at a
 cases z:RE prs ρ with
 |bad=>rw[z]at a;exact a.elim
 |ok ps ρ1=>
  rw[z]at a;dsimp only at a;intro vs G1 H1 k1 s1 r1;unfold Ka at a;cases e1:Nt ps with
  |none=>rw[e1]at a;exact a.elim
  |some d=>
  rw[e1]at a;dsimp only at a;unfold Nt at e1;split at e1
  .rename_i ks hk
   split at e1
   .rename_i hc
    cases e1;have ek:=Ej hk;have hv:=r1.1;rw[ek]at hv;have hv:=hv.keys_inv;have hlen:ks.length=ps.length:=by have:=congrArg List.length ek;simpa using this.symm
    have hlv:vs.length=ks.length:=by have:=congrArg List.length hv;simpa using this
    have evs   :=by exact Gu kV ks vs hv
    obtain⟨f1,f2,f3,f4,f5⟩:=k1.fillO  (k.bh.free hp) (k.g0.free (k.gh.free hp));refine⟨f3,ks.zip (vs.map (·.2)),evs,?_,?_⟩
    .rw[JP,Qb];lia
    .have em:Tx [] (ks.zip (vs.map (·.2)))=ks.zip (vs.map (·.2)):=by
      rw[EN _ [] ?_,Qy];rw[Qy,List.map_fst_zip (by rw[Qb];lia)];exact hc.1
     rw[em];refine a (.ref p) [p] _ _ f1 s1 ⟨.dic (ks:=ks) (vs:=vs.map (·.2)) (ds:=ps.map (·.2)) ?_ (by rw[Qb];exact hlen) Zp r1.2,NM p,λb m=>?_,λb m=>?_,λb m=>?_⟩
     .rw[←ek,Fy]
     .rw[Qv.mp m];exact⟨k.bh.free hp,f2⟩
     .rw[Qv.mp m];exact f4
     .rw[Qv.mp m];exact f5
   .cases e1
  .cases e1
noncomputable def ZX(x y:D):zE:=match y,Ys x with
 |.dict kvs,zd k=>if(kvs.all λp=>(Ys p.1).isSome)=zk then zd (kvs.any λp=>decide (Ys p.1=zd k))else zj
 |_,_=>zj
def AJ{K}{G H}{x y}{v u}{t}(sg:Same G H)(px:Rep K G v x)(py:Rep K G u y)(e:ZX x y=zd t):∃a o,u=.ref a/\Xa H a v o/\o.isSome=t:=by
 unfold ZX at e;split at e
 .rename_i kvs k hk
  split at e
  .rename_i c
   cases e;have ex:=RY hk;subst ex;have ev:=px.key_inv;subst ev;cases py with
   |@dic a h=>exact⟨a,zj,rfl,.inl ⟨[],k,.inl (sg _ _ h),rfl,rfl⟩,rfl⟩
   |exc _ _ _ _=>simp[Ys]at c
   |@dct a ks vs ds _ e0 hne hl h r=>refine⟨a,ZU _ k,rfl,.inl ⟨_,k,.inl (sg _ _ h),rfl,rfl⟩,?_⟩;subst e0;rw[OJ r,OY]
   |dtt e0 hl h r=>subst e0;simp[pdD,Ys]at c
  .cases e
 simp_all
def Cr(hu:X.A.units+64<cLine):OpB X (Uv .In) ZX:=by refine⟨λv u H Q=>∃G x y d,Same G H/\Rep X.K G v x/\Rep X.K G u y/\ZX x y=zd d/\Q _ H,?_,λv u G H x y d Q s rx ry e k=>⟨G,x,y,d,s,rx,ry,e,k⟩⟩;intro pins s σ H x y v u Q I rx ry ⟨G,dx,dy,d,sg,px,py,e,q⟩;obtain⟨a,o,rfl,g,rfl⟩:=AJ sg px py e;obtain rfl:u=Value.ref a:=ry;exact d_in (by omega) I g rx λs' I'=>⟨.bl _,H,I',rfl,q⟩
def C5  {g f}{ρ ρ1 ρ2 ρ':UU}{d y e0}{k}{kvs}(h1:f ρ=.ok d ρ1)(q1:ρ1[j]?=zd (zd (.deep .dic e0)))(h2:g ρ1=.ok y ρ2)(hk:Ys y=zd k)(q2:ρ2[j]?=zd (zd (.deep .dic (.dict kvs))))(hl:kvs.length<1000)
  (h3:ρ2.set j (zd (.deep .dic (.dict (Wi kvs k d))))=ρ'):Oa j g f ρ=.nx ρ':=by
 unfold Oa sB;simp_all
noncomputable def WS(j:Nat)(g:M D):M D:=λρ=>match ρ[j]? with
 |some (zd (.deep .dic _))=>(match g ρ with
  |.ok y ρ2=>(match ρ2[j]? with
   |some (zd (.deep .dic (.dict kvs)))=>(match Tr (.dict kvs) y with
    |some d=>.ok d ρ2
    |none=>.bad)
   |_=>.bad)
  |.bad=>.bad)
 |_=>.bad
def AI   (hu:X.A.units+64<cLine)(ho:PE X o (Zm j))(hi:PE X i (tD X.K B G0 g))(hs:VG i:=by intro _ _;rfl):PE X (.Subscript o i pos) (tD X.K B G0 (WS j g)):=
 Kz (GL (by lia) ho hi hs) λσ H Q ⟨G,ρ,k,a⟩=>by
  unfold WS at a;split at a
  .rename_i d0 q0
   obtain⟨ω,ks1⟩:=k.slots;obtain⟨v0,fp0,a8,r0,_,_⟩:=ks1 j .dic d0 (by unfold TR;rw[q0]);refine⟨v0,a8,G,ρ,k,?_⟩;cases z:g ρ with
   |bad=>rw[z]at a;exact a.elim
   |ok y ρ2=>
    rw[z]at a;dsimp only at a;intro kv G' H' k' s' r';split at a
    .rename_i kvs q2
     split at a
     .rename_i d e
      obtain⟨ω2,bp⟩:=k'.slots;obtain⟨v2,fp2,hv2,r2,nd2,w2⟩:=bp j .dic _ (by unfold TR;rw[q2]);rw[a8]at hv2;cases hv2;unfold Tr at e;split at e
      .rename_i kvs' ky hx hk
       cases hx;have ey:=RY hk;subst ey;have ekv:=r'.key_inv;subst ekv;cases r2 with
       |@dic ad ks vs ds _ e0 hl h rr=>subst e0;obtain⟨w,hw,zN⟩:=Mp rr e;exact⟨ad,w,rfl,.inl ⟨_,ky,.inl h,rfl,hw.symm⟩,a w G' H' k' s' zN⟩
      .cases e
     .exact a.elim
    .exact a.elim
  .exact a.elim
noncomputable def Xp(b:Bool)(j:Nat)(g:M D):M Bool:=λρ=>match g ρ with
 |.ok y ρ2=>(match ρ2[j]? with
  |some (zd (.deep .dic (.dict kvs)))=>(match ZX y (.dict kvs)with
   |some t=>.ok (t==b) ρ2
   |none=>.bad)
  |_=>.bad)
 |.bad=>.bad
def Gq  {b}{g}{σ:St}{H:Hp}{Q}(q:tBo X.K B G0 (Xp b j g) σ H Q):tD X.K B G0 g σ H λy H1=>Zm j σ H1 λx H2=>∃a o,x=.ref a/\Xa H2 a y o/\Q (o.isSome==b) H2:=by
 obtain⟨G,ρ,k,a⟩:=q;refine⟨G,ρ,k,?_⟩;unfold Xp at a;cases z:g ρ with
 |bad=>rw[z]at a;exact a.elim
 |ok y ρ2=>
  rw[z]at a;dsimp only at a;intro kv G' H' k' s' r';split at a
  .rename_i kvs q2
   split at a
   .rename_i t e
    obtain⟨ω2,bp⟩:=k'.slots;obtain⟨v2,fp2,hv2,r2,nd2,w2⟩:=bp j .dic _ (by unfold TR;rw[q2]);refine⟨v2,hv2,?_⟩;unfold ZX at e;split at e
    .rename_i kvs' ky hx hk
     cases hx;split at e
     .cases e
      have ey:=RY hk;subst ey;have ekv:=r'.key_inv;subst ekv;cases r2 with
      |@dic ad ks vs ds _ e0 hl h rr=>subst e0;refine⟨ad,ZU _ ky,rfl,.inl ⟨_,ky,.inl h,rfl,rfl⟩,?_⟩;rw[OJ rr,OY]at a;exact a _ G' H' k' s' zh
     .cases e
    .cases e
   .exact a.elim
  .exact a.elim
def tM.mono{K}{B G0}{α γ}{R}{f:M α}{σ}{H}{P Q:γ->Hp->Prop}(h:tM K B G0 R f σ H P)(i:∀v H1,P v H1->Q v H1):tM K B G0 R f σ H Q:=by
 obtain⟨G,ρ,k,a⟩:=h;refine⟨G,ρ,k,?_⟩;cases z:f ρ with
 |bad=>rw[z]at a;exact a
 |ok d ρ'=>rw[z]at a;exact λv G' H' k' s' r=>i _ _ (a v G' H' k' s' r)
def AH  {g}(hu:X.A.units+64<cLine)(hi:PE X i (tD X.K B G0 g))(ho:PE X o (Zm j))(hm:behindInMarks .In o=zm:=by first|exact O0 _ (by decide) (by decide)|rfl):PT X (.Compare i [.In] [o] pos) (tBo X.K B G0 (Xp zk j g)):=
 YA (Ot (BQ (by lia) hi ho) hm) λσ H Q q=>tM.mono (Gq q) λy H1 ⟨x,hx,a,ov,e1,e2,e3⟩=>⟨x,hx,a,ov,e1,e2,_,rfl,by simp_all⟩
def qW  {g}(hu:X.A.units+64<cLine)(hi:PE X i (tD X.K B G0 g))(ho:PE X o (Zm j))(hm:behindInMarks .NotIn o=zm:=by first|exact O0 _ (by decide) (by decide)|rfl):PT X (.Compare i [.NotIn] [o] pos) (tBo X.K B G0 (Xp zm j g)):=
 YA (Ot (vh (by lia) hi ho) hm) λσ H Q q=>tM.mono (Gq q) λy H1 ⟨x,hx,a,ov,e1,e2,e3⟩=>⟨x,hx,a,ov,e1,e2,_,rfl,by simp_all⟩
def AG   {ρ ρ1}{e0 y d}{kvs:List (D×D)}(q0:ρ[j]?=zd (zd (.deep .dic e0)))(h:g ρ=.ok y ρ1)(q1:ρ1[j]?=zd (zd (.deep .dic (.dict kvs))))(h2:Tr (.dict kvs) y=zd d):WS j g ρ=.ok d ρ1:=by unfold WS;simp_all
def PL  {b t}{g}{ρ ρ1}{y}{kvs:List (D×D)}(h:g ρ=.ok y ρ1)(q1:ρ1[j]?=zd (zd (.deep .dic (.dict kvs))))(h2:ZX y (.dict kvs)=zd t):Xp b j g ρ=.ok (t==b) ρ1:=by unfold Xp;simp_all
end
end DL
namespace L2
open PySem PySem.Spec PyProof.Rows PySem.Calls PyProof.V
end L2
namespace DL
open PySem PySem.Spec L2
open PyProof.Rows hiding St
noncomputable def tgN:Ur->List Str
 |.Name x _=>[x]
 |.Tuple [.Name x _] _ _=>[x]
 |.Tuple [.Name x _,.Name y _] _ _=>[x,y]
 |.Tuple [.Name x _,.Name y _,.Name z _] _ _=>[x,y,z]
 |.Tuple [.Name x _,.Name y _,.Name z _,.Name u _] _ _=>[x,y,z,u]
 |_=>[]
noncomputable def adN(vs:List Str):List Str->List Str
 |[]=>vs
 |x::r=>adN (if vs.elem x then vs else vs++[x]) r
def Sg(vs:List Str):List Comprehension->List Str
 |[]=>vs
 |⟨tg,_,_,_⟩::r=>Sg (adN vs (tgN tg)) r
noncomputable def dotN(x:Str):Str:=("." : Str)++x
def blN(N:List Str)(gs:List Comprehension):List Str:=N.map (λx=>if(Sg [] gs).elem x then dotN x else x)++Sg [] gs
noncomputable def glN(sc:Scope):List Str:=sc.names.filterMap λy=>match y.2 with | .globalImplicit=>zd y.1|_=>zj
abbrev NmF(s:Stmt)(N:List Str):Prop:=FnNm (Yo s) N (glN (Yo s))
noncomputable def mq{α:Type}{l:List α}{x:α}(n:Nat)(h:l[n]?=zd x):x∈l:=Qq h
section
variable{sc:Scope}{N gl:List Str}{x:Str}
noncomputable def gA(H:FnNm sc N gl)(h:gl.elem x=zk):sc.names.lookup x=zd .globalImplicit:=H.gl x (by simp_all)
end
section
variable{X:Cx}{B G0:Hp}{KX:XW}{e e1 e2 o a b c i:Ur}{gl:List Str}{pos p2:Pos}{x:Str}{j:Nat}
def Cq(H:FnNm X.env.scope X.N gl)(hi:X.N[j]?=zd x:=by rfl)(hf:X.fn x=zk∨X.env.scope.names.lookup x=zd .local:=by first|exact .inl rfl|exact .inr rfl|assumption):PG X (.Name x pos) (tG X.K B G0 (gN j)):=Vc (Ve H.nd hi (lq H j hi) hf)
def C4{N'}{scope}{cl}{C}{s₀}{H₀}{ex}(hN:N'.Nodup:=by decide +kernel)(hi:N'[j]?=zd x:=by rfl)(hl:locK (scope.names.lookup x)=zk:=by rfl):PG (X.blk N' scope cl C s₀ H₀ ex) (.Name x pos) (tG X.K B G0 (gN j)):=Vc (Ve hN hi (RP hl).1 (RP hl).2)
def aSet  (H:FnNm X.env.scope X.N gl)(he:PE X e (tD X.K B G0 f))(hi:X.N[j]?=zd x:=by rfl)(hs:swapsWith e (zd (.Name x p2)) pos.line X.env=pure zm:=by rfl)
  (hf:X.fn x=zk∨X.env.scope.names.lookup x=zd .local:=by first|exact .inl rfl|exact .inr rfl|assumption):PS X (.Assign [.Name x p2] e pos) (tS X.K B G0 KX (U5 j f)):=CK H.nd hi (lq H j hi) he hs hf
def Ly  (H:FnNm X.env.scope X.N gl)(he:PE X e (tL X.K B G0 f))(hi:X.N[j]?=zd x:=by rfl)(hs:swapsWith e (zd (.Name x p2)) pos.line X.env=pure zm:=by rfl)
  (hf:X.fn x=zk∨X.env.scope.names.lookup x=zd .local:=by first|exact .inl rfl|exact .inr rfl|assumption):PS X (.Assign [.Name x p2] e pos) (tS X.K B G0 KX (Zc j f)):=GR H.nd hi (lq H j hi) he hs hf
def Cp  {pt}(H:FnNm X.env.scope X.N gl)(he:PE X e (tT X.K B G0 pt f))(hi:X.N[j]?=zd x:=by rfl)(hs:swapsWith e (zd (.Name x p2)) pos.line X.env=pure zm:=by rfl)
  (hf:X.fn x=zk∨X.env.scope.names.lookup x=zd .local:=by first|exact .inl rfl|exact .inr rfl|assumption):PS X (.Assign [.Name x p2] e pos) (tS X.K B G0 KX (Rz j pt f)):=AQ H.nd hi (lq H j hi) he hs hf
def aAug    {pos'}(H:FnNm X.env.scope X.N gl)(ho:IpD X op p)(he:PE X e (tD X.K B G0 f))(hi:X.N[j]?=zd x:=by rfl)(hf:X.fn x=zk∨X.env.scope.names.lookup x=zd .local:=by first|exact .inl rfl|exact .inr rfl|assumption):PS X (.AugAssign (.Name x pos') op e pos) (tS X.K B G0 KX (Wh p j f)):=Bc H.nd hi (lq H j hi) ho he hf
def Co  {tg elt iter}{ifs}{gs}{scope}{f}{s}{t}{rd}{F}{k}{SC}{N1}(H:FnNm SC N1 gl)(le:∀ρ es ρ',F ρ=.ok es ρ'->dCG l f k s t rd ρ=.ok es ρ')(hc:X.calm=zk)
  (hi:PI X tg iter (iD X.K B G0 f)) (zF:Yr X (blN N1 (⟨tg,iter,ifs,0⟩::gs)) scope (.ListComp elt (⟨tg,iter,ifs,0⟩::gs) scope pos) tg ifs s t rd) (hb:W9 Tq SC scope N1 (blN N1 (⟨tg,iter,ifs,0⟩::gs)) k=zk) (h1:X.env.scope=SC:=by rfl) (h2:X.N=N1:=by rfl) (hs:∀x,UK iter X.env x=pure x:=by intro _;rfl) :
  PE X (.ListComp elt (⟨tg,iter,ifs,0⟩::gs) scope pos) (tL X.K B G0 F):=D9 _ _ _ k le hc hi zF h1 h2 hb hs
def Du   {py spos:Pos}{tg elt iter:Ur}{ifs}{gs}{scope:Scope}{f}{s}{t}{rd:RdB}{F}{k:Nat}{SC:Scope}{N1}(H:FnNm SC N1 gl)(le:∀ρ es ρ',F ρ=.ok es ρ'->dCG l f k s t rd ρ=.ok es ρ')(hc:X.calm=zk)
  (hi:PI X tg iter (iD X.K B G0 f)) (zF:Yr X (blN N1 (⟨tg,iter,ifs,0⟩::gs)) scope (.ListComp elt (⟨tg,iter,ifs,0⟩::gs) scope pos) tg ifs s t rd) (hb:W9 Tq SC scope N1 (blN N1 (⟨tg,iter,ifs,0⟩::gs)) k=zk) (hj:N1[j]?=zd y:=by rfl) (hy:SC.names.lookup y=zd .local:=by rfl) (h1:X.env.scope=SC:=by rfl) (h2:X.N=N1:=by rfl) (hs:∀x,UK iter X.env x=pure x:=by intro _;rfl)
  (hsw:swapsWith (.ListComp elt (⟨tg,iter,ifs,0⟩::gs) scope pos) (zd (.Name y py)) spos.line X.env=pure zk:=by rfl) :
  PS X (.Assign [.Name y py] (.ListComp elt (⟨tg,iter,ifs,0⟩::gs) scope pos) spos) (tS X.K B G0 KX (Zc j F)):=sD_1 _ _ _ k le (h2 ▸ H.nd) (h2 ▸ hj) (h1 ▸ hy) hc hi zF h1 h2 hb hs hsw
def C3        {N2}{tg elt iter}{ifs}{gs}{scope}{f}{s}{t}{rd}{F}{k}(le:∀ρ es ρ',F ρ=.ok es ρ'->dCG l f k s t rd ρ=.ok es ρ')(hc:X.calm=zk)
  (hi:PI (X.blk N2 scope0 cl C s₀ H₀ ex) tg iter (iD X.K B G0 f)) (zF:Yr (X.blk N2 scope0 cl C s₀ H₀ ex) (blN N2 (⟨tg,iter,ifs,0⟩::gs)) scope (.ListComp elt (⟨tg,iter,ifs,0⟩::gs) scope pos) tg ifs s t rd) (hb:W9 Tq scope0 scope N2 (blN N2 (⟨tg,iter,ifs,0⟩::gs)) k=zk) (hs:∀x,UK iter (X.blk N2 scope0 cl C s₀ H₀ ex).env x=pure x:=by intro _;rfl) :
  PE (X.blk N2 scope0 cl C s₀ H₀ ex) (.ListComp elt (⟨tg,iter,ifs,0⟩::gs) scope pos) (tL X.K B G0 F):=CG _ k le hc hi zF hb hs
end
end DL
namespace DL
open PySem PySem.Spec L2
open PyProof.Rows hiding St
open Builtin Builtin.Str
end DL
namespace DL
open PySem PySem.Spec L2
open PyProof.Rows hiding St
end DL
namespace DL
open PySem PySem.Spec L2
open PyProof.Rows hiding St
open PySem.SeqRoads2 PySem.SeqAt
end DL
namespace DL
open PySem PySem.Spec L2
open PyProof.Rows hiding St
end DL
namespace L2
open PySem PySem.Spec PyProof.Rows
end L2
namespace DL
open PySem PySem.Spec L2
open PyProof.Rows hiding St
end DL
namespace DL
open PySem PySem.Spec L2
open PyProof.Rows hiding St
open PySem.SeqRoads2 PySem.SeqAt
theorem Gp:∀{ts:List Bool}{us}{i:Nat}{v},Vals (ts.map V.bl) us->us[i]?=zd v->∃x,ts[i]?=zd x/\v=.bool x
 |[],_,_,_,.nil,e=>by cases e
 |x::ts,_,0,_,.cons h _,e=>by cases e;cases h;exact⟨x,rfl,rfl⟩
 |x::ts,_,i+1,_,.cons _ r,e=>Gp (i:=i) r e
end DL
namespace DL
open PySem PySem.Spec L2
open PyProof.Rows hiding St
section
variable{X:Cx}{B G0:Hp}{KX:XW}{e e':Ur}{es es':zq}{st st':Stmt}{sts aD:List Stmt}{pos p2:Pos}{x:Str}{j:Nat}{gl:List Str}
def qV  (q:st::sts=aD)(h1:PS X st (tS X.K B G0 KX g))(h2:PSs X sts (tS X.K B G0 KX h)):PSs X aD (tS X.K B G0 KX (US g h)):=q ▸ RQ h1 h2
def C2  (q:Stmt.Assign [.Name x p2] e pos=st')(H:FnNm X.env.scope X.N gl)(he:PE X e (tL X.K B G0 f))(hi:X.N[j]?=zd x:=by rfl)(hs:swapsWith e (zd (.Name x p2)) pos.line X.env=pure zm:=by rfl)
  (hf:X.fn x=zk∨X.env.scope.names.lookup x=zd .local:=by first|exact .inl rfl|exact .inr rfl|assumption):PS X st' (tS X.K B G0 KX (Zc j f)):=q ▸ Ly H he hi hs hf
def qU  (q:Expr.List es pos=e')(h:PA X es (tDs X.K B G0 f)):PE X e' (tL X.K B G0 (Kd f λxs=>if xs.length<=1000000 then UR xs else λ_=>.bad)):=q ▸ GQ h
def xX   (q:e::es=es')(ha:PE X e (tD X.K B G0 f))(hr:PA X es (tDs X.K B G0 g))(hs:Uu (e::es) X.env=(zm,eval e X.env)::Uu es X.env:=by rfl):PA X es' (tDs X.K B G0 (UO f g)):=q ▸ X8 ha hr hs
end
def EOk.publishD{K:Frag}{B G0 G H:Hp}{σ:St}{ρ:UU}{i:Nat}{d:D}(k:EOk K B G0 G H σ ρ)(h:ρ[i]?=zd (zd (.deep .dic d))) :
  ∃a G',σ[i]?=zd (zd (.ref a))/\Same G G'/\Rep K G' (.ref a) d/\EOk K B G0 G' H σ (ρ.set i (zd (.pub d))):=by
 obtain⟨ω,k1,k2⟩:=k.dp;obtain⟨v,fp,h1,r,nd,w⟩:=k1 i _ _ h;have hl:i<ρ.length:=(Qg.mp h).1;cases r with
 |@dic a ks vs ds kvs e hl' hH hr=>
 obtain⟨h2,h3,hω⟩:=w a Ql;have sg:Same G (upd G a (.dK (ks.zip vs))):=ZM h3
 have rr:Rep K (upd G a (.dK (ks.zip vs))) (.ref a) (.dict kvs):=by
  cases ks with
  |nil=>subst e;exact .dic Zp
  |cons q ks=>exact .dct e (by simp) hl' Zp (hr.mono sg)
 have nz:∀{m:Nat}{s:Sl},(ρ.set i (zd (Sl.pub (.dict kvs))))[m]?=zd (zd s)->(i=m/\s=.pub (.dict kvs))∨(i≠m/\ρ[m]?=zd (zd s)):=λ{m s} q=>by
  by_cases z:i=m
  .subst z
   rw[QQ hl]at q;cases q;exact .inl ⟨rfl,rfl⟩
  .rw[Qr z]at q;exact .inr ⟨z,q⟩
 refine⟨a,upd G a _,h1,sg,rr,⟨k.bh,λb u q=>?_,k.g0.trans sg,λb o q n=>?_,by rw[Jc];exact k.len,λj d q=>?_,λj es q=>?_,λj l c es fs q1 q2 s1 s2=>?_,?_⟩⟩
 .by_cases z:b=a
  .subst z;rw[Zp]at q;cases q;exact hH
  .rw[KP z]at q;exact k.gh b u q
 .have z:b≠a:=λz=>by subst z;rw[h2]at q;cases q
  rw[KP z];exact k.np b o q n
 .rcases nz q with ⟨rfl,e⟩|⟨_,q⟩
  .cases e
   exact⟨.ref a,h1,rr⟩
  .obtain⟨v,g1,g2⟩:=k.pub j d q
   exact⟨v,g1,g2.mono sg⟩
 .rcases nz q with ⟨_,e⟩|⟨zi,q⟩
  .cases e
  .obtain⟨b,ws,g1,g2,g3,g4,g5⟩:=k.own j es q
   have zb:b≠a:=λe=>zi (by rw[←hω,←e];exact k2 j es b q g1)
   exact⟨b,ws,g1,g2,by rw[KP zb];exact g3,g4,g5.mono sg⟩
 .rcases nz q1 with ⟨_,e⟩|⟨_,q1⟩
  .cases e
  .rcases nz q2 with ⟨_,e⟩|⟨_,q2⟩
   .cases e
   .exact k.sep j l c es fs q1 q2 s1 s2
 .refine⟨ω,λm p d q=>?_,λm es b q s=>?_⟩
  .rcases nz q with ⟨_,e⟩|⟨zi,q⟩
   .cases e
   .obtain⟨v,fp,s,r,n,w2⟩:=k1 m p d q
    exact⟨v,fp,s,r.mono sg (.refl _),n,λb mb=>⟨(w2 b mb).1,by rw[KP (λz=>zi (by rw[←hω,←z];exact(w2 b mb).2.2))];exact(w2 b mb).2.1,(w2 b mb).2.2⟩⟩
  .rcases nz q with ⟨_,e⟩|⟨_,q⟩
   .cases e
   .exact k2 m es b q s
noncomputable def Ph(i:Nat):M D:=λρ=>match ρ[i]? with
 |some (zd (.deep .dic d))=>.ok d (ρ.set i (zd (.pub d)))
 |_=>.bad
section
variable{X:Cx}{B G0:Hp}{e:Ur}
def qc  (h:PE X e (Zm i)):PE X e (tD X.K B G0 (Ph i)):=Kz h λσ H Q ⟨G,ρ,k,a⟩=>by
 unfold Ph at a;split at a
 .rename_i d q
  obtain⟨ad,G',h1,h2,h3,h4⟩:=k.publishD q;exact⟨.ref ad,h1,a _ G' H h4 h2 h3⟩
 .exact a.elim
def qb  {ρ ρ':UU}{d}(h:ρ[i]?=zd (zd (.deep .dic d)))(h2:ρ.set i (zd (.pub d))=ρ'):Ph i ρ=.ok d ρ':=by unfold Ph;simp_all
end
section
variable{X:Cx}{B G0:Hp}{KX:XW}{a b e e':Ur}{es es':zq}{st st':Stmt}{sts aD:List Stmt}{pos p2:Pos}{x:Str}{j:Nat}{gl:List Str}
def Dt  (q:Stmt.Assign [.Name x p2] e pos=st')(H:FnNm X.env.scope X.N gl)(he:PE X e (tD X.K B G0 f))(hi:X.N[j]?=zd x:=by rfl)(hs:swapsWith e (zd (.Name x p2)) pos.line X.env=pure zm:=by rfl)
  (hf:X.fn x=zk∨X.env.scope.names.lookup x=zd .local:=by first|exact .inl rfl|exact .inr rfl|assumption):PS X st' (tS X.K B G0 KX (U5 j f)):=q ▸ aSet H he hi hs hf
def qT  (q:Expr.List es pos=e')(h:PA X es (tDs X.K B G0 f)):PE X e' (tD X.K B G0 (Kh f)):=q ▸ N5 h
def qS   (q:Expr.Tuple es x1 pos=e')(h:PA X es (tDs X.K B G0 f)):PE X e' (tD X.K B G0 (Kl f)):=q ▸ OP h
def L6    (o:OpD X (binaryOp op) p)(q:Expr.BinOp a op b pos=e')(ha:PE X a (tD X.K B G0 f))(hb:PE X b (tD X.K B G0 g)):PE X e' (tD X.K B G0 (UQ p f g)):=q ▸ Tv o ha hb
end
section
variable{X:Cx}
def qR(hc:X.calm=zk):YS X (.builtin "any") (λxs H Q=>∃l,∃bs:List Bool,xs=[.ref l]/\SqL X.K H l (bs.map V.bl)/\Q (.bl (bs.any id)) H):=by
 intro pins s σ H xs us Q I rx h;obtain⟨l,bs,rfl,hq,q⟩:=h;obtain⟨u,rfl,ru⟩:=rx.one;cases ru;obtain⟨its,rv,p,hz⟩:=I.list hq;have hl:=p.isList;have hlt:l<s.heap.objs.size:=by obtain⟨_,e,_⟩:=id hl;exact Qh e
 have hn:its.toArray.size=bs.length:=by have:=rv.length;rw[List.length_map]at this;simp;lia
 refine call_any_walk (Jx hl ?_)
 refine⟨s.heap.objs.size,[s.heap.objs.size,l],[s.heap.objs.size],its.toArray.size,_,_,λi=>(bs[i]?).getD zk,rfl,Walks.list (A:=X.A.in1) (I.ok.hd hc) _ l (QS hlt) its.toArray,
  ⟨⟨_,QD _ zh,rfl,rfl⟩,hl.push _⟩,λi v s' Q' E' hP hQ=>?_,λh' tk hk=>?_⟩
 .obtain⟨x,e1,e2⟩:=Gp rv (show its[i]?=zd v by simpa using hP)
  subst e2;simp only[e1]at hQ;exact Q3 hQ
 .have e:((Uw its.toArray.size).any λi=>(bs[i]?).getD zk)=bs.any id:=by
   rw[hn,JO,JK,JK];constructor
   .rintro⟨i,hi,h⟩
    have hi':=QN.mp hi;simp only[Qe hi']at h;exact⟨_,Jp hi',h⟩
   .rintro⟨b,hb,h⟩
    obtain⟨i,hi,e⟩:=List.getElem_of_mem hb;refine⟨i,QN.mpr hi,?_⟩;simp only[Qe hi,e];exact h
  rw[e];exact⟨.bl _,H,I.kept (t':=tk) λb x e=>hk b x (λhm=>by rw[Qv.mp hm]at e;exact Jo _ (Qh e)) (Qk _ e),rfl,q⟩
noncomputable def Wn:zn->zp
 |[.list ds]=>(Vh ds).map λbs=>.bool (bs.any id)
 |_=>zj
def Ds(hc:X.calm=zk):YV X (.builtin "any") Wn:=by
 refine⟨_,qR hc,λvs G H ds d Q s r e k=>?_⟩;unfold Wn at e;split at e
 .rename_i ds
  cases z:Vh ds with
  |none=>simp_all
  |some bs=>rw[z]at e;cases e;obtain⟨v,rfl,q⟩:=r.one_inv;obtain⟨l,ws,rfl,h1,r1⟩:=q.lst_inv;have:=Ll r1 z;subst this;exact⟨l,bs,rfl,s.seq h1,k _ G H (.refl s) (.bl _)⟩
 simp_all
def Go{bs:List Bool}:Wn [.list (bs.map Uz)]=zd (.bool (bs.any id)):=by unfold Wn;dsimp only;rw[Db];rfl
end
end DL
namespace L2
open PySem PySem.Spec PyProof.Rows PySem.Calls PyProof.V
end L2
namespace DL
open PySem PySem.Spec L2
open PyProof.Rows hiding St
end DL
namespace L2
open PySem PySem.Spec PyProof.Rows
end L2
namespace DL
open PySem PySem.Spec L2
open PyProof.Rows hiding St
end DL
namespace L2
open PySem PySem.Spec PyProof.Rows
end L2
namespace DL
open PySem PySem.Spec L2
open PyProof.Rows hiding St
end DL
namespace DL
open PySem PySem.Spec L2
open PyProof.Rows hiding St
open Builtin Builtin.Str
end DL
namespace DL
open PySem PySem.Spec L2
open PyProof.Rows hiding St
section
open PySem.W
variable{p q:Uo}
def Ke{loose}{mean}{mg mb}{h}{ix}(P)(w)(base){ps}{k n:Nat}{F}(T:Top q loose mean mg mb h)(e:recsOf q=RF p ix)(i:Nat)(x)
  (ok:∀{f}{fd},Fun (whole h) x x (Zv p i) f fd->FnOk P w (whole h) mg base CX0 k f fd ps (spD (whole h) n F)) (hi:ix.contains i=zk:=by rfl) (hn:Oz (Zv p i)=zd x:=by rfl)
  (hb:∀(kV doc pm)(an)(cdv ct)(us),us.length=ps.length->bindArgs (PySem.W.fnOf x x (T5 (Zv p i)) (Vd (Zv p i)) (Yo (Zv p i)) .none kV doc pm an cdv ct) ⟨us,[]⟩=pure (ps.zip us):=by first|exact λ_ _ _ _ _ _ us hl=>bz1 (us:=us) hl λ_=>rfl|exact λ_ _ _ _ _ _ us hl=>bz2 (us:=us) hl λ_ _=>rfl|exact λ_ _ _ _ _ _ us hl=>bz3 (us:=us) hl λ_ _ _=>rfl|exact λ_ _ _ _ _ _ us hl=>bz4 (us:=us) hl λ_ _ _ _=>rfl|exact λ_ _ _ _ _ _ us hl=>bz5 (us:=us) hl λ_ _ _ _ _=>rfl):Def P w (whole h) mg base x k n F:=Cy P w base T e i x hi hn ok hb
end
end DL
namespace W
open PySem PySem.Spec L2 DL
open PyProof.Rows hiding St
noncomputable def top(i:Nat):Stmt:=PySem.Challenge.pw_wishdeal_k57_whole_just_the_webs_dealing.main.body.getD i (.Pass ⟨0,0,0,0⟩)
abbrev GG(s:Stmt)(x:Str):Prop:=(Yo s).names.lookup x=zd NameKind.globalImplicit
abbrev VV(s:Stmt)(x:Str):Prop:=L2.Vis (Yo s) x
abbrev LL(s:Stmt)(x:Str):Prop:=L2.Loc (Yo s) x
def vk{s:Stmt}{x:Str}(h:(Yo s).names.lookup x=zd .local∨(Yo s).names.lookup x=zd .cell∨(Yo s).names.lookup x=zd .free):VV s x:=h
def lk{s:Stmt}{x:Str}(h:(Yo s).names.lookup x=zd .local∨(Yo s).names.lookup x=zd .cell):LL s x:=h
structure Txt(K:Frag)(mg:Str->zw):Prop where
 b_all:mg "all" = zj
 b_any:mg "any" = zj
 b_bool:mg "bool" = zj
 b_enumerate:mg "enumerate" = zj
 b_int:mg "int" = zj
 b_isinstance:mg "isinstance" = zj
 b_len:mg "len" = zj
 b_list:mg "list" = zj
 b_max:mg "max" = zj
 b_min:mg "min" = zj
 b_range:mg "range" = zj
 b_set:mg "set" = zj
 b_sorted:mg "sorted" = zj
 b_str:mg "str" = zj
 b_sum:mg "sum" = zj
 b_tuple:mg "tuple" = zj
 b_zip:mg "zip" = zj
 c_MOST_ASKERS:∃t,mg "MOST_ASKERS" = zd (Value.int 7 t)
 c_MOST_COPIES:∃t,mg "MOST_COPIES" = zd (Value.int 7 t)
 c_MOST_RANKS:∃t,mg "MOST_RANKS" = zd (Value.int 5 t)
 c_MOST_THINGS:∃t,mg "MOST_THINGS" = zd (Value.int 6 t)
 c_ORDERS:∃ad o its n,mg "ORDERS" = zd (.ref ad)/\K.lookup ad=zd o/\o.cls=.type "tuple" /\ o.data=.seq its n/\its.size<=Us/\Vals ((["firsts", "full", "lasts"]:List Str).map V.str) its.toList
abbrev Sbs:Stmt:=top 63
noncomputable abbrev N_bs:List Str:=["nothing", "steps", "begin", "number", "step", "way", "ahead", "behind", "gain", "asker"]
def Hbs:NmF Sbs N_bs:=KG (by decide +kernel)
def Gn:SM:=
 sIf (U0 (λd=>!isNon d) (UL 9))
 (ZG 5 (Kl (UO (UL 9) (UO (mIf (Zj oEq 7 (UL 0)) (UR .none) (UL 7)) (UN)))))
 (sNx)
def Gm:SM:=
 sIf (UQ oEq (UY 4 (UR (.int 0))) (UL 0))
 (U5 2 (UL 3))
 (sNx)
def SI:SM:=
 US (U5 2 (UR (.int 0)))
 (US (Ku (YG (UO (UL 1) (UN))) (gT 2 (gNC (gN 3) (gNC (gN 4) (gN0)))) Gm)
 (US (Zc 5 (Kd (UN) λxs=>if xs.length<=1000000 then UR xs else λ_=>.bad))
 (US (Ku (KJ (UQ U1 (KS (UL 1) (Kd (UL 2) λx=>Ka (Zo x)) (UR zj)) (KS (UL 1) (UR zj) (Kd (UL 2) λx=>Ka (Zo x))))) (gT 4 (gNC (gN 6) (gNC (gN 7) (gNC (gN 8) (gNC (gN 9) (gN0)))))) Gn)
 (U3 (UL 5)))))
def XZ:zn->zp:=U8 N_bs SI
abbrev Sbk:Stmt:=top 54
noncomputable abbrev N_bk:List Str:=["dealing", "way", "told", "asker", "taken"]
def Hbk:NmF Sbk N_bk:=KG (by decide +kernel)
noncomputable def Gk:SM:=
 TN 2 (UL 3) (UL 4)
def SQ:SM:=
 US (Zc 2 (T3 0))
 (US (Ku (KJ (UL 1)) (gT 2 (gNC (gN 3) (gNC (gN 4) (gN0)))) Gk)
 (U3 (UL 2)))
def Wv:zn->zp:=U8 N_bk SQ
abbrev Scc:Stmt:=top 74
noncomputable abbrev N_cc:List Str:=["dealing", "steps", "roads", "nothing", "told", "step", "ahead", "behind", "gain", "asker", "is_left", "shown"]
def Hcc:NmF Scc N_cc:=KG (by decide +kernel)
def Gj:SM:=
 US (Zd (UL 5) (gT 4 (gNC (gN 6) (gNC (gN 7) (gNC (gN 8) (gNC (gN 9) (gN0)))))))
 (US (U5 10 (WD (U0 (λd=>.bool (isNon d)) (UL 9)) (U0 Uz (Zj oEq 7 (UL 3)))))
 (sIf (Zi (Zj ZX 6 (UY 2 (UL 7))) (KB (Zt (UL 10))))
 (US (U5 11 (UX 2 Wv (UO (UL 0) (UO (UX 2 XZ (UO (UL 3) (UO (UQ U1 (Kh (UO (UL 5) (UN))) (UQ Tr (UY 2 (UL 7)) (UL 6))) (UN)))) (UN)))))
 (sIf (RB ZW (UL 11) 4)
 (ZG 4 (UL 11))
 (sNx)))
 (sNx)))
def Sy:SM:=
 US (U5 3 (UQ K0 (K5 2) (UR (.int 1))))
 (US (Zc 4 (Kd (UO (U0 Uy (T3 0)) (UN)) λxs=>if xs.length<=1000000 then UR xs else λ_=>.bad))
 (US (Ku (KJ (UL 1)) (gN 5) Gj)
 (U3 (UL 4))))
def WX:zn->zp:=U8 N_cc Sy
abbrev Sbw:Stmt:=top 67
noncomputable abbrev N_bw:List Str:=["askers", "worths", "prices", "asks", "asker", "thing", "worth"]
def Hbw:NmF Sbw N_bw:=KG (by decide +kernel)
def Gi:SM:=
 TN 3 (UL 4) (K4 Rt (UO (UY 3 (UL 4)) (UO (UQ K0 (UL 6) (UY 2 (UL 5))) (UN))))
def SE:SM:=
 US (Zc 3 (TU (Kh (UO (UR (.int 0)) (UN))) (UL 0)))
 (US (Ku (KJ (UL 1)) (gT 3 (gNC (gN 4) (gNC (gN 5) (gNC (gN 6) (gN0))))) Gi)
 (U3 (UL 3)))
def VU:zn->zp:=U8 N_bw SE
abbrev Sca:Stmt:=top 72
noncomputable abbrev N_ca:List Str:=["prices", "roads", "times", "led_from"]
def Hca:NmF Sca N_ca:=KG (by decide +kernel)
def SA:SM:=
 US (U5 2 (K5 1))
 (US (Zc 3 (Zb (Xw (UO (UL 2) (UN))) 1 (gN 4) (UR zk) (K4 Ki (UO (U0 Uy (Zb (KJ (UL 1)) 1 (gN 5) (Zj ZX 4 (UL 5)) (UL 5))) (UN)))))
 (U3 (U0 Uy (RI (YG (UO (UL 0) (UN))) 2 (gT 2 (gNC (gN 4) (gNC (gN 5) (gN0)))) (UR zk) (UQ K0 (UQ U1 (UQ Ks (UL 2) (UL 5)) (UY 3 (UL 4))) (UY 3 (ZH (UR (.int 1)))))))))
def VQ:zn->zp:=U8 N_ca SA
abbrev Scb:Stmt:=top 73
noncomputable abbrev N_cb:List Str:=["askers", "worths", "prices", "roads", "times", "finer", "asks"]
def Hcb:NmF Scb N_cb:=KG (by decide +kernel)
def Sz:SM:=
 US (U5 4 (K5 3))
 (US (U5 5 (UX 2 VQ (UO (UL 2) (UO (UL 3) (UN)))))
 (US (U5 6 (UX 3 VU (UO (UL 0) (UO (U0 Uy (Zb (KJ (UL 1)) 3 (gT 3 (gNC (gN 7) (gNC (gN 8) (gNC (gN 9) (gN0))))) (UR zk) (Kl (UO (UL 7) (UO (UL 8) (UO (UQ Ks (UL 4) (UL 9)) (UN))))))) (UO (UL 5) (UN))))))
 (U3 (Kl (UO (UL 4) (UO (UL 6) (UO (UL 5) (UN))))))))
def VP:zn->zp:=U8 N_cb Sz
abbrev Sby:Stmt:=top 70
noncomputable abbrev N_by:List Str:=["place", "places", "steps", "told", "turn", "step"]
def Hby:NmF Sby N_by:=KG (by decide +kernel)
def Gh:SM:=
 sIf (Zi (Xp zk 3 (UY 5 (UR (.int 0)))) (Xp zm 3 (UY 5 (UR (.int 1)))))
 (Oa 3 (UY 5 (UR (.int 1))) (UQ U1 (WS 3 (UY 5 (UR (.int 0)))) (Kh (UO (UL 5) (UN)))))
 (sNx)
def Gg:SM:=
 Ku (KJ (UL 2)) (gN 5) Gh
def SB:SM:=
 US (Rz 3 .dic (Nr [(UL 0,Kh (UN))]))
 (US (Ku (Xw (UO (UL 1) (UN))) (gN 4) Gg)
 (U3 (Ph 3)))
def VS:zn->zp:=U8 N_by SB
abbrev Sbz:Stmt:=top 71
noncomputable abbrev N_bz:List Str:=["places", "steps"]
def Hbz:NmF Sbz N_bz:=KG (by decide +kernel)
def g_bz:SM:=
 U3 (U0 Uy (Zb (Xw (UO (UL 0) (UN))) 1 (gN 2) (UR zk) (UX 3 VS (UO (UL 2) (UO (UL 0) (UO (UL 1) (UN)))))))
def VR:zn->zp:=U8 N_bz g_bz
abbrev Sbl:Stmt:=top 56
noncomputable abbrev N_bl:List Str:=["nothing", "got"]
def Hbl:NmF Sbl N_bl:=KG (by decide +kernel)
def g_bl:SM:=
 U3 (mIf (U0 isNon (UL 1)) (UL 0) (UL 1))
def WZ:zn->zp:=U8 N_bl g_bl
abbrev Sbm:Stmt:=top 57
noncomputable abbrev Rp:List Str:=["nothing", "worths", "dealing", "had", "asker", "thing", "worth", "told"]
def Hbm:FnNm (Yo Sbm) Rp ["place_of", "enumerate", "len"]:=KG (by decide +kernel)
def Ge:SM:=
 sIf (UQ oNe (UY 2 (UL 4)) (UL 5))
 (ZG 7 (Kl (UO (UX 2 WZ (UO (UL 0) (UO (UY 2 (UL 4)) (UN)))) (UO (UL 5) (UO (UQ K0 (UL 6) (UY 3 (UL 4))) (UO (UL 4) (UN)))))))
 (sNx)
def Gd:SM:=
 sIf (UQ oEq (UY 2 (UL 4)) (UL 5))
 (TN 3 (UL 4) (UL 6))
 (sNx)
def SO:SM:=
 US (Zc 3 (TU (Kh (UO (UR (.int 0)) (UN))) (K5 2)))
 (US (Ku (KJ (UL 1)) (gT 3 (gNC (gN 4) (gNC (gN 5) (gNC (gN 6) (gN0))))) Gd)
 (US (Zc 7 (W8 (Zb (YG (UO (UL 2) (UN))) 2 (gT 2 (gNC (gN 8) (gNC (gN 9) (gN0)))) (U0 (λd=>!isNon d) (UL 9)) (Kl (UO (UL 9) (UO (UL 0) (UO (ZH (UY 3 (UL 8))) (UO (UL 8) (UN)))))))))
 (US (Ku (KJ (UL 1)) (gT 3 (gNC (gN 4) (gNC (gN 5) (gNC (gN 6) (gN0))))) Ge)
 (U3 (UL 7)))))
def V1:zn->zp:=U8 Rp SO
abbrev Saa:Stmt:=top 1
noncomputable abbrev N_aa:List Str:=["thing"]
def Haa:NmF Saa N_aa:=KG (by decide +kernel)
def g_aa:SM:=
 U3 (WD (U0 (λd=>.bool (KR d "int")) (UL 0)) (Np (U0 (λd=>.bool (KR d "bool")) (UL 0))))
def Yd:zn->zp:=U8 N_aa g_aa
abbrev Sad:Stmt:=top 4
noncomputable abbrev N_ad:List Str:=["thing", "many"]
def Had:NmF Sad N_ad:=KG (by decide +kernel)
def g_ad:SM:=
 U3 (WD (UX 1 Yd (UO (UL 0) (UN))) (U0 Uz (RK (oIB λi j=>decide (i<=j)) (oIB λi j=>decide (i<j)) (UR (.int 0)) (UL 0) (UL 1))))
def Yc:zn->zp:=U8 N_ad g_ad
abbrev Saf:Stmt:=top 15
noncomputable abbrev N_af:List Str:=["thing", "things"]
def Haf:NmF Saf N_af:=KG (by decide +kernel)
def g_af:SM:=
 US (sIf (mOr (KB (Zt (U0 (λd=>.bool (KR d "list")) (UL 0)))) (UQ oEq (K5 0) (UR (.int 0))))
 (U3 (UR (.bool zm)))
 (sNx))
 (U3 (K4 ZC (UO (U0 Uy (Zb (KJ (UL 0)) 1 (gN 2) (UR zk) (UX 2 Yc (UO (UL 2) (UO (UL 1) (UN)))))) (UN))))
def W4:zn->zp:=U8 N_af g_af
abbrev Sag:Stmt:=top 16
noncomputable abbrev N_ag:List Str:=["thing", "things", "wished"]
def Hag:NmF Sag N_ag:=KG (by decide +kernel)
def Rj:SM:=
 US (sIf (mOr (KB (Zt (U0 (λd=>.bool (KR d "list")) (UL 0)))) (UQ (oIB λi j=>decide (j<i)) (K5 0) (UR (.int 5))))
 (U3 (UR (.bool zm)))
 (sNx))
 (US (sIf (KB (Zt (K4 ZC (UO (U0 Uy (Zb (KJ (UL 0)) 1 (gN 3) (UR zk) (UX 2 W4 (UO (UL 3) (UO (UL 1) (UN)))))) (UN)))))
 (U3 (UR (.bool zm)))
 (sNx))
 (US (Zc 2 (PD (KJ (UL 0)) 2 (gN 3) (UR zk) (KJ (UL 3)) (gN 4) (UR zk) (UL 4)))
 (U3 (U0 Uz (UQ oEq (K4 Vp (UO (UL 2) (UN))) (K5 2))))))
def Tg:zn->zp:=U8 N_ag Rj
abbrev Sah:Stmt:=top 17
noncomputable abbrev N_ah:List Str:=["lists", "things", "asker", "ranks"]
def Hah:NmF Sah N_ah:=KG (by decide +kernel)
def qa:SM:=
 sIf (KB (Zt (UX 2 Tg (UO (UL 3) (UO (UL 1) (UN))))))
 (Vb)
 (sNx)
def Ri:SM:=
 US (sIf (mOr (KB (Zt (U0 (λd=>.bool (KR d "list")) (UL 0)))) (KB (RK (oIB λi j=>decide (i<=j)) (oIB λi j=>decide (i<=j)) (UR (.int 1)) (K5 0) (UR (.int 7)))))
 (Vb)
 (sNx))
 (Ku (YG (UO (UL 0) (UN))) (gT 2 (gNC (gN 2) (gNC (gN 3) (gN0)))) qa)
def Tf:zn->zp:=U8 N_ah Ri
abbrev Sae:Stmt:=top 14
noncomputable abbrev N_ae:List Str:=["copies", "number", "many"]
def Hae:NmF Sae N_ae:=KG (by decide +kernel)
def Gc:SM:=
 sIf (KB (Zt (UX 2 Yc (UO (UL 2) (UO (UQ U1 (UR (.int 7)) (UR (.int 1))) (UN))))))
 (Vb)
 (sNx)
def Rk:SM:=
 US (sIf (mOr (KB (Zt (U0 (λd=>.bool (KR d "list")) (UL 0)))) (KB (RK (oIB λi j=>decide (i<=j)) (oIB λi j=>decide (i<=j)) (UR (.int 1)) (K5 0) (UR (.int 6)))))
 (Vb)
 (sNx))
 (Ku (YG (UO (UL 0) (UN))) (gT 2 (gNC (gN 1) (gNC (gN 2) (gN0)))) Gc)
def Th:zn->zp:=U8 N_ae Rk
abbrev Sai:Stmt:=top 18
noncomputable abbrev N_ai:List Str:=["thing", "copies", "lists"]
def Hai:NmF Sai N_ai:=KG (by decide +kernel)
def g_ai:SM:=
 US (sIf (mOr (KB (Zt (U0 (λd=>.bool (KR d "tuple")) (UL 0)))) (UQ oNe (K5 0) (UR (.int 2))))
 (Vb)
 (sNx))
 (US (Zd (UL 0) (gT 2 (gNC (gN 1) (gNC (gN 2) (gN0)))))
 (US (Xz (UX 1 Th (UO (UL 1) (UN))))
 (Xz (UX 2 Tf (UO (UL 2) (UO (K5 1) (UN)))))))
def ZZ:zn->zp:=U8 N_ai g_ai
abbrev Sao:Stmt:=top 25
noncomputable abbrev N_ao:List Str:=["wishes", "dealing"]
def Hao:NmF Sao N_ao:=KG (by decide +kernel)
def g_ao:SM:=
 US (Xz (UX 1 ZZ (UO (UL 0) (UN))))
 (U3 (U0 Uy (Zb (YG (UO (UY 0 (UR (.int 0))) (UN))) 2 (gT 2 (gNC (gN 2) (gNC (gN 3) (gN0)))) (UR zk) (UQ K0 (UL 3) (Tw (UL 1) (UO (UL 2) (UN)))))))
def Ww:zn->zp:=U8 N_ao g_ao
abbrev Sbn:Stmt:=top 58
noncomputable abbrev N_bn:List Str:=["wishes", "dealing", "nothing", "left", "to_nothing"]
def Hbn:NmF Sbn N_bn:=KG (by decide +kernel)
def SN:SM:=
 US (U5 2 (K4 Ki (UO (UY 0 (UR (.int 0))) (UN))))
 (US (U5 3 (UX 2 Ww (UO (UL 0) (UO (UL 1) (UN)))))
 (US (Zc 4 (Zb (YG (UO (UL 3) (UN))) 2 (gT 2 (gNC (gN 5) (gNC (gN 6) (gN0)))) (Zj (oIB λi j=>decide (j<i)) 6 (UR (.int 0))) (Kl (UO (UL 5) (UO (UL 2) (UO (UR (.int 0)) (UO (UR .none) (UN))))))))
 (U3 (UQ U1 (UL 4) (U0 Uy (Zb (Xw (UO (UL 2) (UN))) 1 (gN 5) (UR zk) (Kl (UO (UL 2) (UO (UL 5) (UO (UR (.int 0)) (UO (UR .none) (UN))))))))))))
def V0:zn->zp:=U8 N_bn SN
abbrev Sbo:Stmt:=top 59
noncomputable abbrev N_bo:List Str:=["wishes", "worths", "dealing"]
def Hbo:NmF Sbo N_bo:=KG (by decide +kernel)
def g_bo:SM:=
 U3 (UQ U1 (UX 3 V1 (UO (K4 Ki (UO (UY 0 (UR (.int 0))) (UN))) (UO (UL 1) (UO (UL 2) (UN))))) (UX 2 V0 (UO (UL 0) (UO (UL 2) (UN)))))
def YQ:zn->zp:=U8 N_bo g_bo
abbrev Sbx:Stmt:=top 69
noncomputable abbrev N_bx:List Str:=["steps", "prices", "paid"]
def Hbx:NmF Sbx N_bx:=KG (by decide +kernel)
def SD:SM:=
 US (U5 2 (UQ U1 (UL 1) (Kh (UO (UR (.int 0)) (UN)))))
 (U3 (U0 Uy (Zb (KJ (UL 0)) 1 (gN 3) (UQ oEq (UQ U1 (UY 2 (UY 3 (UR (.int 0)))) (UY 3 (UR (.int 2)))) (UY 2 (UY 3 (UR (.int 1))))) (UL 3))))
def VT:zn->zp:=U8 N_bx SD
abbrev Sbp:Stmt:=top 60
noncomputable abbrev N_bp:List Str:=["walks", "steps", "told", "step", "ahead", "behind", "gain", "asker", "gained", "walked"]
def Hbp:NmF Sbp N_bp:=KG (by decide +kernel)
def GF:SM:=
 US (Zd (UL 3) (gT 4 (gNC (gN 4) (gNC (gN 5) (gNC (gN 6) (gNC (gN 7) (gN0)))))))
 (US (Zd (UY 0 (UL 4)) (gT 2 (gNC (gN 8) (gNC (gN 9) (gN0)))))
 (sIf (UQ (oIB λi j=>decide (j<i)) (UQ U1 (UL 8) (UL 6)) (UQ oIx (UY 2 (UL 5)) (UR (.int 0))))
 (TN 2 (UL 5) (Kl (UO (UQ U1 (UL 8) (UL 6)) (UO (UQ U1 (UL 9) (Kh (UO (UL 3) (UN)))) (UN)))))
 (sNx)))
def SL:SM:=
 US (Zc 2 (T3 0))
 (US (Ku (KJ (UL 1)) (gN 3) GF)
 (U3 (UL 2)))
def VZ:zn->zp:=U8 N_bp SL
abbrev Sbq:Stmt:=top 61
noncomputable abbrev N_bq:List Str:=["places", "steps", "told", "turn"]
def Hbq:NmF Sbq N_bq:=KG (by decide +kernel)
def A9:SM:=
 U5 2 (UX 2 VZ (UO (UL 2) (UO (UL 1) (UN))))
def SK:SM:=
 US (U5 2 (UQ Ks (Kh (UO (Kl (UO (UR (.int 0)) (UO (Kh (UN)) (UN)))) (UN))) (UL 0)))
 (US (Ku (Xw (UO (UL 0) (UN))) (gN 3) A9)
 (U3 (UL 2)))
def Wu:zn->zp:=U8 N_bq SK
abbrev Sbv:Stmt:=top 66
noncomputable abbrev N_bv:List Str:=["wishes", "worths", "dealing", "nothing", "walks"]
def Hbv:NmF Sbv N_bv:=KG (by decide +kernel)
def SF:SM:=
 US (U5 3 (K4 Ki (UO (UY 0 (UR (.int 0))) (UN))))
 (US (U5 4 (UX 2 Wu (UO (UQ U1 (UL 3) (UR (.int 1))) (UO (UX 3 YQ (UO (UL 0) (UO (UL 1) (UO (UL 2) (UN))))) (UN)))))
 (U3 (U0 Uy (Zb (KJ (KS (UL 4) (UR zj) (Kd (UL 3) λx=>Ka (Zo x)))) 2 (gT 2 (gNC (gN 5) (gNC (gN 6) (gN0)))) (UR zk) (UL 5)))))
def VW:zn->zp:=U8 N_bv SF
abbrev Sbr:Stmt:=top 62
noncomputable abbrev N_br:List Str:=["walk", "end", "step", "begin"]
def Hbr:NmF Sbr N_br:=KG (by decide +kernel)
def GE:SM:=
 sIf (UQ oEq (UQ oIx (UY 0 (UL 3)) (UR (.int 0))) (UY 2 (UR (.int 1))))
 (U3 (KS (UL 0) (Kd (UL 3) λx=>Ka (Zo x)) (Kd (UQ U1 (UL 1) (UR (.int 1))) λx=>Ka (Zo x))))
 (sNx)
def GD:SM:=
 Ku (Xw (UO (UQ U1 (UL 1) (UR (.int 1))) (UN))) (gN 3) GE
def SJ:SM:=
 US (Ku (YG (UO (UL 0) (UN))) (gT 2 (gNC (gN 1) (gNC (gN 2) (gN0)))) GD)
 (U3 (Kh (UN)))
def VY:zn->zp:=U8 N_br SJ
abbrev Sbt:Stmt:=top 64
noncomputable abbrev N_bt:List Str:=["wishes", "worths", "dealing", "nothing", "gained", "walk"]
def Hbt:NmF Sbt N_bt:=KG (by decide +kernel)
def GC:SM:=
 sIf (UQ oEq (K5 5) (UQ U1 (UL 3) (UR (.int 1))))
 (U3 (UX 2 XZ (UO (UL 3) (UO (UX 1 VY (UO (UL 5) (UN))) (UN)))))
 (sNx)
def SH:SM:=
 US (U5 3 (K4 Ki (UO (UY 0 (UR (.int 0))) (UN))))
 (US (Ku (KJ (UX 2 Wu (UO (UQ U1 (UL 3) (UR (.int 1))) (UO (UX 3 YQ (UO (UL 0) (UO (UL 1) (UO (UL 2) (UN))))) (UN))))) (gT 2 (gNC (gN 4) (gNC (gN 5) (gN0)))) GC)
 (U3 (Kh (UN))))
def WY:zn->zp:=U8 N_bt SH
abbrev Sbu:Stmt:=top 65
noncomputable abbrev N_bu:List Str:=["wishes", "worths", "dealing", "way"]
def Hbu:NmF Sbu N_bu:=KG (by decide +kernel)
def OI:SM:=
 US (U5 2 (UX 2 Wv (UO (UL 2) (UO (UL 3) (UN)))))
 (U5 3 (UX 3 WY (UO (UL 0) (UO (UL 1) (UO (UL 2) (UN))))))
def SG:SM:=
 US (U5 2 (UQ Ks (Kh (UO (UR .none) (UN))) (K4 Ki (UO (UY 0 (UR (.int 1))) (UN)))))
 (US (U5 3 (UX 3 WY (UO (UL 0) (UO (UL 1) (UO (UL 2) (UN))))))
 (US (Wa (OK (UL 3)) OI W6)
 (U3 (UL 2))))
def VX:zn->zp:=U8 N_bu SG
abbrev Sal:Stmt:=top 21
noncomputable abbrev N_al:List Str:=["wishes"]
def Hal:NmF Sal N_al:=KG (by decide +kernel)
def Rh:SM:=
 US (Xz (UX 1 ZZ (UO (UL 0) (UN))))
 (U3 (K4 TV (UO (U0 Uy (PB (YG (UO (UY 0 (UR (.int 1))) (UN))) 4 (gT 2 (gNC (gN 1) (gNC (gN 2) (gN0)))) (UR zk) (KJ (UL 2)) (gN 3) (UR zk) (KJ (UL 3)) (gN 4) (UR zk) (Kl (UO (UL 1) (UO (UL 4) (UN)))))) (UN))))
def Te:zn->zp:=U8 N_al Rh
abbrev Sau:Stmt:=top 35
noncomputable abbrev N_au:List Str:=["base", "times", "told", "step"]
def Hau:NmF Sau N_au:=KG (by decide +kernel)
noncomputable def A8:SM:=
 Wh XI 2 (UL 0)
noncomputable def g_au:SM:=
 US (U5 2 (UR (.int 1)))
 (US (Ku (Xw (UO (UL 1) (UN))) (gN 3) A8)
 (U3 (UL 2)))
noncomputable def ZR:zn->zp:=U8 N_au g_au
abbrev Saw:Stmt:=top 37
noncomputable abbrev N_aw:List Str:=["turns", "base", "asker", "rank", "behind"]
def Haw:NmF Saw N_aw:=KG (by decide +kernel)
noncomputable def Ra:SM:=
 US (sIf (Zj ZW 2 (UL 0))
 (U3 (UR (.int 0)))
 (sNx))
 (US (U5 4 (UQ K0 (UQ K0 (K5 0) (UR (.int 1))) (Oj (UL 0) (UO (UL 2) (UN)))))
 (U3 (UQ Ks (UQ K0 (UL 1) (UL 3)) (UX 2 ZR (UO (UL 1) (UO (UL 4) (UN)))))))
def V8:zn->zp:=U8 N_aw Ra
abbrev Sav:Stmt:=top 36
noncomputable abbrev N_av:List Str:=["order", "base", "most", "rank"]
def Hav:NmF Sav N_av:=KG (by decide +kernel)
noncomputable def Rb:SM:=
 US (sIf (Zj oEq 0 (UR (.str "firsts")))
 (U3 (UX 2 ZR (UO (UL 1) (UO (UQ K0 (UL 2) (UL 3)) (UN)))))
 (sNx))
 (US (sIf (Zj oEq 0 (UR (.str "full")))
 (U3 (UQ U1 (UX 2 ZR (UO (UL 1) (UO (UL 2) (UN)))) (UX 2 ZR (UO (UL 1) (UO (UQ K0 (UL 2) (UL 3)) (UN))))))
 (sNx))
 (U3 (UQ K0 (UX 2 ZR (UO (UL 1) (UO (UL 2) (UN)))) (UX 2 ZR (UO (UL 1) (UO (UQ K0 (UL 3) (UR (.int 1))) (UN)))))))
noncomputable def V9:zn->zp:=U8 N_av Rb
abbrev Saj:Stmt:=top 19
noncomputable abbrev N_aj:List Str:=["ranks", "thing", "number", "rank"]
def Haj:NmF Saj N_aj:=KG (by decide +kernel)
noncomputable def A6:SM:=
 sIf (Zj oIn 1 (UL 3))
 (U3 (UL 2))
 (sNx)
def g_aj:SM:=
 US (Ku (NL (UO (UL 0) (UN))) (gT 2 (gNC (gN 2) (gNC (gN 3) (gN0)))) A6)
 (U3 (UR (.int 0)))
def Wy:zn->zp:=U8 N_aj g_aj
abbrev Sax:Stmt:=top 38
noncomputable abbrev N_ax:List Str:=["wishes", "aim", "most", "asker", "thing", "order", "old", "turns", "lists", "rank", "base", "kept", "by_counts"]
def Hax:NmF Sax N_ax:=KG (by decide +kernel)
def SZ:SM:=
 US (Zd (UL 1) (gT 3 (gNC (gN 5) (gNC (gN 6) (gNC (gN 7) (gN0))))))
 (US (U5 8 (UY 0 (UR (.int 1))))
 (US (U5 9 (UX 2 Wy (UO (UY 8 (UL 3)) (UO (UL 4) (UN)))))
 (US (U5 10 (UQ U1 (K5 8) (UR (.int 1))))
 (US (U5 11 (mIf (Zi (U0 (λd=>!isNon d) (UL 6)) (UQ oEq (UY 6 (UL 3)) (UL 4))) (UR (.int 1)) (UR (.int 0))))
 (US (U5 12 (UQ U1 (UQ Ks (UX 4 V9 (UO (UL 5) (UO (UL 10) (UO (UL 2) (UO (UL 9) (UN)))))) (UL 10)) (UL 11)))
 (U3 (UQ U1 (UQ Ks (UL 12) (UX 2 ZR (UO (UQ U1 (UL 2) (UR (.int 1))) (UO (K5 7) (UN))))) (UX 4 V8 (UO (UL 7) (UO (UQ U1 (UL 2) (UR (.int 1))) (UO (UL 3) (UO (UL 9) (UN)))))))))))))
def Xs:zn->zp:=U8 N_ax SZ
abbrev Sak:Stmt:=top 20
noncomputable abbrev N_ak:List Str:=["wishes"]
def Hak:NmF Sak N_ak:=KG (by decide +kernel)
def g_ak:SM:=
 US (Xz (UX 1 ZZ (UO (UL 0) (UN))))
 (U3 (K4 Tp (UO (U0 Uy (Zb (KJ (UY 0 (UR (.int 1)))) 1 (gN 1) (UR zk) (K5 1))) (UN))))
def Wx:zn->zp:=U8 N_ak g_ak
abbrev Sas:Stmt:=top 32
noncomputable abbrev N_as:List Str:=["thing", "askers"]
def Has:NmF Sas N_as:=KG (by decide +kernel)
def Re:SM:=
 US (sIf (mOr (KB (Zt (U0 (λd=>.bool (KR d "list")) (UL 0)))) (KB (Zt (K4 ZC (UO (U0 Uy (Zb (KJ (UL 0)) 1 (gN 2) (UR zk) (UX 2 Yc (UO (UL 2) (UO (UL 1) (UN)))))) (UN))))))
 (U3 (UR (.bool zm)))
 (sNx))
 (U3 (U0 Uz (UQ oEq (K4 Vp (UO (UL 0) (UN))) (K5 0))))
def Ta:zn->zp:=U8 N_as Re
abbrev Sar:Stmt:=top 31
noncomputable abbrev N_ar:List Str:=["thing", "askers", "things"]
def Har:NmF Sar N_ar:=KG (by decide +kernel)
def Rf:SM:=
 US (sIf (U0 isNon (UL 0))
 (U3 (UR (.bool zk)))
 (sNx))
 (US (sIf (mOr (KB (Zt (U0 (λd=>.bool (KR d "list")) (UL 0)))) (UQ oNe (K5 0) (UL 1)))
 (U3 (UR (.bool zm)))
 (sNx))
 (U3 (K4 ZC (UO (U0 Uy (Zb (KJ (UL 0)) 1 (gN 3) (UR zk) (Y4 (U0 (λd=>.bool (isNon d)) (UL 3)) (UX 2 Yc (UO (UL 3) (UO (UL 2) (UN))))))) (UN)))))
def Tb:zn->zp:=U8 N_ar Rf
abbrev Sap:Stmt:=top 28
noncomputable abbrev N_ap:List Str:=["thing"]
def Hap:NmF Sap N_ap:=KG (by decide +kernel)
def g_ap:SM:=
 U3 (WD (U0 (λd=>.bool (KR d "str")) (UL 0)) (U0 Uz (Zj oIn 0 (UR (.tuple ((["firsts", "full", "lasts"]:List Str).map UA))))))
def Td:zn->zp:=U8 N_ap g_ap
abbrev Saq:Stmt:=top 29
noncomputable abbrev N_aq:List Str:=["thing"]
def Haq:NmF Saq N_aq:=KG (by decide +kernel)
def g_aq:SM:=
 sIf (KB (Zt (UX 1 Td (UO (UL 0) (UN)))))
 (Vb)
 (sNx)
def Tc:zn->zp:=U8 N_aq g_aq
abbrev Sat:Stmt:=top 33
noncomputable abbrev N_at:List Str:=["wishes", "thing", "copies", "lists", "order", "old", "turns"]
def Hat:NmF Sat N_at:=KG (by decide +kernel)
def Rc:SM:=
 US (Xz (UX 1 ZZ (UO (UL 0) (UN))))
 (US (sIf (mOr (KB (Zt (U0 (λd=>.bool (KR d "tuple")) (UL 1)))) (UQ oNe (K5 1) (UR (.int 3))))
 (Vb)
 (sNx))
 (US (Zd (UL 0) (gT 2 (gNC (gN 2) (gNC (gN 3) (gN0)))))
 (US (Zd (UL 1) (gT 3 (gNC (gN 4) (gNC (gN 5) (gNC (gN 6) (gN0))))))
 (US (Xz (UX 1 Tc (UO (UL 4) (UN))))
 (US (sIf (KB (Zt (UX 3 Tb (UO (UL 5) (UO (K5 3) (UO (K5 2) (UN)))))))
 (Vb)
 (sNx))
 (sIf (KB (Zt (UX 2 Ta (UO (UL 6) (UO (K5 3) (UN))))))
 (Vb)
 (sNx)))))))
def Xu:zn->zp:=U8 N_at Rc
abbrev Say:Stmt:=top 39
noncomputable abbrev N_ay:List Str:=["wishes", "aim", "most"]
def Hay:NmF Say N_ay:=KG (by decide +kernel)
def SY:SM:=
 US (Xz (UX 2 Xu (UO (UL 0) (UO (UL 1) (UN)))))
 (US (U5 2 (UX 1 Wx (UO (UL 0) (UN))))
 (U3 (U0 Uy (Zb (KJ (UX 1 Te (UO (UL 0) (UN)))) 2 (gT 2 (gNC (gN 3) (gNC (gN 4) (gN0)))) (UR zk) (Kl (UO (UL 3) (UO (UL 4) (UO (UX 5 Xs (UO (UL 0) (UO (UL 1) (UO (UL 2) (UO (UL 3) (UO (UL 4) (UN))))))) (UN)))))))))
def Xr:zn->zp:=U8 N_ay SY
abbrev Scd:Stmt:=top 76
noncomputable abbrev N_cd:List Str:=["wishes", "aim", "worths", "dealing", "prices", "steps", "roads"]
def Hcd:NmF Scd N_cd:=KG (by decide +kernel)
def Sx:SM:=
 US (U5 2 (UX 2 Xr (UO (UL 0) (UO (UL 1) (UN)))))
 (US (U5 3 (UX 2 VX (UO (UL 0) (UO (UL 2) (UN)))))
 (US (U5 4 (UX 3 VW (UO (UL 0) (UO (UL 2) (UO (UL 3) (UN))))))
 (US (U5 5 (UX 2 VT (UO (UX 3 YQ (UO (UL 0) (UO (UL 2) (UO (UL 3) (UN))))) (UO (UL 4) (UN)))))
 (US (U5 6 (UX 2 VR (UO (UQ U1 (K5 4) (UR (.int 1))) (UO (UL 5) (UN)))))
 (U3 (Kl (UO (UX 4 VP (UO (K5 3) (UO (UL 2) (UO (UL 4) (UO (UL 6) (UN)))))) (UO (UX 3 WX (UO (UL 3) (UO (UL 5) (UO (UL 6) (UN))))) (UN)))))))))
def XY:zn->zp:=U8 N_cd Sx
abbrev Sbh:Stmt:=top 50
noncomputable abbrev N_bh:List Str:=["dealings", "asks"]
def Hbh:NmF Sbh N_bh:=KG (by decide +kernel)
def g_bh:SM:=
 U3 (K4 ZC (UO (U0 Uy (Zb (YG (UO (UL 1) (UN))) 2 (gT 2 (gNC (gN 2) (gNC (gN 3) (gN0)))) (UR zk) (Y4 (U0 Uz (Zj (oIB λi j=>decide (j<i)) 3 (UR (.int 0)))) (U0 Uz (UQ oIn (UR .none) (U0 Uy (Zb (KJ (UL 0)) 1 (gN 4) (UR zk) (UY 4 (UL 2))))))))) (UN)))
def V3:zn->zp:=U8 N_bh g_bh
abbrev Sbi:Stmt:=top 51
noncomputable abbrev N_bi:List Str:=["wishes", "dealings", "prices", "lefts"]
def Hbi:NmF Sbi N_bi:=KG (by decide +kernel)
def SS:SM:=
 US (Zc 3 (Zb (KJ (UL 1)) 1 (gN 4) (UR zk) (UX 2 Ww (UO (UL 0) (UO (UL 4) (UN))))))
 (U3 (K4 ZC (UO (U0 Uy (RI (YG (UO (UL 2) (UN))) 2 (gT 2 (gNC (gN 4) (gNC (gN 5) (gN0)))) (UR zk) (Y4 (U0 Uz (Zj (oIB λi j=>decide (j<i)) 5 (UR (.int 0)))) (K4 Wn (UO (U0 Uy (Zb (KJ (UL 3)) 1 (gN 6) (UR zk) (U0 Uz (UQ (oIB λi j=>decide (j<i)) (UY 6 (UL 4)) (UR (.int 0)))))) (UN)))))) (UN))))
def V2:zn->zp:=U8 N_bi SS
abbrev Sbe:Stmt:=top 47
noncomputable abbrev N_be:List Str:=["wishes", "aim", "paper", "times", "asks", "prices", "worths"]
def Hbe:NmF Sbe N_be:=KG (by decide +kernel)
def SU:SM:=
 US (Zd (UL 2) (gT 3 (gNC (gN 3) (gNC (gN 4) (gNC (gN 5) (gN0))))))
 (US (U5 6 (UX 2 Xr (UO (UL 0) (UO (UL 1) (UN)))))
 (U3 (U0 Uy (Zb (KJ (UL 6)) 3 (gT 3 (gNC (gN 7) (gNC (gN 8) (gNC (gN 9) (gN0))))) (UQ oEq (UQ U1 (UY 4 (UL 7)) (UY 5 (UL 8))) (UQ Ks (UL 3) (UL 9))) (Kl (UO (UL 7) (UO (UL 8) (UN))))))))
def V4:zn->zp:=U8 N_be SU
abbrev Sbg:Stmt:=top 49
noncomputable abbrev N_bg:List Str:=["dealings", "wanted"]
def Hbg:NmF Sbg N_bg:=KG (by decide +kernel)
def g_bg:SM:=
 U3 (K4 ZC (UO (U0 Uy (Zb (KJ (UL 1)) 2 (gT 2 (gNC (gN 2) (gNC (gN 3) (gN0)))) (UR zk) (K4 Wn (UO (U0 Uy (Zb (KJ (UL 0)) 1 (gN 4) (UR zk) (U0 Uz (UQ oEq (UY 4 (UL 2)) (UL 3))))) (UN))))) (UN)))
def W0:zn->zp:=U8 N_bg g_bg
abbrev Saz:Stmt:=top 40
noncomputable abbrev N_az:List Str:=["wishes", "aim", "dealing", "most"]
def Haz:NmF Saz N_az:=KG (by decide +kernel)
def SX:SM:=
 US (Xz (UX 2 Xu (UO (UL 0) (UO (UL 1) (UN)))))
 (US (U5 3 (UX 1 Wx (UO (UL 0) (UN))))
 (U3 (K4 Tn (UO (U0 Uy (Zb (YG (UO (UL 2) (UN))) 2 (gT 2 (gNC (gN 4) (gNC (gN 5) (gN0)))) (U0 (λd=>!isNon d) (UL 5)) (UX 5 Xs (UO (UL 0) (UO (UL 1) (UO (UL 3) (UO (UL 4) (UO (UL 5) (UN))))))))) (UN)))))
def V7:zn->zp:=U8 N_az SX
abbrev Sbd:Stmt:=top 45
noncomputable abbrev N_bd:List Str:=["wishes", "paper", "times", "asks", "prices"]
def Hbd:NmF Sbd N_bd:=KG (by decide +kernel)
def g_bd:SM:=
 US (Xz (UX 1 ZZ (UO (UL 0) (UN))))
 (US (Zd (UL 1) (gT 3 (gNC (gN 2) (gNC (gN 3) (gNC (gN 4) (gN0))))))
 (U3 (UQ U1 (K4 Tn (UO (UL 3) (UN))) (K4 Tn (UO (U0 Uy (Zb (VF (UO (UL 4) (UO (UY 0 (UR (.int 0))) (UN)))) 2 (gT 2 (gNC (gN 5) (gNC (gN 6) (gN0)))) (UR zk) (UQ Ks (UL 5) (UL 6)))) (UN))))))
def V5:zn->zp:=U8 N_bd g_bd
abbrev Sam:Stmt:=top 23
noncomputable abbrev N_am:List Str:=["thing", "askers"]
def Ham:NmF Sam N_am:=KG (by decide +kernel)
def VE:SM:=
 US (sIf (mOr (KB (Zt (U0 (λd=>.bool (KR d "list")) (UL 0)))) (UQ oNe (K5 0) (UL 1)))
 (U3 (UR (.bool zm)))
 (sNx))
 (U3 (K4 ZC (UO (U0 Uy (Zb (KJ (UL 0)) 1 (gN 2) (UR zk) (Y4 (U0 (λd=>.bool (isNon d)) (UL 2)) (UX 1 Yd (UO (UL 2) (UN)))))) (UN))))
def W3:zn->zp:=U8 N_am VE
abbrev San:Stmt:=top 24
noncomputable abbrev N_an:List Str:=["wishes", "thing", "copies", "lists", "asker", "got", "number", "many"]
def Han:NmF San N_an:=KG (by decide +kernel)
noncomputable def GB:SM:=
 sIf (UQ (oIB λi j=>decide (j<i)) (Tw (UL 1) (UO (UL 6) (UN))) (UL 7))
 (U3 (Kl (UO (UR (.str "copies")) (UO (UL 6) (UN)))))
 (sNx)
def GA:SM:=
 sIf (Zi (U0 (λd=>!isNon d) (UL 5)) (UQ oEq (UX 2 Wy (UO (UY 3 (UL 4)) (UO (UL 5) (UN)))) (UR (.int 0))))
 (U3 (Kl (UO (UR (.str "wish")) (UO (UL 4) (UN)))))
 (sNx)
def Rg:SM:=
 US (Xz (UX 1 ZZ (UO (UL 0) (UN))))
 (US (Zd (UL 0) (gT 2 (gNC (gN 2) (gNC (gN 3) (gN0)))))
 (US (sIf (KB (Zt (UX 2 W3 (UO (UL 1) (UO (K5 3) (UN))))))
 (U3 (Kl (UO (UR (.str "form")) (UN))))
 (sNx))
 (US (Ku (YG (UO (UL 1) (UN))) (gT 2 (gNC (gN 4) (gNC (gN 5) (gN0)))) GA)
 (US (Ku (YG (UO (UL 2) (UN))) (gT 2 (gNC (gN 6) (gNC (gN 7) (gN0)))) GB)
 (U3 (UR .none))))))
def W2:zn->zp:=U8 N_an Rg
abbrev Sbf:Stmt:=top 48
noncomputable abbrev N_bf:List Str:=["wishes", "aim", "paper", "thing"]
def Hbf:NmF Sbf N_bf:=KG (by decide +kernel)
def g_bf:SM:=
 US (sIf (U0 (λd=>!isNon d) (UX 2 W2 (UO (UL 0) (UO (UL 3) (UN)))))
 (U3 (UR (.bool zm)))
 (sNx))
 (U3 (U0 Uz (UQ oEq (UQ Ks (UY 2 (UR (.int 0))) (UX 3 V7 (UO (UL 0) (UO (UL 1) (UO (UL 3) (UN)))))) (UX 2 V5 (UO (UL 0) (UO (UL 2) (UN)))))))
def X0:zn->zp:=U8 N_bf g_bf
abbrev Sab:Stmt:=top 2
noncomputable abbrev N_ab:List Str:=["thing"]
def Hab:NmF Sab N_ab:=KG (by decide +kernel)
def g_ab:SM:=
 U3 (WD (UX 1 Yd (UO (UL 0) (UN))) (U0 Uz (Zj (oIB λi j=>decide (j<=i)) 0 (UR (.int 0)))))
def W5:zn->zp:=U8 N_ab g_ab
abbrev Sac:Stmt:=top 3
noncomputable abbrev N_ac:List Str:=["things", "many"]
def Hac:NmF Sac N_ac:=KG (by decide +kernel)
def g_ac:SM:=
 U3 (WD (U0 Uz (UQ oEq (K5 0) (UL 1))) (K4 ZC (UO (U0 Uy (Zb (KJ (UL 0)) 1 (gN 2) (UR zk) (UX 1 W5 (UO (UL 2) (UN))))) (UN))))
def Ti:zn->zp:=U8 N_ac g_ac
abbrev Sba:Stmt:=top 42
noncomputable abbrev N_ba:List Str:=["thing", "many"]
def Hba:NmF Sba N_ba:=KG (by decide +kernel)
def g_ba:SM:=
 U3 (WD (U0 (λd=>.bool (KR d "list")) (UL 0)) (UX 2 Ti (UO (UL 0) (UO (UL 1) (UN)))))
def X1:zn->zp:=U8 N_ba g_ba
abbrev Sbb:Stmt:=top 43
noncomputable abbrev N_bb:List Str:=["wishes", "thing", "copies", "lists", "times", "asks", "prices"]
def Hbb:NmF Sbb N_bb:=KG (by decide +kernel)
def SW:SM:=
 US (sIf (mOr (KB (Zt (U0 (λd=>.bool (KR d "tuple")) (UL 1)))) (UQ oNe (K5 1) (UR (.int 3))))
 (U3 (UR (.bool zm)))
 (sNx))
 (US (Zd (UL 0) (gT 2 (gNC (gN 2) (gNC (gN 3) (gN0)))))
 (US (Zd (UL 1) (gT 3 (gNC (gN 4) (gNC (gN 5) (gNC (gN 6) (gN0))))))
 (US (sIf (mOr (KB (Zt (UX 1 Yd (UO (UL 4) (UN))))) (Zj (oIB λi j=>decide (i<j)) 4 (UR (.int 1))))
 (U3 (UR (.bool zm)))
 (sNx))
 (U3 (WD (UX 2 X1 (UO (UL 5) (UO (K5 3) (UN)))) (UX 2 X1 (UO (UL 6) (UO (K5 2) (UN)))))))))
def V6:zn->zp:=U8 N_bb SW
abbrev Sbc:Stmt:=top 44
noncomputable abbrev N_bc:List Str:=["wishes", "aim", "thing", "worths", "times", "asks", "prices"]
def Hbc:NmF Sbc N_bc:=KG (by decide +kernel)
def SV:SM:=
 US (U5 3 (UX 2 Xr (UO (UL 0) (UO (UL 1) (UN)))))
 (US (sIf (KB (Zt (UX 2 V6 (UO (UL 0) (UO (UL 2) (UN))))))
 (U3 (UR (.bool zm)))
 (sNx))
 (US (Zd (UL 2) (gT 3 (gNC (gN 4) (gNC (gN 5) (gNC (gN 6) (gN0))))))
 (U3 (K4 ZC (UO (U0 Uy (Zb (KJ (UL 3)) 3 (gT 3 (gNC (gN 7) (gNC (gN 8) (gNC (gN 9) (gN0))))) (UR zk) (U0 Uz (UQ (oIB λi j=>decide (j<=i)) (UQ U1 (UY 5 (UL 7)) (UY 6 (UL 8))) (UQ Ks (UL 4) (UL 9)))))) (UN))))))
def W1:zn->zp:=U8 N_bc SV
abbrev Sbj:Stmt:=top 52
noncomputable abbrev N_bj:List Str:=["wishes", "aim", "thing", "paper", "dealings", "times", "asks", "prices"]
def Hbj:NmF Sbj N_bj:=KG (by decide +kernel)
def SR:SM:=
 US (Xz (UX 2 Xu (UO (UL 0) (UO (UL 1) (UN)))))
 (US (sIf (mOr (KB (Zt (U0 (λd=>.bool (KR d "tuple")) (UL 2)))) (UQ oNe (K5 2) (UR (.int 2))))
 (U3 (UR (.bool zm)))
 (sNx))
 (US (Zd (UL 2) (gT 2 (gNC (gN 3) (gNC (gN 4) (gN0)))))
 (US (sIf (mOr (KB (Zt (UX 3 W1 (UO (UL 0) (UO (UL 1) (UO (UL 3) (UN))))))) (mOr (KB (Zt (U0 (λd=>.bool (KR d "list")) (UL 4)))) (UQ oEq (K5 4) (UR (.int 0)))))
 (U3 (UR (.bool zm)))
 (sNx))
 (US (sIf (KB (Zt (K4 ZC (UO (U0 Uy (Zb (KJ (UL 4)) 1 (gN 8) (UR zk) (UX 4 X0 (UO (UL 0) (UO (UL 1) (UO (UL 3) (UO (UL 8) (UN)))))))) (UN)))))
 (U3 (UR (.bool zm)))
 (sNx))
 (US (Zd (UL 3) (gT 3 (gNC (gN 5) (gNC (gN 6) (gNC (gN 7) (gN0))))))
 (US (sIf (KB (Zt (UX 2 W0 (UO (UL 4) (UO (UX 3 V4 (UO (UL 0) (UO (UL 1) (UO (UL 3) (UN))))) (UN))))))
 (U3 (UR (.bool zm)))
 (sNx))
 (U3 (WD (UX 2 V3 (UO (UL 4) (UO (UL 6) (UN)))) (UX 3 V2 (UO (UL 0) (UO (UL 4) (UO (UL 7) (UN)))))))))))))
def Xq:zn->zp:=U8 N_bj SR
abbrev Sch:Stmt:=top 81
noncomputable abbrev N_ch:List Str:=["_law_wishes_here", "_law_asker", "_law_thing", "_law_k", "_law_row"]
def Hch:NmF Sch N_ch:=KG (by decide +kernel)
noncomputable def A5:SM:=
 sIf (Zj oIn 2 (UL 4))
 (U3 (UQ U1 (UL 3) (UR (.int 1))))
 (sNx)
def g_ch:SM:=
 US (Ku (YG (UO (UQ oIx (UY 0 (UR (.int 1))) (UL 1)) (UN))) (gT 2 (gNC (gN 3) (gNC (gN 4) (gN0)))) A5)
 (U3 (UR (.int 0)))
def VN:zn->zp:=U8 N_ch g_ch
abbrev Sci:Stmt:=top 82
noncomputable abbrev N_ci:List Str:=["_law_wishes_here"]
def Hci:NmF Sci N_ci:=KG (by decide +kernel)
def g_ci:SM:=
 U3 (K4 Tp (UO (U0 Uy (Zb (KJ (UY 0 (UR (.int 1)))) 1 (gN 1) (UR zk) (K5 1))) (UN)))
def VM:zn->zp:=U8 N_ci g_ci
abbrev Scl:Stmt:=top 85
noncomputable abbrev N_cl:List Str:=["_law_wishes_here", "_law_aim_here", "_law_asker", "_law_thing", "_law_order", "_law_old", "_law_turns", "_law_base", "_law_ranks", "_law_rank_here", "_law_powers", "_law_k", "_law_worth_here", "_law_pick", "_law_one"]
def Hcl:NmF Scl N_cl:=KG (by decide +kernel)
noncomputable def OH:SM:=
 US (U5 12 (UQ Ks (UL 12) (UQ U1 (UL 8) (UR (.int 1)))))
 (US (U5 13 (UQ Ks (UL 13) (UQ U1 (UL 8) (UR (.int 1)))))
 (sIf (Zj oEq 14 (UL 2))
 (U5 13 (UQ K0 (UQ U1 (UQ U1 (UL 13) (UL 8)) (UR (.int 1))) (UL 9)))
 (sNx)))
def Gz:SM:=
 ZG 10 (UQ Ks (UY 10 (ZH (UR (.int 1)))) (UL 7))
def Su:SM:=
 US (Zd (UL 1) (gT 3 (gNC (gN 4) (gNC (gN 5) (gNC (gN 6) (gN0))))))
 (US (U5 7 (UQ U1 (K4 Ki (UO (UY 0 (UR (.int 1))) (UN))) (UR (.int 1))))
 (US (U5 8 (UX 1 VM (UO (UL 0) (UN))))
 (US (U5 9 (UX 3 VN (UO (UL 0) (UO (UL 2) (UO (UL 3) (UN))))))
 (US (Zc 10 (Kd (UO (UR (.int 1)) (UN)) λxs=>if xs.length<=1000000 then UR xs else λ_=>.bad))
 (US (Ku (Xw (UO (UL 8) (UN))) (gN 11) Gz)
 (US (U5 12 (UY 10 (UQ K0 (UL 8) (UL 9))))
 (US (sIf (Zj oEq 4 (UR (.str "full")))
 (U5 12 (UQ U1 (UL 12) (UY 10 (UL 8))))
 (sNx))
 (US (sIf (Zj oEq 4 (UR (.str "lasts")))
 (U5 12 (UQ K0 (UY 10 (UL 8)) (UY 10 (UQ K0 (UL 9) (UR (.int 1))))))
 (sNx))
 (US (U5 12 (UQ Ks (UL 12) (UL 7)))
 (US (sIf (Zi (U0 (λd=>!isNon d) (UL 5)) (UQ oEq (UY 5 (UL 2)) (UL 3)))
 (U5 12 (UQ U1 (UL 12) (UR (.int 1))))
 (sNx))
 (US (U5 13 (UR (.int 0)))
 (US (Ku (KJ (UL 6)) (gN 14) OH)
 (U3 (UQ U1 (UL 12) (UL 13)))))))))))))))
def Ws:zn->zp:=U8 N_cl Su
abbrev Scm:Stmt:=top 86
noncomputable abbrev N_cm:List Str:=["_law_wishes_here", "_law_aim_here", "_law_dealing", "_law_total", "_law_asker", "_law_thing"]
def Hcm:NmF Scm N_cm:=KG (by decide +kernel)
def Gy:SM:=
 sIf (U0 (λd=>!isNon d) (UL 5))
 (U5 3 (UQ U1 (UL 3) (UX 4 Ws (UO (UL 0) (UO (UL 1) (UO (UL 4) (UO (UL 5) (UN))))))))
 (sNx)
def Ss:SM:=
 US (U5 3 (UR (.int 0)))
 (US (Ku (YG (UO (UL 2) (UN))) (gT 2 (gNC (gN 4) (gNC (gN 5) (gN0)))) Gy)
 (U3 (UL 3)))
def XX:zn->zp:=U8 N_cm Ss
abbrev Scs:Stmt:=top 92
noncomputable abbrev N_cs:List Str:=["_law_wishes_here", "_law_paper", "_law_tight_here", "_law_dealing", "_law_asker", "_law_what"]
def Hcs:NmF Scs N_cs:=KG (by decide +kernel)
def Gx:SM:=
 sIf (Zi (UQ (oIB λi j=>decide (j<i)) (UQ oIx (UY 1 (UR (.int 2))) (UL 5)) (UR (.int 0))) (UQ (oIB λi j=>decide (i<j)) (Tw (UL 3) (UO (UL 5) (UN))) (UQ oIx (UY 0 (UR (.int 0))) (UL 5))))
 (U3 (UR (.bool zm)))
 (sNx)
def Gw:SM:=
 sIf (mOr (Zi (U0 (λd=>!isNon d) (UL 5)) (UQ ZW (Kl (UO (UL 4) (UO (UL 5) (UN)))) (UL 2))) (Zi (U0 isNon (UL 5)) (UQ (oIB λi j=>decide (j<i)) (UQ oIx (UY 1 (UR (.int 1))) (UL 4)) (UR (.int 0)))))
 (U3 (UR (.bool zm)))
 (sNx)
def Sk:SM:=
 US (Ku (YG (UO (UL 3) (UN))) (gT 2 (gNC (gN 4) (gNC (gN 5) (gN0)))) Gw)
 (US (Ku (Xw (UO (K4 Ki (UO (UY 0 (UR (.int 0))) (UN))) (UN))) (gN 5) Gx)
 (U3 (UR (.bool zk))))
def WU:zn->zp:=U8 N_cs Sk
abbrev Scj:Stmt:=top 83
noncomputable abbrev N_cj:List Str:=["_law_wishes_here", "_law_asker"]
def Hcj:NmF Scj N_cj:=KG (by decide +kernel)
def g_cj:SM:=
 U3 (K4 TV (UO (K4 Rr (UO (UQ oIx (UY 0 (UR (.int 1))) (UL 1)) (UO (Kh (UN)) (UN)))) (UN)))
def Wt:zn->zp:=U8 N_cj g_cj
abbrev Sco:Stmt:=top 88
noncomputable abbrev N_co:List Str:=["_law_wishes_here", "_law_aim_here", "_law_paper", "_law_found", "_law_asker", "_law_what"]
def Hco:NmF Sco N_co:=KG (by decide +kernel)
def HJ:SM:=
 sIf (UQ oEq (UQ U1 (UQ oIx (UY 2 (UR (.int 1))) (UL 4)) (UQ oIx (UY 2 (UR (.int 2))) (UL 5))) (UQ Ks (UY 2 (UR (.int 0))) (UX 4 Ws (UO (UL 0) (UO (UL 1) (UO (UL 4) (UO (UL 5) (UN))))))))
 (ZG 3 (Kl (UO (UL 4) (UO (UL 5) (UN)))))
 (sNx)
def HI:SM:=
 Ku (KJ (UX 2 Wt (UO (UL 0) (UO (UL 4) (UN))))) (gN 5) HJ
def Sq:SM:=
 US (Zc 3 (Kd (UN) λxs=>if xs.length<=1000000 then UR xs else λ_=>.bad))
 (US (Ku (Xw (UO (K4 Ki (UO (UY 0 (UR (.int 1))) (UN))) (UN))) (gN 4) HI)
 (U3 (UL 3)))
def VJ:zn->zp:=U8 N_co Sq
abbrev Sct:Stmt:=top 93
noncomputable abbrev N_ct:List Str:=["_law_wishes_here", "_law_aim_here", "_law_some", "_law_worths", "_law_web", "_law_tight_here", "_law_most", "_law_dealing", "_law_worth_here"]
def Hct:NmF Sct N_ct:=KG (by decide +kernel)
def HH:SM:=
 sIf (mOr (Zj ZW 7 (UL 2)) (UQ oNe (UX 3 XX (UO (UL 0) (UO (UL 1) (UO (UL 7) (UN))))) (UL 6)))
 (U3 (UR (.bool zm)))
 (sNx)
def HG:SM:=
 sIf (UQ oNe (UX 4 WU (UO (UL 0) (UO (UY 4 (UR (.int 0))) (UO (UL 5) (UO (UL 7) (UN)))))) (U0 Uz (Zj oEq 8 (UL 6))))
 (U3 (UR (.bool zm)))
 (sNx)
def Sj:SM:=
 US (U5 5 (UX 3 VJ (UO (UL 0) (UO (UL 1) (UO (UY 4 (UR (.int 0))) (UN))))))
 (US (U5 6 (K4 Tp (UO (UL 3) (UN))))
 (US (Ku (VF (UO (UL 2) (UO (UL 3) (UN)))) (gT 2 (gNC (gN 7) (gNC (gN 8) (gN0)))) HG)
 (US (Ku (KJ (UY 4 (UR (.int 1)))) (gN 7) HH)
 (U3 (UR (.bool zk))))))
def XV:zn->zp:=U8 N_ct Sj
abbrev Sce:Stmt:=top 78
noncomputable abbrev N_ce:List Str:=["_law_script", "_law_k"]
def Hce:NmF Sce N_ce:=KG (by decide +kernel)
def g_ce:SM:=
 US (sIf (Zj (oIB λi j=>decide (i<j)) 1 (K5 0))
 (U3 (UY 0 (UL 1)))
 (sNx))
 (U3 (UR (.int 0)))
def Y9:zn->zp:=U8 N_ce g_ce
abbrev Scf:Stmt:=top 79
noncomputable abbrev N_cf:List Str:=["_law_cell", "_law_salt", "_law_sizes", "_law_number", "_law_left", "_law_found", "_law_k", "_law_one"]
def Hcf:NmF Scf N_cf:=KG (by decide +kernel)
def Mj:SM:=
 sIf (Zi (Zj (oIB λi j=>decide (j<=i)) 3 (UQ VA (UR (.int 10)) (UR (.int 18)))) (Zj (oIB λi j=>decide (j<i)) 4 (UR (.int 0))))
 (US (ZG 5 (UQ Zy (UL 4) (UY 2 (UL 6))))
 (U5 4 (UQ WR (UL 4) (UY 2 (UL 6)))))
 (US (U5 7 (UQ Zy (UQ U1 (UQ U1 (UQ U1 (UL 3) (UQ Ks (UR (.int 7919)) (UL 1))) (UQ Ks (UQ Ks (UR (.int 101)) (UL 6)) (UL 6))) (UL 6)) (UR (.int 2147483647))))
 (US (U5 7 (UQ Zy (UQ Ks (UL 7) (UR (.int 48271))) (UR (.int 2147483647))))
 (US (U5 7 (UQ Zy (UQ Ks (UQ Zy (UQ Ks (UL 7) (UL 7)) (UR (.int 2147483629))) (UR (.int 48271))) (UR (.int 2147483647))))
 (ZG 5 (UQ Zy (UQ WR (UL 7) (UR (.int 16))) (UY 2 (UL 6)))))))
def g_cf:SM:=
 US (U5 3 (K4 Rt (UO (UL 0) (UO (UQ K0 (ZH (UR (.int 1))) (UL 0)) (UN)))))
 (US (U5 4 (UL 3))
 (US (Zc 5 (Kd (UN) λxs=>if xs.length<=1000000 then UR xs else λ_=>.bad))
 (US (Ku (Xw (UO (K5 2) (UN))) (gN 6) Mj)
 (U3 (UL 5)))))
def Y8:zn->zp:=U8 N_cf g_cf
abbrev Sck:Stmt:=top 84
noncomputable abbrev N_ck:List Str:=["_law_wishes_here", "_law_cell", "_law_salt", "_law_askers", "_law_digits", "_law_old", "_law_turns", "_law_digit"]
def Hck:NmF Sck N_ck:=KG (by decide +kernel)
noncomputable def Mi:SM:=
 U5 7 (UQ Zy (UQ U1 (UL 7) (UR (.int 1))) (UL 3))
noncomputable def HF:SM:=
 US (Wa (RB oIn (UL 7) 6) Mi 1000)
 (ZG 6 (UL 7))
def Sv:SM:=
 US (U5 3 (K4 Ki (UO (UY 0 (UR (.int 1))) (UN))))
 (US (U5 4 (UX 3 Y8 (UO (UL 1) (UO (UL 2) (UO (UQ U1 (UQ U1 (Kh (UO (UR (.int 3)) (UO (UR (.int 2)) (UO (UQ U1 (UL 3) (UR (.int 1))) (UN))))) (UQ Ks (Kh (UO (UQ U1 (K4 Ki (UO (UY 0 (UR (.int 0))) (UN))) (UR (.int 1))) (UN))) (UL 3))) (UQ Ks (Kh (UO (UL 3) (UN))) (UL 3))) (UN))))))
 (US (U5 5 (UR .none))
 (US (sIf (UQ oEq (UY 4 (UR (.int 1))) (UR (.int 1)))
 (Zc 5 (Zb (KJ (KS (UL 4) (Kd (UR (.int 3)) λx=>Ka (Zo x)) (Kd (UQ U1 (UR (.int 3)) (UL 3)) λx=>Ka (Zo x)))) 1 (gN 8) (UR zk) (UQ oIx (Kh (UO (UR .none) (UO (UQ K0 (UL 8) (UR (.int 1))) (UN)))) (K4 Pr (UO (U0 Uz (Zj (oIB λi j=>decide (j<i)) 8 (UR (.int 0)))) (UN))))))
 (sNx))
 (US (Zc 6 (Kd (UN) λxs=>if xs.length<=1000000 then UR xs else λ_=>.bad))
 (US (Ku (KJ (KS (UL 4) (Kd (UQ U1 (UR (.int 3)) (UL 3)) λx=>Ka (Zo x)) (Kd (UQ U1 (UQ U1 (UR (.int 3)) (UL 3)) (UY 4 (UR (.int 2)))) λx=>Ka (Zo x)))) (gN 7) HF)
 (U3 (Kl (UO (UQ oIx (Kh (UO (UR (.str "firsts")) (UO (UR (.str "full")) (UO (UR (.str "lasts")) (UN))))) (UY 4 (UR (.int 0)))) (UO (UL 5) (UO (UL 6) (UN)))))))))))
def WW:zn->zp:=U8 N_ck Sv
abbrev Scq:Stmt:=top 90
noncomputable abbrev N_cq:List Str:=["_law_some", "_law_digits", "_law_at", "_law_asker", "_law_what", "_law_one", "_law_other", "_law_things"]
def Hcq:NmF Scq N_cq:=KG (by decide +kernel)
def Sn:SM:=
 US (U5 2 (UQ Zy (UY 1 (UR (.int 0))) (K5 0)))
 (US (U5 3 (UQ Zy (UY 1 (UR (.int 1))) (K4 Ki (UO (UY 0 (UR (.int 0))) (UN)))))
 (US (U5 4 (UQ oIx (Kh (UO (UR .none) (UO (UR (.int 0)) (UO (UR (.int 1)) (UO (UR (.int 2)) (UO (UQ Zy (UY 1 (UR (.int 1))) (UR (.int 7))) (UO (UR (.bool zk)) (UO (ZH (UR (.int 1))) (UO (UR (.str "0")) (UN)))))))))) (UQ Zy (UY 1 (UR (.int 3))) (UR (.int 8)))))
 (US (U5 5 (UY 0 (UL 2)))
 (US (U5 6 (UQ U1 (UQ U1 (KS (UL 5) (UR zj) (Kd (UL 3) λx=>Ka (Zo x))) (Kh (UO (UL 4) (UN)))) (KS (UL 5) (Kd (UQ U1 (UL 3) (UR (.int 1))) λx=>Ka (Zo x)) (UR zj))))
 (US (Zc 7 (Kd (UO (UQ U1 (UQ U1 (KS (UL 0) (UR zj) (Kd (UL 2) λx=>Ka (Zo x))) (Kh (UO (UL 6) (UN)))) (KS (UL 0) (Kd (UQ U1 (UL 2) (UR (.int 1))) λx=>Ka (Zo x)) (UR zj))) (UO (UQ U1 (KS (UL 0) (UR zj) (Kd (UL 2) λx=>Ka (Zo x))) (KS (UL 0) (Kd (UQ U1 (UL 2) (UR (.int 1))) λx=>Ka (Zo x)) (UR zj))) (UO (UQ U1 (UL 0) (Kh (UO (UL 6) (UN)))) (UN)))) λxs=>if xs.length<=1000000 then UR xs else λ_=>.bad))
 (US (U5 7 (UQ U1 (UL 7) (Kh (UO (UQ U1 (UL 0) (Kh (UO (UL 5) (UN)))) (UO (XN (UL 0) (UR zj) (UR zj) (Kd (ZH (UR (.int 1))) λx=>Ka (Zo x))) (UN))))))
 (US (U5 7 (UQ U1 (UL 7) (Kh (UO (Kh (UN)) (UO (Kh (UO (UL 5) (UN))) (UO (KS (UL 0) (Kd (UL 2) λx=>Ka (Zo x)) (UR zj)) (UO (K4 Tl (UO (UL 0) (UN))) (UO (UR .none) (UO (UQ U1 (UL 0) (Kh (UO (UR .none) (UN)))) (UO (UQ U1 (Kh (UO (K4 Tl (UO (UL 5) (UN))) (UN))) (UL 0)) (UO (KS (UL 0) (UR zj) (Kd (UQ U1 (UL 2) (UR (.int 1))) λx=>Ka (Zo x))) (UN))))))))))))
 (U3 (UY 7 (UQ Zy (UY 1 (UR (.int 2))) (K5 7)))))))))))
def WV:zn->zp:=U8 N_cq Sn
abbrev Scp:Stmt:=top 89
noncomputable abbrev N_cp:List Str:=["_law_paper", "_law_digits", "_law_times", "_law_asks", "_law_prices", "_law_row", "_law_at", "_law_more", "_law_changed_row", "_law_many", "_law_some", "_law_odd"]
def Hcp:NmF Scp N_cp:=KG (by decide +kernel)
def So:SM:=
 US (Zd (UL 0) (gT 3 (gNC (gN 2) (gNC (gN 3) (gNC (gN 4) (gN0))))))
 (US (U5 5 (UQ U1 (UL 3) (UL 4)))
 (US (U5 6 (UQ Zy (UY 1 (UR (.int 0))) (K5 5)))
 (US (U5 7 (UQ oIx (Kh (UO (UR (.int 1)) (UO (ZH (UR (.int 1))) (UO (UR (.int 2)) (UO (UL 2) (UO (UR (.int 7)) (UO (UQ K0 (UR (.int 0)) (UY 5 (UL 6))) (UN)))))))) (UQ Zy (UY 1 (UR (.int 1))) (UR (.int 6)))))
 (US (U5 8 (UQ U1 (UQ U1 (KS (UL 5) (UR zj) (Kd (UL 6) λx=>Ka (Zo x))) (Kh (UO (UQ U1 (UY 5 (UL 6)) (UL 7)) (UN)))) (KS (UL 5) (Kd (UQ U1 (UL 6) (UR (.int 1))) λx=>Ka (Zo x)) (UR zj))))
 (US (U5 9 (K5 3))
 (US (Zc 10 (TU (Kh (UO (Kl (UO (UL 2) (UO (KS (UL 8) (UR zj) (Kd (UL 9) λx=>Ka (Zo x))) (UO (KS (UL 8) (Kd (UL 9) λx=>Ka (Zo x)) (UR zj)) (UN))))) (UN))) (UR (.int 4))))
 (US (Zc 10 (XQ (UL 10) (Kh (UO (Kl (UO (UQ Ks (UR (.int 2)) (UL 2)) (UO (U0 Uy (Zb (KJ (UL 3)) 1 (gN 12) (UR zk) (UQ Ks (UR (.int 2)) (UL 12)))) (UO (U0 Uy (Zb (KJ (UL 4)) 1 (gN 12) (UR zk) (UQ Ks (UR (.int 2)) (UL 12)))) (UN))))) (UO (Kl (UO (UQ Ks (UR (.int 2)) (UL 2)) (UO (UL 3) (UO (UL 4) (UN))))) (UN))))))
 (US (Zc 10 (XQ (UL 10) (Kh (UO (Kl (UO (UL 2) (UO (UL 4) (UO (UL 3) (UN))))) (UO (Kl (UO (UL 2) (UO (XN (UL 3) (UR zj) (UR zj) (Kd (ZH (UR (.int 1))) λx=>Ka (Zo x))) (UO (XN (UL 4) (UR zj) (UR zj) (Kd (ZH (UR (.int 1))) λx=>Ka (Zo x))) (UN))))) (UO (Kl (UO (UR (.bool zk)) (UO (UL 3) (UO (UL 4) (UN))))) (UO (Kl (UO (UR (.int 0)) (UO (UL 3) (UO (UL 4) (UN))))) (UN))))))))
 (US (Zc 10 (XQ (UL 10) (Kh (UO (Kl (UO (UL 2) (UO (K4 Tl (UO (UL 3) (UN))) (UO (UL 4) (UN))))) (UO (Kl (UO (UL 2) (UO (UQ U1 (UL 3) (Kh (UO (UR (.int 0)) (UN)))) (UO (UL 4) (UN))))) (UN))))))
 (US (U5 11 (UQ U1 (UQ U1 (KS (UL 5) (UR zj) (Kd (UL 6) λx=>Ka (Zo x))) (Kh (UO (UQ oIx (Kh (UO (UR (.bool zk)) (UO (UR .none) (UO (UR (.str "0")) (UO (Kh (UO (UR (.int 0)) (UN))) (UN)))))) (UQ Zy (UY 1 (UR (.int 1))) (UR (.int 4)))) (UN)))) (KS (UL 5) (Kd (UQ U1 (UL 6) (UR (.int 1))) λx=>Ka (Zo x)) (UR zj))))
 (US (Zc 10 (XQ (UL 10) (Kh (UO (Kl (UO (UL 2) (UO (KS (UL 11) (UR zj) (Kd (UL 9) λx=>Ka (Zo x))) (UO (KS (UL 11) (Kd (UL 9) λx=>Ka (Zo x)) (UR zj)) (UN))))) (UO (Kl (UO (UL 2) (UO (UL 3) (UO (KS (UL 4) (Kd (UR (.int 1)) λx=>Ka (Zo x)) (UR zj)) (UN))))) (UO (UR .none) (UO (UL 0) (UN))))))))
 (US (ZG 10 (Kl (UO (UL 2) (UO (U0 Uy (Zb (KJ (UL 3)) 1 (gN 12) (UR zk) (UQ U1 (UL 12) (UL 2)))) (UO (U0 Uy (Zb (KJ (UL 4)) 1 (gN 12) (UR zk) (K4 Rt (UO (UR (.int 0)) (UO (UQ K0 (UL 12) (UL 2)) (UN)))))) (UN))))))
 (U3 (UY 10 (UQ Zy (UY 1 (UR (.int 2))) (K5 10))))))))))))))))
def Wr:zn->zp:=U8 N_cp So
abbrev Scr:Stmt:=top 91
noncomputable abbrev N_cr:List Str:=["_law_web", "_law_digits", "_law_paper", "_law_some", "_law_things"]
def Hcr:NmF Scr N_cr:=KG (by decide +kernel)
def Sm:SM:=
 US (Zd (UL 0) (gT 2 (gNC (gN 2) (gNC (gN 3) (gN0)))))
 (US (U5 4 (UQ U1 (UQ Ks (Kh (UO (Kl (UO (UX 2 Wr (UO (UL 2) (UO (UL 1) (UN)))) (UO (UL 3) (UN)))) (UN))) (UR (.int 5))) (UQ Ks (Kh (UO (Kl (UO (UL 2) (UO (UX 2 WV (UO (UL 3) (UO (UL 1) (UN)))) (UN)))) (UN))) (UR (.int 6)))))
 (US (U5 4 (UQ U1 (UL 4) (Kh (UO (Kl (UO (UX 2 Wr (UO (UL 2) (UO (UL 1) (UN)))) (UO (UX 2 WV (UO (UL 3) (UO (XN (UL 1) (UR zj) (UR zj) (Kd (ZH (UR (.int 1))) λx=>Ka (Zo x))) (UN)))) (UN)))) (UO (Kh (UO (UL 2) (UO (UL 3) (UN)))) (UO (UL 0) (UN)))))))
 (US (U5 4 (UQ U1 (UL 4) (Kh (UO (Kl (UO (UL 3) (UO (UL 2) (UN)))) (UO (Kl (UO (UL 2) (UN))) (UO (Kl (UO (UL 2) (UO (UL 3) (UO (UR (.int 0)) (UN))))) (UO (UR .none) (UO (UL 2) (UN)))))))))
 (U3 (UY 4 (UQ Zy (UY 1 (UR (.int 4))) (K5 4)))))))
def VI:zn->zp:=U8 N_cr Sm
abbrev Scn:Stmt:=top 87
noncomputable abbrev N_cn:List Str:=["_law_wishes_here", "_law_found", "_law_asker", "_law_longer", "_law_dealing", "_law_thing"]
def Hcn:NmF Scn N_cn:=KG (by decide +kernel)
def HE:SM:=
 sIf (mOr (U0 isNon (UL 5)) (UQ (oIB λi j=>decide (i<j)) (Tw (UL 4) (UO (UL 5) (UN))) (UQ oIx (UY 0 (UR (.int 0))) (UL 5))))
 (ZG 3 (UQ U1 (UL 4) (Kh (UO (UL 5) (UN)))))
 (sNx)
def HD:SM:=
 Ku (KJ (UQ U1 (Kh (UO (UR .none) (UN))) (UX 2 Wt (UO (UL 0) (UO (UL 2) (UN)))))) (gN 5) HE
def HC:SM:=
 US (Zc 3 (Kd (UN) λxs=>if xs.length<=1000000 then UR xs else λ_=>.bad))
 (US (Ku (KJ (UL 1)) (gN 4) HD)
 (U5 1 (UL 3)))
def Sr:SM:=
 US (Zc 1 (Kd (UO (Kh (UN)) (UN)) λxs=>if xs.length<=1000000 then UR xs else λ_=>.bad))
 (US (Ku (Xw (UO (K4 Ki (UO (UY 0 (UR (.int 1))) (UN))) (UN))) (gN 2) HC)
 (U3 (UL 1)))
def VL:zn->zp:=U8 N_cn Sr
abbrev Scg:Stmt:=top 80
noncomputable abbrev N_cg:List Str:=["_law_script", "_law_at", "_law_most_things", "_law_most_askers", "_law_most_ranks", "_law_digits", "_law_copies", "_law_lists", "_law_asker", "_law_cell", "_law_places", "_law_ranks", "_law_rank_here", "_law_row"]
def Hcg:NmF Scg N_cg:=KG (by decide +kernel)
def Mh:SM:=
 US (Zc 13 (Zb (Xw (UO (K5 6) (UN))) 1 (gN 14) (UQ oEq (UY 10 (UL 14)) (UL 12)) (UL 14)))
 (sIf (Zj oNe 13 (Kh (UN)))
 (ZG 11 (UQ oIx (Kh (UO (UL 13) (UO (XN (UL 13) (UR zj) (UR zj) (Kd (ZH (UR (.int 1))) λx=>Ka (Zo x))) (UN)))) (UY 10 (ZH (UR (.int 1))))))
 (sNx))
def Mg:SM:=
 US (U5 9 (UX 2 Y9 (UO (UL 0) (UO (UQ U1 (UQ U1 (UL 1) (UR (.int 1))) (UL 8)) (UN)))))
 (US (U5 10 (UX 3 Y8 (UO (UL 9) (UO (UQ U1 (UQ U1 (UQ Ks (UR (.int 11)) (UL 1)) (UQ Ks (UR (.int 3)) (UL 8))) (UR (.int 1))) (UO (UQ U1 (UQ Ks (Kh (UO (UQ U1 (UL 4) (UR (.int 1))) (UN))) (UL 2)) (Kh (UO (UR (.int 2)) (UN)))) (UN))))))
 (US (Zc 11 (Kd (UN) λxs=>if xs.length<=1000000 then UR xs else λ_=>.bad))
 (US (Ku (Nn (UO (UR (.int 1)) (UO (UQ U1 (UL 4) (UR (.int 1))) (UN)))) (gN 12) Mh)
 (ZG 7 (UL 11)))))
def Sw:SM:=
 US (U5 5 (UX 3 Y8 (UO (UX 2 Y9 (UO (UL 0) (UO (UL 1) (UN)))) (UO (UL 1) (UO (UQ U1 (Kh (UO (UL 2) (UO (UL 3) (UN)))) (UQ Ks (Kh (UO (UR (.int 11)) (UN))) (UL 2))) (UN))))))
 (US (Zc 6 (Zb (KJ (KS (UL 5) (Kd (UR (.int 2)) λx=>Ka (Zo x)) (Kd (UQ U1 (UR (.int 3)) (UY 5 (UR (.int 0)))) λx=>Ka (Zo x)))) 1 (gN 14) (UR zk) (UQ oIx (Kh (UO (UR (.int 1)) (UO (UR (.int 1)) (UO (UR (.int 2)) (UO (UR (.int 0)) (UO (UR (.int 3)) (UO (UR (.int 7)) (UO (UR (.int 1)) (UO (UR (.int 4)) (UO (UR (.int 5)) (UO (UR (.int 6)) (UO (UR (.int 1)) (UN))))))))))))) (UL 14))))
 (US (Zc 7 (Kd (UN) λxs=>if xs.length<=1000000 then UR xs else λ_=>.bad))
 (US (Ku (Xw (UO (UQ U1 (UR (.int 1)) (UY 5 (UR (.int 1)))) (UN))) (gN 8) Mg)
 (U3 (Kl (UO (UL 6) (UO (UL 7) (UN))))))))
def VO:zn->zp:=U8 N_cg Sw
abbrev Scu:Stmt:=top 94
noncomputable abbrev N_cu:List Str:=["_law_script", "_law_wishes_here", "_law_aim_here", "_law_some", "_law_worths", "_law_web", "_law_k", "_law_cell", "_law_thing", "_law_other", "_law_more", "_law_fewer"]
def Hcu:NmF Scu N_cu:=KG (by decide +kernel)
def HB:SM:=
 sIf (Zi (Zt (UX 3 Xq (UO (UL 1) (UO (UL 2) (UO (UL 8) (UN)))))) (KB (Zt (UX 5 XV (UO (UL 1) (UO (UL 2) (UO (UL 3) (UO (UL 4) (UO (UL 8) (UN))))))))))
 (U3 (UR (.bool zm)))
 (sNx)
def HA:SM:=
 US (U5 8 (UX 2 VI (UO (UL 5) (UO (UX 3 Y8 (UO (UL 7) (UO (UQ U1 (UR (.int 20)) (UL 6)) (UO (Kh (UO (UR (.int 53)) (UO (UR (.int 61)) (UO (UR (.int 17)) (UO (UR (.int 59)) (UO (UR (.int 19)) (UN))))))) (UN))))) (UN)))))
 (sIf (Zi (Zj oNe 8 (UL 5)) (Zt (UX 3 Xq (UO (UL 1) (UO (UL 2) (UO (UL 8) (UN)))))))
 (sIf (KB (Zt (UX 5 XV (UO (UL 1) (UO (UL 2) (UO (UL 3) (UO (UL 4) (UO (UL 8) (UN)))))))))
 (U3 (UR (.bool zm)))
 (sNx))
 (sNx))
def Sh:SM:=
 US (U5 1 (UX 5 VO (UO (UL 0) (UO (UR (.int 0)) (UO (UR (.int 3)) (UO (UR (.int 4)) (UO (UR (.int 3)) (UN))))))))
 (US (U5 2 (UX 3 WW (UO (UL 1) (UO (UX 2 Y9 (UO (UL 0) (UO (UR (.int 5)) (UN)))) (UO (UR (.int 5)) (UN))))))
 (US (U5 3 (UX 1 VL (UO (UL 1) (UN))))
 (US (Zc 4 (Zb (KJ (UL 3)) 1 (gN 12) (UR zk) (UX 3 XX (UO (UL 1) (UO (UL 2) (UO (UL 12) (UN)))))))
 (US (U5 5 (UX 2 XY (UO (UL 1) (UO (UL 2) (UN)))))
 (US (sIf (mOr (UQ Nq (UX 3 Xq (UO (UL 1) (UO (UL 2) (UO (UL 5) (UN))))) (UR (.bool zk))) (KB (Zt (UX 5 XV (UO (UL 1) (UO (UL 2) (UO (UL 3) (UO (UL 4) (UO (UL 5) (UN))))))))))
 (U3 (UR (.bool zm)))
 (sNx))
 (US (Ku (YG (UO (UQ U1 (Kh (UO (UX 2 Y9 (UO (UL 0) (UO (UR (.int 6)) (UN)))) (UN))) (KS (UL 0) (Kd (UR (.int 7)) λx=>Ka (Zo x)) (Kd (UR (.int 14)) λx=>Ka (Zo x)))) (UN))) (gT 2 (gNC (gN 6) (gNC (gN 7) (gN0)))) HA)
 (US (U5 9 (UX 3 WW (UO (UL 1) (UO (UX 2 Y9 (UO (UL 0) (UO (UR (.int 14)) (UN)))) (UO (UR (.int 14)) (UN))))))
 (US (U5 10 (Kl (UO (U0 Uy (Zb (KJ (UY 1 (UR (.int 0)))) 1 (gN 12) (UR zk) (K4 Of (UO (UR (.int 7)) (UO (UQ U1 (UL 12) (UR (.int 1))) (UN)))))) (UO (UY 1 (UR (.int 1))) (UN)))))
 (US (U5 11 (Kl (UO (UY 1 (UR (.int 0))) (UO (U0 Uy (Zb (KJ (UY 1 (UR (.int 1)))) 1 (gN 12) (UR zk) (KS (UL 12) (Kd (UR (.int 1)) λx=>Ka (Zo x)) (UR zj)))) (UN)))))
 (US (Ku (KJ (Kh (UO (UX 2 XY (UO (UL 1) (UO (UL 9) (UN)))) (UO (UX 2 XY (UO (UL 10) (UO (UL 2) (UN)))) (UO (UX 2 XY (UO (UL 11) (UO (UL 2) (UN)))) (UN)))))) (gN 8) HB)
 (U3 (UR (.bool zk)))))))))))))
def VH:zn->zp:=U8 N_cu Sh
set_option hygiene false in
local macro_rules | `(tactic| walk_at "g")=>`(tactic| first | exact gA nm rfl | exact CH rfl)
set_option hygiene false in
local macro_rules | `(tactic| walk_at "v")=>`(tactic| first | exact pq nm _ | exact pvb _)
set_option hygiene false in
local macro_rules | `(tactic| walk_at "b")=>`(tactic| first | ((with_reducible show OpB _ (compareOp CmpOp.Eq) _);first | exact B_eq hu) | ((with_reducible show OpB _ (compareOp CmpOp.NotEq) _);first | exact B_ne hu) | ((with_reducible show OpB _ (compareOp CmpOp.Lt) _);first | exact B_lt) | ((with_reducible show OpB _ (compareOp CmpOp.LtE) _);first | exact B_le) | ((with_reducible show OpB _ (compareOp CmpOp.Gt) _);first | exact B_gt) | ((with_reducible show OpB _ (compareOp CmpOp.GtE) _);first | exact B_ge) | ((with_reducible show OpB _ (compareOp CmpOp.In) _);first | exact B_in hu | exact Cr hu) | ((with_reducible show OpB _ (compareOp CmpOp.NotIn) _);first | exact D4 hu) | ((with_reducible show OpB _ (compareOp CmpOp.IsNot) _);first | exact C8))
set_option hygiene false in
local macro_rules | `(tactic| walk_at "m")=>`(tactic| first | exact NO _ | exact rfl)
set_option hygiene false in
local macro_rules | `(tactic| walk_at "k")=>`(tactic| first | exact Fa | exact vE | exact vD | exact vC)
set_option hygiene false in
local macro_rules | `(tactic| walk_at "w")=>`(tactic| first | exact PassesOwn.never)
set_option hygiene false in
local macro_rules | `(tactic| walk_at "x")=>`(tactic| first | assumption | exact wants_cx)
set_option hygiene false in
local macro_rules | `(tactic| walk_at "c")=>`(tactic| first | exact T.c_MOST_ASKERS | exact T.c_MOST_COPIES | exact T.c_MOST_RANKS | exact T.c_MOST_THINGS | exact T.c_ORDERS)
set_option hygiene false in
local macro_rules | `(tactic| walk_at "ck")=>`(tactic| fail)
section
variable{P:Uo}{w:World}{K:Frag}{mg:Str->zw}{base:Heap}{f:Up}{fd:Uq}(T:Txt K mg)
include T
theorem Kbm(aS:Def P w K mg base "place_of" 1 2 WZ)(F:Fun K "steps_of_askers" "steps_of_askers" Sbm f fd):FnOk P w K mg base CX0 2 f fd ["nothing", "worths", "dealing"] (spD K 3 V1):=
 okD (k:=1) (g:=SO) F (fq Hbm 3) zh λcdv A outer s H E B G0 hr=>
 have hu:=hr.units;have hgd:=hr.gd
 (RQ (GR (i:=3) (nq Hbm) zh (lq Hbm 3) (Gv (N5 (X8 Hg RS)) (Fc (gq Hbm 2) T.b_len (pq Hbm 2))))
 (RQ (NR UF zh (NQ (Yw (pq Hbm 1))) (Ol zh (Vq (Vc (Ve (i:=4) (nq Hbm) zh (lq Hbm 4))) (Vq (Vc (Ve (i:=5) (nq Hbm) zh (lq Hbm 5))) (Vq (Vc (Ve (i:=6) (nq Hbm) zh (lq Hbm 6))) Om))))
 (RJ (No (N6 (B_eq hu) (RR (pq Hbm 2) (Yw (pq Hbm 4)) (λ_ _=>rfl)) (Yw (pq Hbm 5)) (NO _))
 (RJ (GS (Yw (pq Hbm 6)) (pq Hbm 3) (Yw (pq Hbm 4))))
 NS)))
 (RQ (Cs (j:=7) (Yo Sbm) Rp ["nothing", "worths", "dealing", "had", ".asker", "thing", "worth", "told", "asker", "got"] 2 Fa (nq Hbm) zh zh zh (λB' G'=>(GP (gq Hbm 1) T.b_enumerate (X8 (Yw (pq Hbm 2)) RS))) (λcl C s0 H0 ex=>⟨λB' G'=>(Ol zh (Vq (Vc (Ve (i:=8) (show(["nothing", "worths", "dealing", "had", ".asker", "thing", "worth", "told", "asker", "got"]:List Str).Nodup by decide +kernel) zh (RP zh).1 (RP zh).2)) (Vq (Vc (Ve (i:=9) (show(["nothing", "worths", "dealing", "had", ".asker", "thing", "worth", "told", "asker", "got"]:List Str).Nodup by decide +kernel) zh (RP zh).1 (RP zh).2)) Om))),λB' G'=>(GN (Fd (Yw (pvb 9)))),(FY zh zh zh λB' G'=>(OP (X8 (Yw (pvb 9)) (X8 (Yw (pvb 0)) (X8 (GO (RR (pvb 3) (Yw (pvb 8)) (λ_ _=>rfl))) (X8 (Yw (pvb 8)) RS))))))⟩) zh zh (by decide +kernel))
 (RQ (NR UF zh (NQ (Yw (pq Hbm 1))) (Ol zh (Vq (Vc (Ve (i:=4) (nq Hbm) zh (lq Hbm 4))) (Vq (Vc (Ve (i:=5) (nq Hbm) zh (lq Hbm 5))) (Vq (Vc (Ve (i:=6) (nq Hbm) zh (lq Hbm 6))) Om))))
 (RJ (No (N6 (B_ne hu) (RR (pq Hbm 2) (Yw (pq Hbm 4)) (λ_ _=>rfl)) (Yw (pq Hbm 5)) (NO _))
 (RJ (Hc (pq Hbm 7) (OP (X8 (pdf aS hr (gq Hbm 0) (X8 (Yw (pq Hbm 0)) (X8 (RR (pq Hbm 2) (Yw (pq Hbm 4)) (λ_ _=>rfl)) RS))) (X8 (Yw (pq Hbm 5)) (X8 (Tv Lv (Yw (pq Hbm 6)) (RR (pq Hbm 3) (Yw (pq Hbm 4)) (λ_ _=>rfl))) (X8 (Yw (pq Hbm 4)) RS)))))))
 NS)))
 (RJ (Hd (Yw (pq Hbm 7))))))))
end
structure Oks(K:Frag)(δ:Str->Nat->Nat->(zn->zp)->Prop)(ε:Str->Stmt->Nat->List Str->Sp->Prop):Prop where
 j_0:ε "way_round" Sbs 1 ["nothing", "steps"] (spD K 2 XZ)
 j_1:ε "behind_way" Sbk 1 ["dealing", "way"] (spD K 2 Wv)
 j_2:δ "way_round" 1 2 XZ->δ "behind_way" 1 2 Wv->ε "shown_by_rounds" Scc 2 ["dealing", "steps", "roads"] (spD K 3 WX)
 j_3:ε "asks_beyond" Sbw 1 ["askers", "worths", "prices"] (spD K 3 VU)
 j_4:ε "strict_prices" Sca 1 ["prices", "roads"] (spD K 2 VQ)
 j_5:δ "asks_beyond" 1 3 VU->δ "strict_prices" 1 2 VQ->ε "strict_paper" Scb 2 ["askers", "worths", "prices", "roads"] (spD K 4 VP)
 j_6:ε "roads_from" Sby 1 ["place", "places", "steps"] (spD K 3 VS)
 j_7:δ "roads_from" 1 3 VS->ε "all_roads" Sbz 2 ["places", "steps"] (spD K 2 VR)
 j_8:ε "place_of" Sbl 1 ["nothing", "got"] (spD K 2 WZ)
 j_9:ε "is_whole" Saa 1 ["thing"] (spD K 1 Yd)
 j_10:δ "is_whole" 1 1 Yd->ε "is_number_below" Sad 2 ["thing", "many"] (spD K 2 Yc)
 j_11:δ "is_number_below" 2 2 Yc->ε "is_rank" Saf 3 ["thing", "things"] (spD K 2 W4)
 j_12:δ "is_rank" 3 2 W4->ε "is_asker_list" Sag 4 ["thing", "things"] (spD K 2 Tg)
 j_13:δ "is_asker_list" 4 2 Tg->ε "look_at_lists" Sah 5 ["lists", "things"] (spD K 2 Tf)
 j_14:δ "is_number_below" 2 2 Yc->ε "look_at_copies" Sae 3 ["copies"] (spD K 1 Th)
 j_15:δ "look_at_lists" 5 2 Tf->δ "look_at_copies" 3 1 Th->ε "look_at_wishes" Sai 6 ["thing"] (spD K 1 ZZ)
 j_16:δ "look_at_wishes" 6 1 ZZ->ε "copies_left" Sao 7 ["wishes", "dealing"] (spD K 2 Ww)
 j_17:δ "copies_left" 7 2 Ww->ε "steps_of_copies" Sbn 8 ["wishes", "dealing"] (spD K 2 V0)
 j_18:δ "steps_of_askers" 2 3 V1->δ "steps_of_copies" 8 2 V0->ε "all_steps" Sbo 9 ["wishes", "worths", "dealing"] (spD K 3 YQ)
 j_19:ε "tight_steps" Sbx 1 ["steps", "prices"] (spD K 2 VT)
 j_20:ε "longer_walks" Sbp 1 ["walks", "steps"] (spD K 2 VZ)
 j_21:δ "longer_walks" 1 2 VZ->ε "widest_walks" Sbq 2 ["places", "steps"] (spD K 2 Wu)
 j_22:δ "all_steps" 9 3 YQ->δ "widest_walks" 2 2 Wu->ε "prices_for" Sbv 10 ["wishes", "worths", "dealing"] (spD K 3 VW)
 j_23:ε "round_within" Sbr 1 ["walk"] (spD K 1 VY)
 j_24:δ "all_steps" 9 3 YQ->δ "widest_walks" 2 2 Wu->δ "round_within" 1 1 VY->δ "way_round" 1 2 XZ->ε "gaining_way" Sbt 10 ["wishes", "worths", "dealing"] (spD K 3 WY)
 j_25:δ "gaining_way" 10 3 WY->δ "behind_way" 1 2 Wv->ε "best_by" Sbu 11 ["wishes", "worths"] (spD K 2 VX)
 j_26:δ "look_at_wishes" 6 1 ZZ->ε "all_wishes" Sal 7 ["wishes"] (spD K 1 Te)
 j_27:ε "power" Sau 1 ["base", "times"] (spD K 2 ZR)
 j_28:δ "power" 1 2 ZR->ε "worth_by_turns" Saw 2 ["turns", "base", "asker", "rank"] (spD K 4 V8)
 j_29:δ "power" 1 2 ZR->ε "worth_by_order" Sav 2 ["order", "base", "most", "rank"] (spD K 4 V9)
 j_30:ε "rank_in" Saj 1 ["ranks", "thing"] (spD K 2 Wy)
 j_31:δ "power" 1 2 ZR->δ "worth_by_turns" 2 4 V8->δ "worth_by_order" 2 4 V9->δ "rank_in" 1 2 Wy->ε "worth_by_aim" Sax 3 ["wishes", "aim", "most", "asker", "thing"] (spD K 5 Xs)
 j_32:δ "look_at_wishes" 6 1 ZZ->ε "longest" Sak 7 ["wishes"] (spD K 1 Wx)
 j_33:δ "is_number_below" 2 2 Yc->ε "is_turns" Sas 3 ["thing", "askers"] (spD K 2 Ta)
 j_34:δ "is_number_below" 2 2 Yc->ε "is_old" Sar 3 ["thing", "askers", "things"] (spD K 3 Tb)
 j_35:ε "is_order" Sap 1 ["thing"] (spD K 1 Td)
 j_36:δ "is_order" 1 1 Td->ε "look_at_order" Saq 2 ["thing"] (spD K 1 Tc)
 j_37:δ "is_turns" 3 2 Ta->δ "is_old" 3 3 Tb->δ "look_at_order" 2 1 Tc->δ "look_at_wishes" 6 1 ZZ->ε "look_at_aim" Sat 7 ["wishes", "thing"] (spD K 2 Xu)
 j_38:δ "all_wishes" 7 1 Te->δ "worth_by_aim" 3 5 Xs->δ "longest" 7 1 Wx->δ "look_at_aim" 7 2 Xu->ε "all_worths" Say 8 ["wishes", "aim"] (spD K 2 Xr)
 j_39:δ "shown_by_rounds" 2 3 WX->δ "strict_paper" 2 4 VP->δ "all_roads" 2 2 VR->δ "all_steps" 9 3 YQ->δ "tight_steps" 1 2 VT->δ "prices_for" 10 3 VW->δ "best_by" 11 2 VX->δ "all_worths" 8 2 Xr->ε "web_of" Scd 12 ["wishes", "aim"] (spD K 2 XY)
 j_40:ε "shows_nothing" Sbh 1 ["dealings", "asks"] (spD K 2 V3)
 j_41:δ "copies_left" 7 2 Ww->ε "shows_left" Sbi 8 ["wishes", "dealings", "prices"] (spD K 3 V2)
 j_42:δ "all_worths" 8 2 Xr->ε "tight_wishes" Sbe 9 ["wishes", "aim", "paper"] (spD K 3 V4)
 j_43:ε "shows_wishes" Sbg 1 ["dealings", "wanted"] (spD K 2 W0)
 j_44:δ "worth_by_aim" 3 5 Xs->δ "longest" 7 1 Wx->δ "look_at_aim" 7 2 Xu->ε "worth_of" Saz 8 ["wishes", "aim", "dealing"] (spD K 3 V7)
 j_45:δ "look_at_wishes" 6 1 ZZ->ε "claim_of" Sbd 7 ["wishes", "paper"] (spD K 2 V5)
 j_46:δ "is_whole" 1 1 Yd->ε "has_form" Sam 2 ["thing", "askers"] (spD K 2 W3)
 j_47:δ "rank_in" 1 2 Wy->δ "has_form" 2 2 W3->δ "look_at_wishes" 6 1 ZZ->ε "what_is_wrong" San 7 ["wishes", "thing"] (spD K 2 W2)
 j_48:δ "worth_of" 8 3 V7->δ "claim_of" 7 2 V5->δ "what_is_wrong" 7 2 W2->ε "is_claimed" Sbf 9 ["wishes", "aim", "paper", "thing"] (spD K 4 X0)
 j_49:δ "is_whole" 1 1 Yd->ε "is_number" Sab 2 ["thing"] (spD K 1 W5)
 j_50:δ "is_number" 2 1 W5->ε "are_numbers" Sac 3 ["things", "many"] (spD K 2 Ti)
 j_51:δ "are_numbers" 3 2 Ti->ε "is_number_list" Sba 4 ["thing", "many"] (spD K 2 X1)
 j_52:δ "is_number_list" 4 2 X1->δ "is_whole" 1 1 Yd->ε "has_paper_form" Sbb 5 ["wishes", "thing"] (spD K 2 V6)
 j_53:δ "has_paper_form" 5 2 V6->δ "all_worths" 8 2 Xr->ε "lets_paper" Sbc 9 ["wishes", "aim", "thing"] (spD K 3 W1)
 j_54:δ "shows_nothing" 1 2 V3->δ "shows_left" 8 3 V2->δ "tight_wishes" 9 3 V4->δ "shows_wishes" 1 2 W0->δ "is_claimed" 9 4 X0->δ "lets_paper" 9 3 W1->δ "look_at_aim" 7 2 Xu->ε "lets_web" Sbj 10 ["wishes", "aim", "thing"] (spD K 3 Xq)
 j_55:ε "_law_rank" Sch 1 ["_law_wishes_here", "_law_asker", "_law_thing"] (spD K 3 VN)
 j_56:ε "_law_longest" Sci 1 ["_law_wishes_here"] (spD K 1 VM)
 j_57:δ "_law_rank" 1 3 VN->δ "_law_longest" 1 1 VM->ε "_law_worth" Scl 2 ["_law_wishes_here", "_law_aim_here", "_law_asker", "_law_thing"] (spD K 4 Ws)
 j_58:δ "_law_worth" 2 4 Ws->ε "_law_whole" Scm 3 ["_law_wishes_here", "_law_aim_here", "_law_dealing"] (spD K 3 XX)
 j_59:ε "_law_within" Scs 1 ["_law_wishes_here", "_law_paper", "_law_tight_here", "_law_dealing"] (spD K 4 WU)
 j_60:ε "_law_wished" Scj 1 ["_law_wishes_here", "_law_asker"] (spD K 2 Wt)
 j_61:δ "_law_wished" 1 2 Wt->δ "_law_worth" 2 4 Ws->ε "_law_tight" Sco 3 ["_law_wishes_here", "_law_aim_here", "_law_paper"] (spD K 3 VJ)
 j_62:δ "_law_whole" 3 3 XX->δ "_law_within" 1 4 WU->δ "_law_tight" 3 3 VJ->ε "_law_right" Sct 4 ["_law_wishes_here", "_law_aim_here", "_law_some", "_law_worths", "_law_web"] (spD K 5 XV)
 j_63:ε "_law_cell_at" Sce 1 ["_law_script", "_law_k"] (spD K 2 Y9)
 j_64:ε "_law_numbers" Scf 1 ["_law_cell", "_law_salt", "_law_sizes"] (spD K 3 Y8)
 j_65:δ "_law_numbers" 1 3 Y8->ε "_law_aim" Sck 2 ["_law_wishes_here", "_law_cell", "_law_salt"] (spD K 3 WW)
 j_66:ε "_law_bent_dealings" Scq 1 ["_law_some", "_law_digits"] (spD K 2 WV)
 j_67:ε "_law_bent_paper" Scp 1 ["_law_paper", "_law_digits"] (spD K 2 Wr)
 j_68:δ "_law_bent_dealings" 1 2 WV->δ "_law_bent_paper" 1 2 Wr->ε "_law_bent" Scr 2 ["_law_web", "_law_digits"] (spD K 2 VI)
 j_69:δ "_law_wished" 1 2 Wt->ε "_law_all" Scn 2 ["_law_wishes_here"] (spD K 1 VL)
 j_70:δ "_law_numbers" 1 3 Y8->δ "_law_cell_at" 1 2 Y9->ε "_law_wishes" Scg 2 ["_law_script", "_law_at", "_law_most_things", "_law_most_askers", "_law_most_ranks"] (spD K 5 VO)
 j_71:δ "web_of" 12 2 XY->δ "lets_web" 10 3 Xq->δ "_law_right" 4 5 XV->δ "_law_cell_at" 1 2 Y9->δ "_law_aim" 2 3 WW->δ "_law_numbers" 1 3 Y8->δ "_law_bent" 2 2 VI->δ "_law_whole" 3 3 XX->δ "_law_all" 2 1 VL->δ "_law_wishes" 2 5 VO->ε "law" Scu 13 ["_law_script"] (spD K 1 VH)
def oks{P w K mg base}(T:Txt K mg):Oks K (Def P w K mg base) λx s k ps sp=>∀f fd,Fun K x x s f fd->FnOk P w K mg base CX0 k f fd ps sp:=by
 refine⟨λ_ _ F=>okD (k:=0) (g:=SI) F (fq Hbs 2) zh λcdv A outer s H E B G0 hr=>have nm:=Hbs;?_,
 λ_ _ F=>okD (k:=0) (g:=SQ) F (fq Hbk 2) zh λcdv A outer s H E B G0 hr=>have nm:=Hbk;?_,
 λ_ _ _ _ F=>okD (k:=1) (g:=Sy) F (fq Hcc 3) zh λcdv A outer s H E B G0 hr=>have nm:=Hcc;?_,
 λ_ _ F=>okD (k:=0) (g:=SE) F (fq Hbw 3) zh λcdv A outer s H E B G0 hr=>have nm:=Hbw;?_,
 λ_ _ F=>okD (k:=0) (g:=SA) F (fq Hca 2) zh λcdv A outer s H E B G0 hr=>have nm:=Hca;?_,
 λ_ _ _ _ F=>okD (k:=1) (g:=Sz) F (fq Hcb 4) zh λcdv A outer s H E B G0 hr=>have nm:=Hcb;?_,
 λ_ _ F=>okD (k:=0) (g:=SB) F (fq Hby 3) zh λcdv A outer s H E B G0 hr=>have nm:=Hby;?_,
 λ_ _ _ F=>okD (k:=1) (g:=g_bz) F (fq Hbz 2) zh λcdv A outer s H E B G0 hr=>have nm:=Hbz;?_,
 λ_ _ F=>okD (k:=0) (g:=g_bl) F (fq Hbl 2) zh λcdv A outer s H E B G0 hr=>have nm:=Hbl;?_,
 λ_ _ F=>okD (k:=0) (g:=g_aa) F (fq Haa 1) zh λcdv A outer s H E B G0 hr=>have nm:=Haa;?_,
 λ_ _ _ F=>okD (k:=1) (g:=g_ad) F (fq Had 2) zh λcdv A outer s H E B G0 hr=>have nm:=Had;?_,
 λ_ _ _ F=>okD (k:=2) (g:=g_af) F (fq Haf 2) zh λcdv A outer s H E B G0 hr=>have nm:=Haf;?_,
 λ_ _ _ F=>okD (k:=3) (g:=Rj) F (fq Hag 2) zh λcdv A outer s H E B G0 hr=>have nm:=Hag;?_,
 λ_ _ _ F=>okD (k:=4) (g:=Ri) F (fq Hah 2) zh λcdv A outer s H E B G0 hr=>have nm:=Hah;?_,
 λ_ _ _ F=>okD (k:=2) (g:=Rk) F (fq Hae 1) zh λcdv A outer s H E B G0 hr=>have nm:=Hae;?_,
 λ_ _ _ _ F=>okD (k:=5) (g:=g_ai) F (fq Hai 1) zh λcdv A outer s H E B G0 hr=>have nm:=Hai;?_,
 λ_ _ _ F=>okD (k:=6) (g:=g_ao) F (fq Hao 2) zh λcdv A outer s H E B G0 hr=>have nm:=Hao;?_,
 λ_ _ _ F=>okD (k:=7) (g:=SN) F (fq Hbn 2) zh λcdv A outer s H E B G0 hr=>have nm:=Hbn;?_,
 λ_ _ _ _ F=>okD (k:=8) (g:=g_bo) F (fq Hbo 3) zh λcdv A outer s H E B G0 hr=>have nm:=Hbo;?_,
 λ_ _ F=>okD (k:=0) (g:=SD) F (fq Hbx 2) zh λcdv A outer s H E B G0 hr=>have nm:=Hbx;?_,
 λ_ _ F=>okD (k:=0) (g:=SL) F (fq Hbp 2) zh λcdv A outer s H E B G0 hr=>have nm:=Hbp;?_,
 λ_ _ _ F=>okD (k:=1) (g:=SK) F (fq Hbq 2) zh λcdv A outer s H E B G0 hr=>have nm:=Hbq;?_,
 λ_ _ _ _ F=>okD (k:=9) (g:=SF) F (fq Hbv 3) zh λcdv A outer s H E B G0 hr=>have nm:=Hbv;?_,
 λ_ _ F=>okD (k:=0) (g:=SJ) F (fq Hbr 1) zh λcdv A outer s H E B G0 hr=>have nm:=Hbr;?_,
 λ_ _ _ _ _ _ F=>okD (k:=9) (g:=SH) F (fq Hbt 3) zh λcdv A outer s H E B G0 hr=>have nm:=Hbt;?_,
 λ_ _ _ _ F=>okD (k:=10) (g:=SG) F (fq Hbu 2) zh λcdv A outer s H E B G0 hr=>have nm:=Hbu;?_,
 λ_ _ _ F=>okD (k:=6) (g:=Rh) F (fq Hal 1) zh λcdv A outer s H E B G0 hr=>have nm:=Hal;?_,
 λ_ _ F=>okD (k:=0) (g:=g_au) F (fq Hau 2) zh λcdv A outer s H E B G0 hr=>have nm:=Hau;?_,
 λ_ _ _ F=>okD (k:=1) (g:=Ra) F (fq Haw 4) zh λcdv A outer s H E B G0 hr=>have nm:=Haw;?_,
 λ_ _ _ F=>okD (k:=1) (g:=Rb) F (fq Hav 4) zh λcdv A outer s H E B G0 hr=>have nm:=Hav;?_,
 λ_ _ F=>okD (k:=0) (g:=g_aj) F (fq Haj 2) zh λcdv A outer s H E B G0 hr=>have nm:=Haj;?_,
 λ_ _ _ _ _ _ F=>okD (k:=2) (g:=SZ) F (fq Hax 5) zh λcdv A outer s H E B G0 hr=>have nm:=Hax;?_,
 λ_ _ _ F=>okD (k:=6) (g:=g_ak) F (fq Hak 1) zh λcdv A outer s H E B G0 hr=>have nm:=Hak;?_,
 λ_ _ _ F=>okD (k:=2) (g:=Re) F (fq Has 2) zh λcdv A outer s H E B G0 hr=>have nm:=Has;?_,
 λ_ _ _ F=>okD (k:=2) (g:=Rf) F (fq Har 3) zh λcdv A outer s H E B G0 hr=>have nm:=Har;?_,
 λ_ _ F=>okD (k:=0) (g:=g_ap) F (fq Hap 1) zh λcdv A outer s H E B G0 hr=>have nm:=Hap;?_,
 λ_ _ _ F=>okD (k:=1) (g:=g_aq) F (fq Haq 1) zh λcdv A outer s H E B G0 hr=>have nm:=Haq;?_,
 λ_ _ _ _ _ _ F=>okD (k:=6) (g:=Rc) F (fq Hat 2) zh λcdv A outer s H E B G0 hr=>have nm:=Hat;?_,
 λ_ _ _ _ _ _ F=>okD (k:=7) (g:=SY) F (fq Hay 2) zh λcdv A outer s H E B G0 hr=>have nm:=Hay;?_,
 λ_ _ _ _ _ _ _ _ _ _ F=>okD (k:=11) (g:=Sx) F (fq Hcd 2) zh λcdv A outer s H E B G0 hr=>have nm:=Hcd;?_,
 λ_ _ F=>okD (k:=0) (g:=g_bh) F (fq Hbh 2) zh λcdv A outer s H E B G0 hr=>have nm:=Hbh;?_,
 λ_ _ _ F=>okD (k:=7) (g:=SS) F (fq Hbi 3) zh λcdv A outer s H E B G0 hr=>have nm:=Hbi;?_,
 λ_ _ _ F=>okD (k:=8) (g:=SU) F (fq Hbe 3) zh λcdv A outer s H E B G0 hr=>have nm:=Hbe;?_,
 λ_ _ F=>okD (k:=0) (g:=g_bg) F (fq Hbg 2) zh λcdv A outer s H E B G0 hr=>have nm:=Hbg;?_,
 λ_ _ _ _ _ F=>okD (k:=7) (g:=SX) F (fq Haz 3) zh λcdv A outer s H E B G0 hr=>have nm:=Haz;?_,
 λ_ _ _ F=>okD (k:=6) (g:=g_bd) F (fq Hbd 2) zh λcdv A outer s H E B G0 hr=>have nm:=Hbd;?_,
 λ_ _ _ F=>okD (k:=1) (g:=VE) F (fq Ham 2) zh λcdv A outer s H E B G0 hr=>have nm:=Ham;?_,
 λ_ _ _ _ _ F=>okD (k:=6) (g:=Rg) F (fq Han 2) zh λcdv A outer s H E B G0 hr=>have nm:=Han;?_,
 λ_ _ _ _ _ F=>okD (k:=8) (g:=g_bf) F (fq Hbf 4) zh λcdv A outer s H E B G0 hr=>have nm:=Hbf;?_,
 λ_ _ _ F=>okD (k:=1) (g:=g_ab) F (fq Hab 1) zh λcdv A outer s H E B G0 hr=>have nm:=Hab;?_,
 λ_ _ _ F=>okD (k:=2) (g:=g_ac) F (fq Hac 2) zh λcdv A outer s H E B G0 hr=>have nm:=Hac;?_,
 λ_ _ _ F=>okD (k:=3) (g:=g_ba) F (fq Hba 2) zh λcdv A outer s H E B G0 hr=>have nm:=Hba;?_,
 λ_ _ _ _ F=>okD (k:=4) (g:=SW) F (fq Hbb 2) zh λcdv A outer s H E B G0 hr=>have nm:=Hbb;?_,
 λ_ _ _ _ F=>okD (k:=8) (g:=SV) F (fq Hbc 3) zh λcdv A outer s H E B G0 hr=>have nm:=Hbc;?_,
 λ_ _ _ _ _ _ _ _ _ F=>okD (k:=9) (g:=SR) F (fq Hbj 3) zh λcdv A outer s H E B G0 hr=>have nm:=Hbj;?_,
 λ_ _ F=>okD (k:=0) (g:=g_ch) F (fq Hch 3) zh λcdv A outer s H E B G0 hr=>have nm:=Hch;?_,
 λ_ _ F=>okD (k:=0) (g:=g_ci) F (fq Hci 1) zh λcdv A outer s H E B G0 hr=>have nm:=Hci;?_,
 λ_ _ _ _ F=>okD (k:=1) (g:=Su) F (fq Hcl 4) zh λcdv A outer s H E B G0 hr=>have nm:=Hcl;?_,
 λ_ _ _ F=>okD (k:=2) (g:=Ss) F (fq Hcm 3) zh λcdv A outer s H E B G0 hr=>have nm:=Hcm;?_,
 λ_ _ F=>okD (k:=0) (g:=Sk) F (fq Hcs 4) zh λcdv A outer s H E B G0 hr=>have nm:=Hcs;?_,
 λ_ _ F=>okD (k:=0) (g:=g_cj) F (fq Hcj 2) zh λcdv A outer s H E B G0 hr=>have nm:=Hcj;?_,
 λ_ _ _ _ F=>okD (k:=2) (g:=Sq) F (fq Hco 3) zh λcdv A outer s H E B G0 hr=>have nm:=Hco;?_,
 λ_ _ _ _ _ F=>okD (k:=3) (g:=Sj) F (fq Hct 5) zh λcdv A outer s H E B G0 hr=>have nm:=Hct;?_,
 λ_ _ F=>okD (k:=0) (g:=g_ce) F (fq Hce 2) zh λcdv A outer s H E B G0 hr=>have nm:=Hce;?_,
 λ_ _ F=>okD (k:=0) (g:=g_cf) F (fq Hcf 3) zh λcdv A outer s H E B G0 hr=>have nm:=Hcf;?_,
 λ_ _ _ F=>okD (k:=1) (g:=Sv) F (fq Hck 3) zh λcdv A outer s H E B G0 hr=>have nm:=Hck;?_,
 λ_ _ F=>okD (k:=0) (g:=Sn) F (fq Hcq 2) zh λcdv A outer s H E B G0 hr=>have nm:=Hcq;?_,
 λ_ _ F=>okD (k:=0) (g:=So) F (fq Hcp 2) zh λcdv A outer s H E B G0 hr=>have nm:=Hcp;?_,
 λ_ _ _ _ F=>okD (k:=1) (g:=Sm) F (fq Hcr 2) zh λcdv A outer s H E B G0 hr=>have nm:=Hcr;?_,
 λ_ _ _ F=>okD (k:=1) (g:=Sr) F (fq Hcn 1) zh λcdv A outer s H E B G0 hr=>have nm:=Hcn;?_,
 λ_ _ _ _ F=>okD (k:=1) (g:=Sw) F (fq Hcg 5) zh λcdv A outer s H E B G0 hr=>have nm:=Hcg;?_,
 λ_ _ _ _ _ _ _ _ _ _ _ _ F=>okD (k:=12) (g:=Sh) F (fq Hcu 1) zh λcdv A outer s H E B G0 hr=>have nm:=Hcu;?_⟩<;>(have hu:=hr.units;have hgd:=hr.gd;repeat' (first|((with_reducible show PSs _ (Vd _) _);show PSs _ (_::_) _)|((with_reducible show PSs _ (Stmt.Assign _ _ _::_::_) _);generalize hS:(_::_:List Stmt)=sts;refine qV hS ?_ ?_)|((with_reducible show PS _ (Stmt.Assign [Expr.Name _ _] (Expr.List _ _) _) (tS _ _ _ _ (Zc _ _)));generalize hS:Stmt.Assign _ _ _=st;refine C2 hS nm ?_)|((with_reducible show PS _ (Stmt.Assign [Expr.Name _ _] (Expr.BinOp _ _ _ _) _) (tS _ _ _ _ (U5 _ _)));generalize hS:Stmt.Assign _ _ _=st;refine Dt hS nm ?_)|((with_reducible show PE _ (Expr.List _ _) _);generalize hS:Expr.List _ _=e;first|refine qU hS ?_|refine qT hS ?_)|((with_reducible show PE _ (Expr.Tuple _ _ _) _);generalize hS:Expr.Tuple _ _ _=e;refine qS hS ?_)|((with_reducible show PE _ (Expr.BinOp _ Operator.Add _ _) (tD _ _ _ _));generalize hS:Expr.BinOp _ _ _ _=e;refine L6 Lw hS ?_ ?_)|((with_reducible show PE _ (Expr.BinOp _ Operator.Mult _ _) (tD _ _ _ _));generalize hS:Expr.BinOp _ _ _ _=e;refine L6 Lu hS ?_ ?_)|((with_reducible show PA _ (_::_) (tDs _ _ _ _));generalize hS:(_::_:zq)=es;refine xX hS ?_ ?_)|((with_reducible show PE _ _ (tD _ _ _ _));first|first|((with_reducible show PE _ (Expr.Name _ _) _);first|exact qc (pq nm _)|exact Yw (pq nm _)|exact Yw (pvb _)|exact D6 (by walk_at "g") (by walk_at "c")|exact D3 (by walk_at "g") (by walk_at "c"))|((with_reducible show PE _ (Expr.Constant _ _ _) _);first|exact Hg|exact qL|exact Ai|exact qM)|((with_reducible show PE _ (Expr.Subscript _ _ _) _);first|refine AI hu (by walk_at "v") ?_ (λ_ _=>rfl)|refine RR (by walk_at "v") ?_ (λ_ _=>rfl)|refine wf ?_ ?_ ?_|refine Am ?_ ?_ ?_ ?_|refine CO ?_ ?_ (λ_ _=>rfl)|refine AS hu ?_ ?_)|((with_reducible show PE _ (Expr.BinOp _ Operator.Add _ _) _);first|refine Tv Lw ?_ ?_)|((with_reducible show PE _ (Expr.BinOp _ Operator.Sub _ _) _);first|refine Tv Lv ?_ ?_)|((with_reducible show PE _ (Expr.BinOp _ Operator.Mult _ _) _);first|refine Tv Lu ?_ ?_)|((with_reducible show PE _ (Expr.BinOp _ Operator.Mod _ _) _);first|refine Tv Cf ?_ ?_)|((with_reducible show PE _ (Expr.BinOp _ Operator.FloorDiv _ _) _);first|refine Tv Ce ?_ ?_)|((with_reducible show PE _ (Expr.BinOp _ Operator.Pow _ _) _);first|refine Tv Cd ?_ ?_)|((with_reducible show PE _ (Expr.Call (Expr.Name "len" _) _ _ _) _);first|refine Fc (by walk_at "g") T.b_len (by walk_at "v")|refine Vw Cc (by walk_at "g") T.b_len boot_len ?_|refine wd zh (by walk_at "g") T.b_len (by walk_at "g") T.b_set ?_)|((with_reducible show PE _ (Expr.Call (Expr.Name "max" _) _ _ _) _);first|refine Vw (CN zh) (by walk_at "g") T.b_max boot_max ?_|refine Vw (Be zh) (by walk_at "g") T.b_max boot_max ?_)|((with_reducible show PE _ (Expr.Call (Expr.Name "min" _) _ _ _) _);first|refine Vw (CM zh) (by walk_at "g") T.b_min boot_min ?_)|((with_reducible show PE _ (Expr.Call (Expr.Name "sorted" _) _ _ _) _);first|refine Vw Ba (by walk_at "g") T.b_sorted PyProof.Rows.boot_sorted ?_)|((with_reducible show PE _ (Expr.Call (Expr.Name "sum" _) _ _ _) _);first|refine Vw (Bb zh) (by walk_at "g") T.b_sum PyProof.Rows.boot_sum ?_|refine Vw (Bd zh) (by walk_at "g") T.b_sum PyProof.Rows.boot_sum ?_)|((with_reducible show PE _ (Expr.Call (Expr.Name "all" _) _ _ _) _);first|refine Vw (D8 zh) (by walk_at "g") T.b_all PyProof.Rows.boot_all ?_)|((with_reducible show PE _ (Expr.Call (Expr.Name "any" _) _ _ _) _);first|refine Vw (Ds zh) (by walk_at "g") T.b_any PyProof.Rows.boot_any ?_)|((with_reducible show PE _ (Expr.Call (Expr.Name "int" _) _ _ _) _);first|refine EV Bf (by walk_at "g") T.b_int PyProof.Rows.boot_int ?_)|((with_reducible show PE _ (Expr.Call (Expr.Name "tuple" _) _ _ _) _);first|refine EV Cv (by walk_at "g") T.b_tuple yg ?_)|((with_reducible show PE _ (Expr.Call (Expr.Name "isinstance" _) [_,Expr.Name "int" _] _ _) _);first|refine P5 (c:= "int") (by decide) (by walk_at "g") T.b_isinstance (by walk_at "g") T.b_int (by decide +kernel) ?_ (by decide) (by decide))|((with_reducible show PE _ (Expr.Call (Expr.Name "isinstance" _) [_,Expr.Name "list" _] _ _) _);first|refine P5 (c:= "list") (by decide) (by walk_at "g") T.b_isinstance (by walk_at "g") T.b_list (by decide +kernel) ?_ (by decide) (by decide))|((with_reducible show PE _ (Expr.Call (Expr.Name "isinstance" _) [_,Expr.Name "tuple" _] _ _) _);first|refine P5 (c:= "tuple") (by decide) (by walk_at "g") T.b_isinstance (by walk_at "g") T.b_tuple (by decide +kernel) ?_ (by decide) (by decide))|((with_reducible show PE _ (Expr.Call (Expr.Name "isinstance" _) [_,Expr.Name "bool" _] _ _) _);first|refine P5 (c:= "bool") (by decide) (by walk_at "g") T.b_isinstance (by walk_at "g") T.b_bool (by decide +kernel) ?_ (by decide) (by decide))|((with_reducible show PE _ (Expr.Call (Expr.Name "isinstance" _) [_,Expr.Name "str" _] _ _) _);first|refine P5 (c:= "str") (by decide) (by walk_at "g") T.b_isinstance (by walk_at "g") T.b_str (by decide +kernel) ?_ (by decide) (by decide))|((with_reducible show PE _ (Expr.Call (Expr.Name _ _) _ _ _) _);first|refine pdf (by assumption) hr (by walk_at "g") ?_)|((with_reducible show PE _ (Expr.Call _ _ _ _) _);first|refine xT hu ?_ ?_|refine xJ ?_ ?_)|refine N5 ?_|refine OP ?_|((with_reducible show PE _ (Expr.Compare _ _ _ _) _);first|refine Ax ?_|refine An (by walk_at "b") (by walk_at "v") ?_ (by walk_at "m")|refine qG (by walk_at "b") ?_ ?_ (by walk_at "m")|refine ve (by walk_at "b") (by walk_at "b") ?_ ?_ ?_)|refine Ap ?_|refine GO ?_|refine Az ?_|refine AB ?_ ?_|refine CP ?_ ?_|refine AA ?_|refine vN ?_ ?_ ?_)|((with_reducible show PA _ _ (tDs _ _ _ _));first|refine X8 ?_ ?_|exact RS)|((with_reducible show PSs _ _ (tS _ _ _ _ _));first|refine RQ ?_ ?_|refine RJ ?_|exact NS|exact sD_nevers)|((with_reducible show PS _ _ _);first|((with_reducible show PS _ (Stmt.Assign [Expr.Name _ _] _ _) _);first|refine aSet nm ?_|refine Du nm (by walk_at "k") zh ?_ ?_ (by decide +kernel)|refine Ly nm ?_|refine Cp nm ?_)|((with_reducible show PS _ (Stmt.Assign _ _ _) _);first|refine CL ?_ ?_|refine GS ?_ (by walk_at "v") ?_|refine C6 hu ?_ (by walk_at "v") ?_)|refine No ?_ ?_ ?_|refine Hd ?_|refine NR (by walk_at "w") zh ?_ ?_ ?_|((with_reducible show PS _ (Stmt.Expr _ _) _);first|refine Hc (by walk_at "v") ?_|refine At ?_)|refine aAug nm AY ?_|exact kj|refine ji _ (by walk_at "w") ?_ ?_)|((with_reducible show PT _ _ _);first|((with_reducible show PT _ (Expr.Compare _ _ _ _) _);first|refine AH hu ?_ (by walk_at "v")|refine qW hu ?_ (by walk_at "v")|refine Ay ?_|refine Fd ?_|refine Ao (by walk_at "b") (by walk_at "v") ?_ (by walk_at "m")|refine AU (by walk_at "b") ?_ (by walk_at "v") (by walk_at "m")|refine N6 (by walk_at "b") ?_ ?_ (by walk_at "m")|refine vf (by walk_at "b") (by walk_at "b") ?_ ?_ ?_)|((with_reducible show PT _ (Expr.BoolOp _ _ _) _);refine PW.pt ?_)|refine AD ?_|refine AC ?_|refine AL ?_)|((with_reducible show PW _ _ _);first|refine AE ?_ ?_|refine CQ ?_ ?_|refine kq ?_|refine AF ?_)|((with_reducible show PE _ _ (tL _ _ _ _));first|refine Co nm (by walk_at "k") zh ?_ ?_ (by decide +kernel)|refine C3 (by walk_at "k") zh ?_ ?_ (by decide +kernel)|refine vS (by walk_at "g") T.b_list (by walk_at "v")|refine GQ ?_|refine Gv ?_ ?_|refine AM ?_ ?_)|((with_reducible show PI _ _ _ _);first|refine vM (by walk_at "g") T.b_range ?_|refine vL (by walk_at "g") T.b_range ?_|refine GP (by walk_at "g") T.b_enumerate ?_|refine kO (by walk_at "g") T.b_enumerate ?_|refine Cz (by walk_at "g") T.b_zip ?_|refine NQ ?_)|((with_reducible show PG _ _ _);first|exact Cq nm|exact C4|refine Ol zh ?_)|((with_reducible show PGs _ _ _);first|exact Om|refine Vq ?_ ?_)|((with_reducible show PO _ _ _);first|exact ko|refine kn ?_)|((with_reducible show Yr _ _ _ _ _ _ _ _ _);refine λcl C s0 H0 ex=>⟨λB' G'=>?_,λB' G'=>?_,?_⟩)|((with_reducible show XU _ _ _);first|exact Aq|refine GN ?_)|((with_reducible show Pl _ _ _ _ _ _);first|refine FY zh zh zh λB' G'=>?_|refine vF zh zh zh zh (λ_=>rfl) (λB' G'=>?_) (λB' G'=>?_) (λB' G'=>?_) ?_)|((with_reducible show PE _ _ (tT _ _ _ _ _));first|refine peT_call (by assumption) hr (by walk_at "g") ?_|exact peT_nil|exact peT_dnil|refine qX ?_)|((with_reducible show DPs _ _ _ _ _ _);first|exact AT|refine q8 (λB'=>?_) (λB'=>?_) ?_)))
def KH:recsOf q0=RF p0 ixL:=by show recsOf (PySem.W.view PySem.Challenge.pw_wishdeal_k57_whole_just_the_webs_dealing WE)=RF PySem.Challenge.pw_wishdeal_k57_whole_just_the_webs_dealing ixL;rw[PySem.W.Fast.te3399658132070893891,PySem.W.Fast.te11961674112670077725];kernel_rfl
def Xg:(["all", "any", "bool", "enumerate", "int", "isinstance", "len", "list", "max", "min", "range", "set", "sorted", "str", "sum", "tuple", "zip"]:List Str).all (Ob q0 (PySem.W.looseW q0 []))=zk:=by show List.all _ (Ob (PySem.W.view PySem.Challenge.pw_wishdeal_k57_whole_just_the_webs_dealing WE) (PySem.W.looseW (PySem.W.view PySem.Challenge.pw_wishdeal_k57_whole_just_the_webs_dealing WE) []))=zk;k_qdec
def yR:valOf q0 "MOST_ASKERS" = zd (.int 7):=by show valOf (PySem.W.view PySem.Challenge.pw_wishdeal_k57_whole_just_the_webs_dealing WE) _=_;rw[Jw,PySem.W.Fast.te11961674112670077725];kernel_rfl
def yQ:valOf q0 "MOST_COPIES" = zd (.int 7):=by show valOf (PySem.W.view PySem.Challenge.pw_wishdeal_k57_whole_just_the_webs_dealing WE) _=_;rw[Jw,PySem.W.Fast.te11961674112670077725];kernel_rfl
def yB:valOf q0 "MOST_RANKS" = zd (.int 5):=by show valOf (PySem.W.view PySem.Challenge.pw_wishdeal_k57_whole_just_the_webs_dealing WE) _=_;rw[Jw,PySem.W.Fast.te11961674112670077725];kernel_rfl
def yP:valOf q0 "MOST_THINGS" = zd (.int 6):=by show valOf (PySem.W.view PySem.Challenge.pw_wishdeal_k57_whole_just_the_webs_dealing WE) _=_;rw[Jw,PySem.W.Fast.te11961674112670077725];kernel_rfl
def xg:tupStrsOf q0 "ORDERS" = zd (["firsts", "full", "lasts"]:List Str):=by show tupStrsOf (PySem.W.view PySem.Challenge.pw_wishdeal_k57_whole_just_the_webs_dealing WE) _=_;rw[PySem.W.Fast.te14491516231548247274,PySem.W.Fast.te11961674112670077725];kernel_rfl
def C1{l:PySem.W.OpenLaw}{w:World}{s0:Um}{mg mb:Str->zw}{fa:Up}{h:Heap}{XP:(Str->zw)->Heap->Prop}(G:PySem.W.Ground q0 [] [] XP w s0 mg mb h)(hfa:mg "law" = zd (.ref fa)) :
  ∃fd:Uq,(∀(s:Um)(v:Ul),BindsTo s fd ⟨[v],[]⟩ [("_law_script", v)])/\∀base:Heap,FnOk l.prog w (whole h) mg base CX0 13 fa fd ["_law_script"] (spD (whole h) 1 VH):=by
 have T:Txt (whole h) mg:=⟨Xh G.T Xg (mq 0 zh),Xh G.T Xg (mq 1 zh),Xh G.T Xg (mq 2 zh),Xh G.T Xg (mq 3 zh),Xh G.T Xg (mq 4 zh),Xh G.T Xg (mq 5 zh),Xh G.T Xg (mq 6 zh),Xh G.T Xg (mq 7 zh),Xh G.T Xg (mq 8 zh),Xh G.T Xg (mq 9 zh),Xh G.T Xg (mq 10 zh),Xh G.T Xg (mq 11 zh),Xh G.T Xg (mq 12 zh),Xh G.T Xg (mq 13 zh),Xh G.T Xg (mq 14 zh),Xh G.T Xg (mq 15 zh),Xh G.T Xg (mq 16 zh),O9 G.T yR,O9 G.T yQ,O9 G.T yB,O9 G.T yP,vb G.B xg (by decide)⟩
 refine Cw G.T KH 94 "law" rfl zh hfa (λ_ _ _ _ _ _ _=>rfl) λbase=>?_
 have okk:=oks (P:=l.prog) (w:=w) (base:=base) T;have ce:=Ke l.prog w base G.T KH 63 "way_round" λF=>okk.j_0 _ _ F
 have cg:=Ke l.prog w base G.T KH 54 "behind_way" λF=>okk.j_1 _ _ F
 have d_cc:=Ke l.prog w base G.T KH 74 "shown_by_rounds" λF=>okk.j_2 ce cg _ _ F
 have d_bw:=Ke l.prog w base G.T KH 67 "asks_beyond" λF=>okk.j_3 _ _ F
 have d_ca:=Ke l.prog w base G.T KH 72 "strict_prices" λF=>okk.j_4 _ _ F
 have d_cb:=Ke l.prog w base G.T KH 73 "strict_paper" λF=>okk.j_5 d_bw d_ca _ _ F
 have d_by:=Ke l.prog w base G.T KH 70 "roads_from" λF=>okk.j_6 _ _ F
 have d_bz:=Ke l.prog w base G.T KH 71 "all_roads" λF=>okk.j_7 d_by _ _ F
 have aS:=Ke l.prog w base G.T KH 56 "place_of" λF=>okk.j_8 _ _ F
 have d_bm:=Ke l.prog w base G.T KH 57 "steps_of_askers" λF=>Kbm T aS F
 have ax:=Ke l.prog w base G.T KH 1 "is_whole" λF=>okk.j_9 _ _ F
 have aw:=Ke l.prog w base G.T KH 4 "is_number_below" λF=>okk.j_10 ax _ _ F
 have d_af:=Ke l.prog w base G.T KH 15 "is_rank" λF=>okk.j_11 aw _ _ F
 have d_ag:=Ke l.prog w base G.T KH 16 "is_asker_list" λF=>okk.j_12 d_af _ _ F
 have d_ah:=Ke l.prog w base G.T KH 17 "look_at_lists" λF=>okk.j_13 d_ag _ _ F
 have d_ae:=Ke l.prog w base G.T KH 14 "look_at_copies" λF=>okk.j_14 aw _ _ F
 have zV:=Ke l.prog w base G.T KH 18 "look_at_wishes" λF=>okk.j_15 d_ah d_ae _ _ F
 have cm:=Ke l.prog w base G.T KH 25 "copies_left" λF=>okk.j_16 zV _ _ F
 have d_bn:=Ke l.prog w base G.T KH 58 "steps_of_copies" λF=>okk.j_17 cm _ _ F
 have aR:=Ke l.prog w base G.T KH 59 "all_steps" λF=>okk.j_18 d_bm d_bn _ _ F
 have d_bx:=Ke l.prog w base G.T KH 69 "tight_steps" λF=>okk.j_19 _ _ F
 have d_bp:=Ke l.prog w base G.T KH 60 "longer_walks" λF=>okk.j_20 _ _ F
 have cf:=Ke l.prog w base G.T KH 61 "widest_walks" λF=>okk.j_21 d_bp _ _ F
 have d_bv:=Ke l.prog w base G.T KH 66 "prices_for" λF=>okk.j_22 aR cf _ _ F
 have d_br:=Ke l.prog w base G.T KH 62 "round_within" λF=>okk.j_23 _ _ F
 have d_bt:=Ke l.prog w base G.T KH 64 "gaining_way" λF=>okk.j_24 aR cf d_br ce _ _ F
 have d_bu:=Ke l.prog w base G.T KH 65 "best_by" λF=>okk.j_25 d_bt cg _ _ F
 have d_al:=Ke l.prog w base G.T KH 21 "all_wishes" λF=>okk.j_26 zV _ _ F
 have aU:=Ke l.prog w base G.T KH 35 "power" λF=>okk.j_27 _ _ F
 have d_aw:=Ke l.prog w base G.T KH 37 "worth_by_turns" λF=>okk.j_28 aU _ _ F
 have d_av:=Ke l.prog w base G.T KH 36 "worth_by_order" λF=>okk.j_29 aU _ _ F
 have cr:=Ke l.prog w base G.T KH 19 "rank_in" λF=>okk.j_30 _ _ F
 have ci:=Ke l.prog w base G.T KH 38 "worth_by_aim" λF=>okk.j_31 aU d_aw d_av cr _ _ F
 have cn:=Ke l.prog w base G.T KH 20 "longest" λF=>okk.j_32 zV _ _ F
 have d_as:=Ke l.prog w base G.T KH 32 "is_turns" λF=>okk.j_33 aw _ _ F
 have d_ar:=Ke l.prog w base G.T KH 31 "is_old" λF=>okk.j_34 aw _ _ F
 have d_ap:=Ke l.prog w base G.T KH 28 "is_order" λF=>okk.j_35 _ _ F
 have d_aq:=Ke l.prog w base G.T KH 29 "look_at_order" λF=>okk.j_36 d_ap _ _ F
 have aV:=Ke l.prog w base G.T KH 33 "look_at_aim" λF=>okk.j_37 d_as d_ar d_aq zV _ _ F
 have aT:=Ke l.prog w base G.T KH 39 "all_worths" λF=>okk.j_38 d_al ci cn aV _ _ F
 have d_cd:=Ke l.prog w base G.T KH 76 "web_of" λF=>okk.j_39 d_cc d_cb d_bz aR d_bx d_bv d_bu aT _ _ F
 have d_bh:=Ke l.prog w base G.T KH 50 "shows_nothing" λF=>okk.j_40 _ _ F
 have d_bi:=Ke l.prog w base G.T KH 51 "shows_left" λF=>okk.j_41 cm _ _ F
 have d_be:=Ke l.prog w base G.T KH 47 "tight_wishes" λF=>okk.j_42 aT _ _ F
 have d_bg:=Ke l.prog w base G.T KH 49 "shows_wishes" λF=>okk.j_43 _ _ F
 have d_az:=Ke l.prog w base G.T KH 40 "worth_of" λF=>okk.j_44 ci cn aV _ _ F
 have d_bd:=Ke l.prog w base G.T KH 45 "claim_of" λF=>okk.j_45 zV _ _ F
 have d_am:=Ke l.prog w base G.T KH 23 "has_form" λF=>okk.j_46 ax _ _ F
 have d_an:=Ke l.prog w base G.T KH 24 "what_is_wrong" λF=>okk.j_47 cr d_am zV _ _ F
 have d_bf:=Ke l.prog w base G.T KH 48 "is_claimed" λF=>okk.j_48 d_az d_bd d_an _ _ F
 have d_ab:=Ke l.prog w base G.T KH 2 "is_number" λF=>okk.j_49 ax _ _ F
 have d_ac:=Ke l.prog w base G.T KH 3 "are_numbers" λF=>okk.j_50 d_ab _ _ F
 have d_ba:=Ke l.prog w base G.T KH 42 "is_number_list" λF=>okk.j_51 d_ac _ _ F
 have d_bb:=Ke l.prog w base G.T KH 43 "has_paper_form" λF=>okk.j_52 d_ba ax _ _ F
 have d_bc:=Ke l.prog w base G.T KH 44 "lets_paper" λF=>okk.j_53 d_bb aT _ _ F
 have d_bj:=Ke l.prog w base G.T KH 52 "lets_web" λF=>okk.j_54 d_bh d_bi d_be d_bg d_bf d_bc aV _ _ F
 have d_ch:=Ke l.prog w base G.T KH 81 "_law_rank" λF=>okk.j_55 _ _ F
 have d_ci:=Ke l.prog w base G.T KH 82 "_law_longest" λF=>okk.j_56 _ _ F
 have b8:=Ke l.prog w base G.T KH 85 "_law_worth" λF=>okk.j_57 d_ch d_ci _ _ F
 have b7:=Ke l.prog w base G.T KH 86 "_law_whole" λF=>okk.j_58 b8 _ _ F
 have d_cs:=Ke l.prog w base G.T KH 92 "_law_within" λF=>okk.j_59 _ _ F
 have b9:=Ke l.prog w base G.T KH 83 "_law_wished" λF=>okk.j_60 _ _ F
 have d_co:=Ke l.prog w base G.T KH 88 "_law_tight" λF=>okk.j_61 b9 b8 _ _ F
 have d_ct:=Ke l.prog w base G.T KH 93 "_law_right" λF=>okk.j_62 b7 d_cs d_co _ _ F
 have cc:=Ke l.prog w base G.T KH 78 "_law_cell_at" λF=>okk.j_63 _ _ F
 have aQ:=Ke l.prog w base G.T KH 79 "_law_numbers" λF=>okk.j_64 _ _ F
 have d_ck:=Ke l.prog w base G.T KH 84 "_law_aim" λF=>okk.j_65 aQ _ _ F
 have d_cq:=Ke l.prog w base G.T KH 90 "_law_bent_dealings" λF=>okk.j_66 _ _ F
 have d_cp:=Ke l.prog w base G.T KH 89 "_law_bent_paper" λF=>okk.j_67 _ _ F
 have d_cr:=Ke l.prog w base G.T KH 91 "_law_bent" λF=>okk.j_68 d_cq d_cp _ _ F
 have d_cn:=Ke l.prog w base G.T KH 87 "_law_all" λF=>okk.j_69 b9 _ _ F
 have d_cg:=Ke l.prog w base G.T KH 80 "_law_wishes" λF=>okk.j_70 aQ cc _ _ F
 exact λ{_ _} F=>okk.j_71 d_cd d_bj d_ct cc d_ck aQ d_cr b7 d_cn d_cg _ _ F
abbrev d_cu:DefRec:=⟨"law", T5 Scu,Vd Scu,Yo Scu,DX Scu⟩
def walk{YP:World->Heap->Prop}{XP:(Str->zw)->Heap->Prop}(hlaw:∀ns:zo,ns.length<=63->VH [.list (ns.map int)]=zd (.bool zk)):PySem.W.WalkO q0 [] XP YP (PySem.Challenge.rw_wishdeal_k57_whole_just_the_webs_dealing).row.toRowW d_cu [] (λf vs=>PySem.call f vs):=
 jc (n:=63) (k:=13) (x:= "_law_script") zh (by decide) zh ⟨rfl,by decide,by decide,rfl⟩ (λ_ _ _ _ _ _ G hm=>C1 G hm) hlaw
def Ry{f:M D}{ρ ρ1:UU}{d:D}{t:Bool}(h:f ρ=.ok d ρ1)(ht:(!isNon d)=t):U0 (λd=>!isNon d) f ρ=.ok t ρ1:=by subst ht;exact Kx (k:=λd=>!isNon d) h
def EM{sizes found:zo}{z d}(h:∀(j:Nat) d z,found[j]?=zd d->sizes[j]?=zd z->0<=d/\d<z)(hz:sizes[found.length]?=zd z)(h0:0<=d/\d<z) :
  ∀(j:Nat) d' z',(found++[d])[j]?=zd d'->sizes[j]?=zd z'->0<=d'/\d'<z':=by
 intro j d' z' e1 e2;by_cases hj:j<found.length
 .rw[Qw hj]at e1
  exact h j d' z' e1 e2
 .by_cases hj2:j=found.length
  .simp_all
  .rw[JD (by rw[Qi,QX];lia)]at e1
   cases e1
def inv(c s:Int)(sizes:zo)(n:Int)(i:Nat)(ρ:UU):Prop:=∃left found x6 x7,ρ=[zd (Sl.pub (.int c)),zd (.pub (.int s)),zd (.pub (.list (sizes.map .int))),zd (.pub (.int n)),zd (.pub (.int left)),zd (.own ((found:zo).map .int)),x6,x7] /\
 found.length=i/\∀(j:Nat) d z,found[j]?=zd d->sizes[j]?=zd z->0<=d/\d<z
def xf{c s n:Int}{sizes:zo}(hs:∀x∈sizes,0<x/\x<18446744073709551616)(hl:sizes.length<=1000){i:Nat}{d:D}{ρ:UU}{Q:Out->Prop}(hi:(YM 0 sizes.length)[i]?=zd d)(h:inv c s sizes n i ρ) :
  ∃ρ2,gN 6 d ρ=zd ρ2/\Ho Mj ρ2 (To (inv c s sizes n (i+1)) Q):=by
 obtain⟨left,found,x6,x7,rfl,hf,hfd⟩:=h;obtain⟨rfl,hlt⟩:=WK hi;obtain⟨z,hz⟩:∃z,sizes[i]?=zd z:=⟨sizes[i]'(by lia),Qe _⟩
 obtain⟨z1,z2⟩:=hs z (Qq hz);have hix:oIx (.list (sizes.map int)) (.int (0+(i:Int)))=zd (.int z):=by rw[Jv];exact Zq (by rw[Qd,hz];rfl)
 generalize hk:(0:Int)+(i:Int)=k at hix⊢;have hk1:k<18446744073709551616:=by lia
 have hk2 : -18446744073709551616<k:=by lia
 have hlen:(found.map int).length<1000000:=by rw[Qb];lia
 have pw:VA (.int 10) (.int 18)=zd (.int 1000000000000000000):=by rw[A0 (by decide)];rfl
 refine⟨_,UT (Qa zh) zh,?_⟩;unfold Mj;apply Kw
 case h1=>exact NK (ZS zh (U2 UW UW pw) zh) λ_=>ZS zh UW zh
 case h2=>intro _;refine Kf (WG zh (U2 (UM zh) (Kr zh (UM zh) hix) (Xj (by lia))) zh hlen zh) ?_;refine Z7 (Kt (U2 (UM zh) (Kr zh (UM zh) hix) (HX (by lia) (by lia))) (Qa zh) zh) (KU ?_);exact⟨_,found++[left % z],_,_,by rw[QA];rfl,by rw[Qi,hf];rfl,EM hfd (by rw[hf];exact hz) ⟨Int.emod_nonneg _ (by lia),Int.emod_lt_of_pos _ z1⟩⟩
 case h3=>intro _;refine Kf (Kt (U2 (U2 (U2 (U2 (UM zh) (U2 UW (UM zh) (WP (by decide) (by decide))) KW) (U2 (U2 UW (UM zh) (WP (by decide) (by decide))) (UM zh) (XE hk2 hk1)) KW) (UM zh) KW) UW (Xj (by decide))) (Qa zh) zh) ?_;refine Kf (Kt (U2 (U2 (UM zh) UW (XE (by decide) (by decide))) UW (Xj (by decide))) (Qa zh) zh) ?_;refine Kf (Kt (U2 (U2 (U2 (U2 (UM zh) (UM zh) (XE (by lia) (by lia))) UW (Xj (by decide))) UW (XE (by decide) (by decide))) UW (Xj (by decide))) (Qa zh) zh) ?_;refine Z7 (WG zh (U2 (U2 (UM zh) UW (HX (by decide) (by decide))) (Kr zh (UM zh) hix) (Xj (by lia))) zh hlen zh) (KU ?_);exact⟨_,found++[_ % z],_,_,by rw[QA];rfl,by rw[Qi,hf];rfl,EM hfd (by rw[hf];exact hz) ⟨Int.emod_nonneg _ (by lia),Int.emod_lt_of_pos _ z1⟩⟩
def Nl(c s:Int){sizes:zo}(hs:∀x∈sizes,0<x/\x<18446744073709551616)(hl:sizes.length<=1000) :
  ∃r,Y8 [.int c,.int s,.list (sizes.map int)]=zd r/\∃ds:zo,r=.list (ds.map .int)/\ds.length=sizes.length/\∀(j:Nat) d z,ds[j]?=zd d->sizes[j]?=zd z->0<=d/\d<z:=by
 refine XB  rfl ?_;refine Kf (Kt (Zf (UP (UM zh) (UP (U2 (WH UW) (UM zh) YT) UV)) Ml) (Qa zh) zh) ?_;refine Kf (Kt (UM zh) (Qa zh) zh) ?_;refine Kf (ZT (WO UV (Qa zh)) (Qa zh) zh) ?_;apply KL;apply Zs  (inv c s sizes _)
 case h1=>exact X6 (UP (Zg zh (by rw[K8,Qb])) UV) (X7 (by lia) (by lia))
 case h0=>exact⟨_,[],zj,zj,rfl,rfl,λj d z e=>by cases e⟩
 case hst=>exact λi d ρ e h=>xf hs hl e h
 case hend=>rintro ρ ⟨left,found,x6,x7,rfl,hf,hfd⟩;rw[YX]at hf;exact KI (Kk (Yi rfl rfl) ⟨_,rfl,found,rfl,by lia,hfd⟩)
theorem TK:∀{xs:zn},(∀x∈xs,PyData.canLay0 x=zk)->UC xs=zk
 |[],_=>rfl
 |x::r,h=>by
  show(PyData.canLay0 x&&UC r)=zk
  rw[h x Ql,TK λy hy=>h y (Qj _ hy)];rfl
theorem R6  : ∀{xs:zn},(∀x∈xs,UD x<=n)->PyData.depthAll xs<=n
 |[],_=>by simp[PyData.depthAll]
 |x::r,h=>by
  have h1:=h x Ql;have h2:=R6  λy hy=>h y (Qj _ hy);simp only[PyData.depthAll]
  lia
noncomputable def ZL(r:zo):D:=.list (r.map int)
noncomputable def K9(rs:List zo):D:=.list (rs.map ZL)
noncomputable def Kq(cs:zo)(ls:L3):D:=.tuple [.list (cs.map int),.list (ls.map K9)]
structure Sb(n:Nat)(rs:List zo):Prop where
 few:rs.length<=5
 some:∀r∈rs,r≠[]
 there:∀r∈rs,∀t∈r,0<=t/\t<n
 once:rs.flatten.Nodup
structure Good(cs:zo)(ls:L3):Prop where
 c1:1<=cs.length
 c6:cs.length<=6
 c7:∀c∈cs,0<=c/\c<8
 l1:1<=ls.length
 l7:ls.length<=7
 rk:∀rs∈ls,Sb cs.length rs
def qQ(r):(ZL r).canLay0=zk:=TK λx hx=>by obtain⟨y,_,rfl⟩:=Qo.mp hx;rfl
def Hz(i:Int):(int i).depth<=1:=by simp[UD]
def OG  {xs:zn}(h:PyData.depthAll xs<=n):(Uy xs).depth<=n+1:=by simp only[UD];lia
def qP(r):(ZL r).depth<=2:=OG (R6 λx hx=>by obtain⟨y,_,rfl⟩:=Qo.mp hx;exact Hz y)
def Eg(i):Yd [.int i]=zd (.bool zk):=by refine KY  rfl ?_;exact Kk (Wf (Kx (UM zh)) (λ_=>A1 (Kx (UM zh)))) zh
def O8  (h0:0<=i)(h1:i<m):Yc [.int i,.int m]=zd (.bool zk):=by
 refine KY  rfl ?_;have hb:(decide (0<=i)&&decide (i<m))=zk:=by simp_all
 refine Kk (Wf   (Kg (UP (UM zh) UV) zh (Eg i)) (λ_=>?_)) zh;rw[←hb];exact Kx (My UW (UM zh) zh (λ_=>UM zh) (λ_=>rfl))
def PR{α:Type}(l:List α):ZC [.list (l.map λ_=>.bool zk)]=zd (.bool zk):=by
 have:(l.map λ_=>Uz zk)=(l.map λ_=>zk).map Uz:=by rw[QO];rfl
 rw[this,TD];simp_all
def wK{r:zo}{n:Int}(hne:r≠[])(hl:r.length<=1000)(h:∀t∈r,0<=t/\t<n):W4 [ZL r,.int n]=zd (.bool zk):=by
 refine KY  rfl ?_;apply KL;have hlen:Ki [ZL r]=zd (.int r.length):=by unfold ZL;rw[K8,Qb]
 have hp:0<r.length:=List.length_pos_iff.mpr hne;apply Kw
 case h1=>exact Yk  (YU (UM zh) zh) (U2 (Zg zh hlen) UW YI)
 case h2=>intro hh;lia
 case h3=>
  intro _;refine KO (KI ?_)
  have hc:K6 (gN 2) (UR zk) (UX 2 Yc (UO (UL 2) (UO (UL 1) (UN)))) (r.map int) (KD [zd (.pub (ZL r)),zd (.pub (.int n))]++Ux 1 zj) []=zd (r.map λ_=>.bool zk):=by
   rw[Vu (λ_=>zk) (λ_=>.bool zk) (λρ=>∃x,ρ=[zd (.pub (ZL r)),zd (.pub (.int n)),x])]
   .rw[QJ.mpr (λ_ _=>rfl),Qy,QO];rfl
   .rintro d hm ρ ⟨x,rfl⟩
    obtain⟨t,ht,rfl⟩:=Qo.mp hm;exact⟨_,UT (Qa zh) zh,rfl,λ_=>Kg (UP (UM zh) (UP (UM zh) UV)) zh (O8 (h t ht).1 (h t ht).2),_,rfl⟩
   .exact⟨zj,rfl⟩
   .rw[Qb,Qt];lia
  exact Kk (Zf (UP (Kx (Zl (K7 (UM zh) zh) hc)) UV) (PR r)) zh
theorem Ef  (ha:WN a=a)(hb:WN b=b)(hc:WN c=c)(hx:WN x3=x3):∀(ds es:zn)(x4),es.length+ds.length<=1000000 ->
  ∃y,Xl (gN 4) (UR zk) (UL 4) ds [a,b,c,x3,x4] es=zd (es++ds,[a,b,c,x3,y])
 |[],es,x4,_=>⟨x4,by rw[Xl,Jd]⟩
 |d::r,es,x4,h=>by
  rw[QL]at h;obtain⟨y,e⟩:=Ef ha hb hc hx r (es++[d]) _ (by rw[Qi,QX];lia);refine⟨y,?_⟩;rw[Xl];have h1:gN 4 d [a,b,c,x3,x4]=zd [a,b,c,x3,zd (.pub d)]:=UT (Qa zh) zh;rw[h1];dsimp only[UR];rw[Qu zh];have h2:UL 4 [a,b,c,x3,zd (.pub d)]=.ok d [a,b,c,x3,zd (.pub d)]:=UM zh;rw[h2];dsimp only;rw[Qu (by lia)];have h3:KD [a,b,c,x3,zd (.pub d)]=[a,b,c,x3,zd (.pub d)]:=by unfold KD;simp only[QC,ha,hb,hc,hx];rfl
  rw[h3,e,Q5];rfl
theorem ED{a b:D}:∀(rs:List zo)(es:zn)(x3 x4:Option Sl),es.length+rs.flatten.length<=1000000 ->
  Va (gN 3) (UR zk) (KJ (UL 3)) (gN 4) (UR zk) (UL 4) (rs.map ZL) [zd (.pub a),zd (.pub b),zj,x3,x4] es=zd (es++rs.flatten.map int)
 |[],es,_,_,_=>by rw[List.map_nil,Va];simp
 |r::rs,es,x3,x4,h=>by rw[Js,Qi]at h;rw[QC,Va];have h1:gN 3 (ZL r) [zd (.pub a),zd (.pub b),zj,x3,x4]=zd [zd (.pub a),zd (.pub b),zj,zd (.pub (ZL r)),x4]:=UT (Qa zh) zh;rw[h1];dsimp only[UR];rw[Qu zh];have h2:KJ (UL 3) [zd (.pub a),zd (.pub b),zj,zd _,x4]=.ok (r.map int) [zd (.pub a),zd (.pub b),zj,zd (.pub (ZL r)),x4]:=K7 (UM zh) zh;rw[h2];dsimp only;have h3:KD [zd (.pub a),zd (.pub b),zj,zd (.pub (ZL r)),x4]=[zd (.pub a),zd (.pub b),zj,zd _,WN x4]:=rfl;rw[h3];obtain⟨y,e⟩:=Ef (a:=zd (.pub a)) (b:=zd (.pub b)) (c:=zj) (x3:=zd (.pub (ZL r))) zh zh zh zh (r.map int) es (WN x4) (by rw[Qb];lia);rw[e];dsimp only;have ih:=ED (a:=a) (b:=b) rs (es++r.map int) (zd (.pub (ZL r))) y (by rw[Qi,Qb];lia);refine Eq.trans ih ?_;rw[Js,QA,Q5]
def EL  (h:ns.Nodup):Py ns=ns.length:=by
 have:∀i,i<=ns.length->(PyProof.Rows.firstMet (λi=>ns.getD i 0) i).length=i:=by
  intro i;induction i with
  |zero=>intro _;rfl
  |succ i ih=>
   intro hi;rw[PyProof.Rows.firstMet_succ]
   have hany:(PyProof.Rows.firstMet (λi=>ns.getD i 0) i).any (· == ns.getD i 0)=zm:=by
    rw[PyProof.Rows.firstMet_any,List.any_eq_false];intro x hx;obtain⟨j,hj,rfl⟩:=Qo.mp hx;have hj:=QN.mp hj;intro e;have e   :=by simpa using e
    have l1:j<ns.length:=by lia
    have l2:i<ns.length:=by lia
    simp only[Qe l1,Qe l2]at e;exact absurd ((List.getElem_inj h).mp e) (by lia)
   unfold PyProof.Rows.step_dedup;rw[hany];rw[QH (by decide),Qi,ih (by lia)];rfl
 exact this ns.length (Qp _)
def ye{rs:List zo}{n:Nat}(g:Sb n rs)(hn:n<=6)(hf:rs.flatten.length<=1000):Tg [K9 rs,.int n]=zd (.bool zk):=by
 refine KY (ρ:=[zd (.pub (K9 rs)),zd (.pub (.int n)),zj]) zh ?_;unfold Rj;have hlen:Ki [K9 rs]=zd (.int rs.length):=by unfold K9;rw[K8,Qb]
 have h5:=g.few;have am:∀r∈rs,r.length<=1000:=λr hr=>QP (List.Sublist.length_le (List.sublist_flatten_of_mem hr)) hf;apply KL;apply Kw
 case h1=>exact Yk  (YU (UM zh) zh) (U2 (Zg zh hlen) UW zh)
 case h2=>intro hh;lia
 case h3=>
  intro _;refine KO (KI ?_)
  have hc:K6 (gN 3) (UR zk) (UX 2 W4 (UO (UL 3) (UO (UL 1) (UN)))) (rs.map ZL) (KD [zd (.pub (K9 rs)),zd (.pub (.int n)),zj]++Ux 1 zj) []=zd (rs.map λ_=>.bool zk):=by
   rw[Vu (λ_=>zk) (λ_=>.bool zk) (λρ=>∃x,ρ=[zd (.pub (K9 rs)),zd (.pub (.int n)),zj,x])]
   .rw[QJ.mpr (λ_ _=>rfl),Qy,QO];rfl
   .rintro d hm ρ ⟨x,rfl⟩
    obtain⟨r,hr,rfl⟩:=Qo.mp hm;exact⟨_,UT (Qa zh) zh,rfl,λ_=>Kg (UP (UM zh) (UP (UM zh) UV)) zh (wK (g.some r hr) (am r hr) (g.there r hr)),_,rfl⟩
   .exact⟨zj,rfl⟩
   .rw[Qb,Qt];lia
  apply KL;apply Kw
  case h1=>exact Yl (Yh (Zf (UP (Kx (Zl (K7 (UM zh) zh) hc)) UV) (PR rs)))
  case h2=>intro hh;cases hh
  case h3=>
   intro _;refine KO (KI ?_);have h2:PD (KJ (UL 0)) 2 (gN 3) (UR zk) (KJ (UL 3)) (gN 4) (UR zk) (UL 4) [zd (.pub (K9 rs)),zd (.pub (.int n)),zj]=.ok (rs.flatten.map int) [zd (.pub (K9 rs)),zd (.pub (.int n)),zj]:=by unfold PD;have e1:KJ (UL 0) [zd (.pub (K9 rs)),zd (.pub (.int n)),zj]=.ok (rs.map ZL) [zd (.pub (K9 rs)),zd (.pub (.int n)),zj]:=K7 (UM zh) zh;rw[e1];dsimp only;have e2:=ED (a:=K9 rs) (b:=.int n) rs [] zj zj (by rw[Qt];lia);have e3:Va (gN 3) (UR zk) (KJ (UL 3)) (gN 4) (UR zk) (UL 4) (rs.map ZL) (KD [zd (.pub (K9 rs)),zd (.pub (.int n)),zj]++Ux 2 zj) []=zd ([]++rs.flatten.map int):=e2;rw[e3];rfl
   refine Kf (ZT h2 (Qa zh) zh) ?_;have hls:Vp [.list (rs.flatten.map int)]=zd (.int rs.flatten.length):=by unfold Vp;dsimp only;rw[R3];dsimp only;rw[Qu (by lia),EL g.once]
   refine Kk (Kx (U2 (Zf (UP (Yi zh zh) UV) hls) (Zg zh K8) YI)) ?_;rw[Qb];simp
theorem Xd  : ∀{xs}{k i:Nat},(Yu k xs)[i]?=zd d->∃x,xs[i]?=zd x/\d=.tuple [.int ((k+i:Nat):Int),x]
 |[],k,i,h=>by cases h
 |x::r,k,0,h=>by cases h;exact⟨x,rfl,rfl⟩
 |x::r,k,i+1,h=>by obtain⟨y,e,q⟩:=Xd   (i:=i) h;exact⟨y,e,by rw[q];congr 4;lia⟩
theorem RX:∀(n:Nat)(l:zo),l.Nodup->(∀x∈l,0<=x/\x<n)->l.length<=n
 |0,[],_,_=>Qp _
 |0,x::r,_,h=>by have:=h x Ql;lia
 |n+1,l,hn,h=>by
  by_cases hm:(n:Int)∈l
  .have:=RX n (l.erase (n)) (hn.erase _) λx hx=>by
    have h1:=(List.Nodup.mem_erase_iff hn).mp hx;have h2:=h x h1.2
    lia
   simp_all
  .have:=RX n l hn λx hx=>by
    have h2:=h x hx;have h3:x≠(n):=λe=>hm (e ▸ hx)
    lia
   lia
def PV   (g:Sb n rs):rs.flatten.length<=n:=RX n _ g.once λx hx=>by obtain⟨r,hr,hxr⟩:=JY.mp hx;exact g.there r hr x hxr
def xc{cs:zo}(h1:1<=cs.length)(h6:cs.length<=6)(h:∀c∈cs,0<=c/\c<8):Th [.list (cs.map int)]=zd .none:=by
 refine Pw  rfl ?_;unfold Rk;have hlen:Ki [.list (cs.map int)]=zd (.int cs.length):=by rw[K8,Qb]
 apply KL;apply Kw
 case h1=>exact Yk  (YU (UM zh) zh) (Yl (My UW (Zg zh hlen) zh (λ_=>UW) (λ_=>rfl)))
 case h2=>
  intro hh;have a1:(1:Int)<=(cs.length:Int):=by lia
  have a2:(cs.length:Int)<=6:=by lia
  simp[a1,a2]at hh
 case h3=>
  intro _;refine KO (KI ?_);apply Zs (λ_ ρ=>∃x1 x2,ρ=[zd _,x1,x2])
  case h1=>exact Xc (UP (UM zh) UV) Xe
  case h0=>exact⟨_,_,rfl⟩
  case hst=>
   rintro i d ρ hi ⟨x1,x2,rfl⟩;obtain⟨x,hx,rfl⟩:=Xd hi;obtain⟨c,hc,rfl⟩:=Qo.mp (Qq hx);refine⟨_,Km zh (UZ (UT (Qa zh) zh) (UZ (UT (Qa zh) zh) Kn)),?_⟩;unfold Gc;apply Kw
   case h1=>exact Yl (Yh (Kg (UP (UM zh) (UP (U2 UW UW KW) UV)) zh (O8 (h c hc).1 (by have:=(h c hc).2;lia))))
   case h2=>intro hh;cases hh
   case h3=>exact λ_=>KO (KU ⟨_,_,rfl⟩)
  case hend=>exact λρ ⟨x1,x2,e⟩=>⟨_,rfl⟩
def qO{ls:L3}{n:Nat}(hn:n<=6)(h1:1<=ls.length)(h7:ls.length<=7)(h:∀rs∈ls,Sb n rs):Tf [.list (ls.map K9),.int n]=zd .none:=by
 refine Pw  rfl ?_;unfold Ri;have hlen:Ki [.list (ls.map K9)]=zd (.int ls.length):=by rw[K8,Qb]
 apply KL;apply Kw
 case h1=>exact Yk  (YU (UM zh) zh) (Yl (My UW (Zg zh hlen) zh (λ_=>UW) (λ_=>rfl)))
 case h2=>
  intro hh;have a1:(1:Int)<=(ls.length:Int):=by lia
  have a2:(ls.length:Int)<=7:=by lia
  simp[a1,a2]at hh
 case h3=>
  intro _;refine KO (KI ?_);apply Zs (λ_ ρ=>∃x2 x3,ρ=[zd _,zd (.pub (.int n)),x2,x3])
  case h1=>exact Xc (UP (UM zh) UV) Xe
  case h0=>exact⟨_,_,rfl⟩
  case hst=>
   rintro i d ρ hi ⟨x1,x2,rfl⟩;obtain⟨x,hx,rfl⟩:=Xd hi;obtain⟨rs,hrs,rfl⟩:=Qo.mp (Qq hx);refine⟨_,Km zh (UZ (UT (Qa zh) zh) (UZ (UT (Qa zh) zh) Kn)),?_⟩;have hfl:=PV (h rs hrs);apply Kw
   case h1=>exact Yl (Yh (Kg (UP (UM zh) (UP (UM zh) UV)) zh (ye (h rs hrs) hn (by lia))))
   case h2=>intro hh;cases hh
   case h3=>exact λ_=>KO (KU ⟨_,_,rfl⟩)
  case hend=>exact λρ ⟨x1,x2,e⟩=>⟨_,rfl⟩
def Sa  {ls}(g:Good cs ls):ZZ [Kq cs ls]=zd .none:=by
 refine Pw  rfl ?_;apply KL;apply Kw
 case h1=>exact Yk  (YU (UM zh) zh) (U2 (Zg zh zh) UW Vo)
 case h2=>intro hh;cases hh
 case h3=>
  intro _;refine KO (KI ?_);have hlen:Ki [.list (cs.map int)]=zd (.int (cs.length:Nat)):=by rw[K8,Qb]
  refine Kf (YW (UM zh) (Km zh (UZ (UT (Qa zh) zh) (UZ (UT (Qa zh) zh) Kn)))) ?_;refine Kf (We (Kg (UP (UM zh) UV) zh (xc g.c1 g.c6 g.c7))) ?_;exact Z7 (We (Kg (UP (UM zh) (UP (Zg zh hlen) UV)) zh (qO g.c6 g.l1 g.l7 g.rk))) ⟨_,rfl⟩
theorem Fw:∀(xs ys:zo),PyData.eqvAll (xs.map int) (ys.map int)=decide (xs=ys)
 |[],[]=>rfl
 |[],y::ys=>by simp[PyData.eqvAll]
 |x::xs,[]=>by simp[PyData.eqvAll]
 |x::xs,y::ys=>by
  have ih:=Fw xs ys
  show(UE _ _&&PyData.eqvAll _ _)=_
  have:UE (.int x) (.int y)=decide _:=rfl;simp_all
def xb  : oNe (.list (xs.map int)) (.list [])=zd (!decide (xs=[])):=by
 unfold oNe;have h1   :=qQ xs;have h3:(Uy (xs.map int)).depth<=60:=by have:=qP xs;unfold ZL at this;lia
 rw[Qu ⟨h1,rfl,h3⟩]
 congr 2
 exact Fw xs []
def Mf{xs:zn}{x}(h:xs.getLast?=zd x):oIx (.list xs) (.int (-1))=zd x:=by
 have hl:xs≠[]:=by rintro rfl;cases h
 have hp   :=List.length_pos_iff.mpr hl;rw[List.getLast?_eq_getElem?]at h
 show(ixN xs.length _).bind _=_
 unfold ixN;rw[QH (by decide),Qu (by lia)];have e2:(-1+(xs.length:Int)).toNat=xs.length-1:=by lia
 rw[e2];exact h
def OF{xs:zo}{k}(h:k<xs.length):oIx (.list (xs.map int)) (.int k)=zd (.int (xs.getD k 0)):=by refine Zq ?_;simp[List.getD,List.getElem?_eq_getElem h]
def P9(ns:zo)(k:Nat)(hl:ns.length<=1000):∃v,Y9 [.list (ns.map int),.int k]=zd (.int v):=by
 have hlen:Ki [.list (ns.map int)]=zd (.int ns.length):=by rw[K8,Qb]
 by_cases h:k<ns.length
 .refine⟨ns.getD k 0,KY  rfl ?_⟩
  apply KL;apply Kw
  case h1=>exact ZS zh (Zg zh hlen) zh
  case h2=>exact λ_=>Kk (Kr zh (UM zh) (OF h)) (ZK zh)
  case h3=>lia
 .refine⟨0,KY  rfl ?_⟩
  apply KL;apply Kw
  case h1=>exact ZS zh (Zg zh hlen) zh
  case h2=>lia
  case h3=>exact λ_=>KO (KI (Kk UW zh))
noncomputable def tab:zo:=[1,1,2,0,3,7,1,4,5,6,1]
def L5  (h0:0<=z)(h1:z<11):oIx (.list (tab.map int)) (.int z)=zd (.int (tab.getD z.toNat 0))/\0<=tab.getD z.toNat 0/\tab.getD z.toNat 0<8:=by
 have e:z=0∨z=1∨z=2∨z=3∨z=4∨z=5∨z=6∨z=7∨z=8∨z=9∨z=10:=by lia
 rcases e with rfl|rfl|rfl|rfl|rfl|rfl|rfl|rfl|rfl|rfl|rfl<;>exact⟨rfl,by decide,by decide⟩
structure TY(n:Nat)(pl:zo)(j:Nat)(rs:List zo):Prop where
 few:rs.length<=j
 some:∀r∈rs,r≠[]
 there:∀r∈rs,∀t∈r,(0<=t/\t<n)/\pl.getD t.toNat 0<1+(j:Int)
 once:rs.flatten.Nodup
noncomputable def Rx(n:Nat)(pl:zo)(r:Int):zo:=((Uw n).filter λk=>decide (pl.getD k 0=r)).map λk:Nat=>(k:Int)
def yd(n)(pl)(r):(Rx n pl r).Nodup:=by refine List.Pairwise.map _ (λa b h e=>h (by lia)) ((List.nodup_range).filter _)
def Ee    (h:t∈Rx n pl r):(0<=t/\t<n)/\pl.getD t.toNat 0=r:=by obtain⟨k,hk,rfl⟩:=Qo.mp h;simp_all
def TY.add{n:Nat}{pl:zo}{j:Nat}{rs}{row}(g:TY n pl j rs)(hne:row≠[])(hm:∀t∈row,t∈Rx n pl (1+(j:Int)))(hn:row.Nodup):TY n pl (j+1) (rs++[row]) where
 few:=by rw[Qi,QX];have:=g.few;lia
 some:=λr hr=>by
  rcases QG.mp hr with z|z
  .exact g.some r z
  .rw[Qv.mp z];exact hne
 there:=λr hr t ht=>by
  rcases QG.mp hr with z|z
  .have:=g.there r z t ht;exact⟨this.1,by lia⟩
  .rw[Qv.mp z]at ht
   have:=Ee (hm t ht);exact⟨this.1,by lia⟩
 once:=by
  rw[List.flatten_append,List.flatten_singleton];refine List.nodup_append.mpr ⟨g.once,hn,λa ha b hb e=>?_⟩;subst e;obtain⟨r,hr,har⟩:=JY.mp ha;have h1:=(g.there r hr a har).2;have h2:=(Ee (hm a hb)).2
  lia
noncomputable def TY.next    {rs}(g:TY n pl j rs):TY n pl (j+1) rs:=
 ⟨by have:=g.few;lia,g.some,λr hr t ht=>⟨(g.there r hr t ht).1,by have:=(g.there r hr t ht).2;lia⟩,g.once⟩
def OQ{x:D}{m:Nat}(h:m<=1000):Ks (.list [x]) (.int m)=zd (.list (Ux m x)):=by rw[O5 ⟨by lia,by lia,by show 1*m<=_;lia⟩];simp_all
noncomputable def szG(T A:Nat):zo:=(T:Int)::(A:Int)::Ux T 11
noncomputable def Y0(T R:Nat):zo:=Ux T ((R:Int)+1)++[2]
def Hy{T A:Nat}:(szG T A).length=T+2:=by unfold szG;simp
def Fv{T R:Nat}:(Y0 T R).length=T+1:=by unfold Y0;simp
def C0  (h1:1<=T)(h2:T<=6)(h3:1<=A)(h4:A<=7):∀x∈szG T A,0<x/\x<18446744073709551616:=λx hx=>by
 unfold szG at hx
 grind
def A4{T R}(h:R<=5):∀x∈Y0 T R,0<x/\x<18446744073709551616:=λx hx=>by unfold Y0 at hx;simp only[List.mem_append,List.mem_singleton,List.mem_replicate]at hx;rcases hx with ⟨_,rfl⟩|rfl<;>lia
def xa{T R:Nat}:(Y0 T R)[T]?=zd 2:=by unfold Y0;simp
def CZ{T A k}(h:k<T):(szG T A)[2+k]?=zd 11:=by unfold szG;rw[show 2+k=k+1+1 by lia,JX,JX,Qz,Qu h]
def Nw(T A R:Nat)(S dz:D)(at_ n:Nat)(cs pl:zo)(ls:L3)(x9 ag:Option Sl)(j:Nat)(ρ:UU):Prop:=∃(rs:List zo)(aW zR:Option Sl),
 ρ=[zd (.pub S),zd (.pub (.int at_)),zd (.pub (.int (T:Nat))),zd (.pub (.int (A:Nat))),zd (.pub (.int (R:Nat))),zd (.pub dz),zd (.own (cs.map int)),zd (.own (ls.map K9)),x9,ag,zd (.pub (.list (pl.map int))),zd (.own (rs.map ZL)),aW,zR]/\TY n pl j rs
def wJ{T A R:Nat}{S dz:D}{at_ n:Nat}{cs pl:zo}{ls:L3}{v9 v10:D}{j:Nat}{d:D}{ρ:UU}{Q:Out->Prop}(hcs:cs.length=n)(hT:T<=6)(hR:R<=5)(hn:n<=T)(hpl:pl.length=T+1)(zI:pl.getD T 0=0∨pl.getD T 0=1)
  (hj:(YM 1 ((R:Int)+1))[j]?=zd d) (h:Nw T A R S dz at_ n cs pl ls (zd (.pub v9)) (zd (.pub v10)) j ρ) :
  ∃ρ2,gN 12 d ρ=zd ρ2/\Ho Mh ρ2 (To (Nw T A R S dz at_ n cs pl ls (zd (.pub v9)) (zd (.pub v10)) (j+1)) Q):=by
 obtain⟨rs,aW,zR,rfl,g⟩:=h;obtain⟨rfl,hlt⟩:=WK hj;have hj5:j<R:=by lia
 refine⟨_,UT (Qa zh) zh,?_⟩;unfold Mh
 have hrd:YM 0 ((n:Nat):Int)=(Uw n).map λk=>.int (k:Int):=by
  unfold YM;have:((n:Int)-0).toNat=n:=by lia
  rw[this];apply List.map_congr_left;intro k _;rw[Jv]
 have hc:K6 (gN 14) (UQ oEq (UY 10 (UL 14)) (UL 12)) (UL 14) (YM 0 ((n:Nat):Int)) (KD [zd (.pub S),zd (.pub (.int at_)),zd (.pub (.int (T:Nat))),zd (.pub (.int (A:Nat))),zd (.pub (.int (R:Nat))),zd (.pub dz),zd (.own (cs.map int)),zd (.own (ls.map K9)),zd (.pub v9),zd (.pub v10),zd (.pub (.list (pl.map int))),zd (.own (rs.map ZL)),zd (.pub (.int (1+(j:Int)))),zR]++Ux 1 zj) []=zd ((Rx n pl (1+(j:Int))).map int):=by
  rw[hrd,Vu (λd=>match d with | .int k=>decide (pl.getD k.toNat 0=1+(j:Int))|_=>zm) (λd=>d) (λρ=>∃x,ρ=[zd (.pub S),zd (.pub (.int at_)),zd (.pub (.int (T:Nat))),zd (.pub (.int (A:Nat))),zd (.pub (.int (R:Nat))),zd (.pub dz),zj,zj,zd (.pub v9),zd (.pub v10),zd (.pub (.list (pl.map int))),zj,zd (.pub (.int (1+(j:Int)))),WN zR,x])]
  .rw[Qy,List.map_id',List.filter_map]
   unfold Rx;rw[QO];rfl
  .rintro d hm ρ ⟨x,rfl⟩
   obtain⟨k,hk,rfl⟩:=Qo.mp hm;have hk:=QN.mp hk;refine⟨_,UT (Qa zh) zh,U2 (Kr zh (UM zh) (OF (by lia))) (UM zh) YI,λ_=>UM zh,zd (.pub (.int k)),?_⟩;unfold KD;cases zR with
   |none=>rfl
   |some sl=>cases sl<;>rfl
  .exact⟨zj,rfl⟩
  .rw[Qb,Qs,Qt];lia
 have hlen:(cs.map int).length=n:=by rw[Qb,hcs]
 refine Kf (ZT (Zl (X6 (UP (HY zh) UV) (by rw[hlen];exact X7 (by lia) (by lia))) hc) (Qa zh) zh) ?_;generalize bw:Rx n pl (1+(j:Int))=row;apply Kw
 case h1=>exact kJ zh (KZ UV (by decide)) zh xb
 case h2=>
  intro hh;have hne:row≠[]:=by simpa using hh
  have hlx:oIx (.list (pl.map int)) (.int (-1))=zd (.int (pl.getD T 0)):=Mf (by rw[List.getLast?_eq_getElem?,Qb,hpl,Qd,Nat.add_sub_cancel];simp[List.getD,List.getElem?_eq_getElem (show T<pl.length by lia)])
  obtain⟨zZ,hix,z8⟩:∃zZ:zo,oIx (.list [.list (row.map int),.list (row.map int).reverse]) (.int (pl.getD T 0))=zd (ZL zZ)/\(zZ=row∨zZ=row.reverse):=by
   rcases zI with e|e
   .rw[e];exact⟨row,rfl,.inl zh⟩
   .rw[e];exact⟨row.reverse,by show zd (Uy (row.map int).reverse)=_;unfold ZL;rw[List.map_reverse],.inr zh⟩
  have am:(rs.map ZL).length<1000000:=by rw[Qb];have:=g.few;lia
  refine Z7 (WG zh (U2 (KZ (UP (Yi zh zh) (UP (Px (UM zh) UW UW (ZE (WH UW))) UV)) (Qa zh)) (Kr zh (WH UW) hlx) hix) zh am zh) ?_;refine KU ⟨rs++[zZ],zd (.pub (.int (1+(j:Int)))),zd (.pub (.list (row.map int))),by rw[QA];rfl,g.add ?_ ?_ ?_⟩
  .rcases z8 with e|e<;>rw[e]
   .exact hne
   .exact λz=>hne (List.reverse_eq_nil_iff.mp z)
  .intro t ht
   rw[bw];rcases z8 with e|e<;>rw[e]at ht
   .exact ht
   .exact List.mem_reverse.mp ht
  .have hnd:=yd n pl (1+(j:Int))
   rw[bw]at hnd;rcases z8 with e|e<;>rw[e]
   .exact hnd
   .exact(List.reverse_perm row).nodup_iff.mpr hnd
 case h3=>exact λ_=>KO (KU ⟨rs,_,_,rfl,g.next⟩)
def Nv(T A R:Nat)(S dz:D)(at_ n:Nat)(cs:zo)(i:Nat)(ρ:UU):Prop:=∃(ls:L3)(x9 ag zH x12 aW zR:Option Sl),
 ρ=[zd (.pub S),zd (.pub (.int at_)),zd (.pub (.int (T:Nat))),zd (.pub (.int (A:Nat))),zd (.pub (.int (R:Nat))),zd (.pub dz),zd (.own (cs.map int)),zd (.own (ls.map K9)),x9,ag,zH,x12,aW,zR]/\ls.length=i/\∀rs∈ls,Sb n rs/\rs.length<=R
def yc{T A R:Nat}{ns:zo}{dz:D}{at_ n:Nat}{cs:zo}{i:Nat}{m:Int}{d:D}{ρ:UU}{Q:Out->Prop}(hns:ns.length<=1000)(hT:T<=6)(hR:R<=5)(hcs:cs.length=n)(hn:n<=T)(hm:m<=100)
  (hi:(YM 0 m)[i]?=zd d) (h:Nv T A R (.list (ns.map int)) dz at_ n cs i ρ) :
  ∃ρ2,gN 8 d ρ=zd ρ2/\Ho Mg ρ2 (To (Nv T A R (.list (ns.map int)) dz at_ n cs (i+1)) Q):=by
 obtain⟨ls,x9,ag,zH,x12,aW,zR,rfl,hl,hg⟩:=h;obtain⟨rfl,hlt⟩:=WK hi;refine⟨_,UT (Qa zh) zh,?_⟩;unfold Mg;obtain⟨v,hv⟩:=P9 ns (at_+1+i) hns;have ev:((at_:Int)+1+(0+(i:Int)))=((at_+1+i:Nat):Int):=by lia
 rw[←ev]at hv;refine Kf (Kt (Kg (UP (UM zh) (UP (U2 (U2 (UM zh) UW KW) (UM zh) KW) UV)) zh hv) (Qa zh) zh) ?_;obtain⟨r,hF,pl,rfl,hpl,bz⟩:=Nl v (11*(at_:Int)+3*(0+(i:Int))+1) (sizes:=Y0 T R) (A4 hR) (by rw[Fv];lia);have hpl7:pl.length=T+1:=by rw[hpl,Fv]
 have hmul:Ks (.list [.int ((R:Int)+1)]) (.int (T:Nat))=zd _:=OQ (by lia);have hadd:U1 (.list (Ux T (.int ((R:Int)+1)))) (.list [.int 2])=zd (.list ((Y0 T R).map int)):=by rw[Xx (by rw[QF];show T+1<=_;lia)];unfold Y0;rw[QA,JM];rfl
 refine Kf (Kt (Kg (UP (UM zh) (UP (U2 (U2 (U2 UW (UM zh) (WP (by decide) (by decide))) (U2 UW (UM zh) (WP (by decide) (by decide))) KW) UW KW) (UP (U2 (U2 (KZ (UP (U2 (UM zh) UW KW) UV) (Qa zh)) (UM zh) hmul) (KZ (UP UW UV) (Qa zh)) hadd) UV))) zh hF) (Qa zh) zh) ?_;refine Kf (ZT (WO UV (Qa zh)) (Qa zh) zh) ?_
 have zI:pl.getD T 0=0∨pl.getD T 0=1:=by
  have e:pl[T]?=zd pl[T]:=Qe (by lia);have:=bz T pl[T] 2 e xa;have e2:pl.getD T 0=pl[T]:=by simp[List.getD,e]
  rw[e2];lia
 apply KL;apply Zs (Nw T A R (.list (ns.map int)) dz at_ n cs pl ls (zd (.pub (.int (0+(i:Int))))) (zd (.pub (.int v))))
 case h1=>exact A3 (UP UW (UP (U2 (UM zh) UW KW) UV)) (kL (by lia) (by lia) (by decide) (by decide))
 case h0=>exact⟨[],aW,zR,rfl,⟨Qp _,λ_ h=>(by cases h),λ_ h=>(by cases h),List.nodup_nil⟩⟩
 case hst=>exact λj d ρ e h=>wJ hcs hT hR hn hpl7 zI e h
 case hend=>
  rintro ρ ⟨rs,y13,y14,rfl,g⟩;refine KI ?_;have hl5:(YM 1 ((R:Int)+1)).length=R:=by rw[YX];lia
  rw[hl5]at g;have zJ:(ls.map K9).length<1000000:=by rw[Qb];lia
  refine Z7 (WG zh (Yi zh zh) zh zJ zh) ?_;refine KU ⟨ls++[rs],zd (.pub (.int (0+(i:Int)))),zd (.pub (.int v)),zd (.pub (.list (pl.map int))),zd (.pub (.list (rs.map ZL))),y13,y14,by rw[QA];rfl,by rw[Qi,hl];rfl,λx hx=>?_⟩;rcases QG.mp hx with z|z
  .exact hg x z
  .rw[Qv.mp z];exact⟨⟨by have:=g.few;lia,g.some,λr hr t ht=>(g.there r hr t ht).1,g.once⟩,g.few⟩
def yy(T A R:Nat){ns:zo}(hns:ns.length<=1000)(at_:Nat)(hT1:1<=T:=by decide)(hT:T<=6:=by decide)(hA1:1<=A:=by decide)(hA:A<=7:=by decide)(hR:R<=5:=by decide):∃r,VO [.list (ns.map int),.int at_,.int (T:Nat),.int (A:Nat),.int (R:Nat)]=zd r/\∃cs ls,r=Kq cs ls/\Good cs ls/\cs.length<=T/\ls.length<=A/\∀rs∈ls,rs.length<=R:=by
 obtain⟨v,hv⟩:=P9 ns at_ hns;obtain⟨r,hF,ds,rfl,hl,hd⟩:=Nl v at_ (sizes:=szG T A) (C0 hT1 hT hA1 hA) (by rw[Hy];lia);have hl8:ds.length=T+2:=by rw[hl,Hy]
 have at':∀(j:Nat)(k z:Int),k=j->(szG T A)[j]?=zd z->∃d,oIx (.list (ds.map int)) (.int k)=zd (.int d)/\ds[j]?=zd d/\0<=d/\d<z:=λj k z hk hz=>by
  subst hk;have hj:j<ds.length:=by rw[hl];exact(Qg.mp hz).1
  have e:ds[j]?=zd ds[j]:=Qe hj;obtain⟨p0,p1⟩:=hd j ds[j] z e hz;exact⟨ds[j],Zq (by rw[Qd,e];rfl),e,p0,p1⟩
 obtain⟨d0,x0,e0,p0,q0⟩:=at' 0 0 T zh zh;obtain⟨d1,x1,e1,p1,q1⟩:=at' 1 1 A zh zh;have hmul:Ks (.list [.int 11]) (.int (T:Nat))=zd (.list (Ux T (.int 11))):=OQ (by lia);have hadd:U1 (.list [.int (T:Nat),.int (A:Nat)]) (.list (Ux T (.int 11)))=zd (.list ((szG T A).map int)):=by rw[Xx (by rw[QF];show 2+T<=_;lia)];unfold szG;rw[QC,QC,JM];rfl
 obtain⟨n,hn⟩:∃n:Nat,1+d0=n:=⟨(1+d0).toNat,by lia⟩
 refine XB  rfl ?_;unfold Sw;refine Kf (Kt (Kg (UP (Kg (UP (UM zh) (UP (UM zh) UV)) zh hv) (UP (UM zh) (UP (U2 (KZ (UP (UM zh) (UP (UM zh) UV)) (Qa zh)) (U2 (KZ (UP UW UV) (Qa zh)) (UM zh) hmul) hadd) UV))) zh hF) (Qa zh) zh) ?_
 have zQ:DL.cutD (ds.map int) (zd 2) (zd (3+d0))=((ds.drop 2).take n).map int:=by
  rw[Mv (by decide) (by lia) (by lia)];have:(3+d0).toNat-(2:Int).toNat=n:=by lia
  rw[this];rfl
 have ay:((ds.drop 2).take n).length=n:=by rw[QT,Ji,hl8];lia
 have each:∀z∈(ds.drop 2).take n,0<=z/\z<11:=λz hz=>by
  have hz:=JG hz;obtain⟨k,hk,e⟩:=List.getElem_of_mem hz;rw[Ji,hl8]at hk;rw[List.getElem_drop]at e;have e2:ds[2+k]?=zd z:=by rw[←e];exact Qe _
  refine hd (2+k) z 11 e2 (CZ ?_)
  lia
 let cs:zo:=((ds.drop 2).take n).map λz=>tab.getD z.toNat 0
 have hcl:cs.length=n:=by show(List.map _ _).length=n;rw[Qb,ay]
 have hc:∀xs:List (Option Sl),KD xs=xs->xs.length=14->K6 (gN 14) (UR zk) (UQ oIx (Kh (UO (UR (.int 1)) (UO (UR (.int 1)) (UO (UR (.int 2)) (UO (UR (.int 0)) (UO (UR (.int 3)) (UO (UR (.int 7)) (UO (UR (.int 1)) (UO (UR (.int 4)) (UO (UR (.int 5)) (UO (UR (.int 6)) (UO (UR (.int 1)) (UN))))))))))))) (UL 14)) (((ds.drop 2).take n).map int) (KD xs++Ux 1 zj) []=zd (cs.map int):=by
  intro xs hx hxl;rw[hx,Vu (λ_=>zk) (λd=>match d with | .int z=>.int (tab.getD z.toNat 0)|_=>.none) (λρ=>∃x,ρ=xs++[x])]
  .rw[QJ.mpr (λ_ _=>rfl),Qy,QO]
   show _=zd ((((ds.drop 2).take n).map λz=>tab.getD z.toNat 0).map int);rw[QO];rfl
  .rintro d hm ρ ⟨x,rfl⟩
   obtain⟨z,hz,rfl⟩:=Qo.mp hm;have ht:=L5 (each z hz).1 (each z hz).2;have hset:(xs++[x]).set 14 (zd (Sl.pub (.int z)))=xs++[zd (.pub (.int z))]:=by rw[List.set_append_right _ _ (by lia),hxl];rfl
   have hget:(xs++[zd (Sl.pub (.int z))])[14]?=zd (zd (Sl.pub (.int z))):=by rw[Qx (by lia),hxl];rfl
   refine⟨_,UT (by rw[Qi,hxl];exact Qa zh) hset,rfl,λ_=>?_,zd (.pub (.int z)),?_⟩
   .exact U2 (KZ (UP UW (UP UW (UP UW (UP UW (UP UW (UP UW (UP UW (UP UW (UP UW (UP UW (UP UW UV))))))))))) (Qa zh)) (UM hget) ht.1
   .unfold KD at hx⊢
    rw[QA,hx];rfl
  .exact⟨zj,rfl⟩
  .rw[Qb,ay,Qt];lia
 refine Kf (ZT (Zl (K7 (Ye (UM zh) (ZE UW) (ZE (U2 UW (Kr zh UW x0) KW)) (by rw[Yg,zQ])) Zh) (hc _ zh zh)) (Qa zh) zh) ?_;refine Kf (ZT (WO UV (Qa zh)) (Qa zh) zh) ?_;apply KL;apply Zs (Nv T A R (.list (ns.map int)) (.list (ds.map int)) at_ n cs)
 case h1=>exact X6 (UP (U2 UW (Kr zh UW x1) KW) UV) (X7 (by lia) (by lia))
 case h0=>exact⟨[],_,_,_,_,_,_,rfl,rfl,λ_ h=>by cases h⟩
 case hst=>exact λi d ρ e h=>yc hns hT hR hcl (by lia) (by lia) e h
 case hend=>rintro ρ ⟨ls,y9,y10,y11,y12,y13,y14,rfl,zJ,hg⟩;rw[YX]at zJ;refine KI (Kk (Zk (UP (Yi rfl rfl) (UP (Yi rfl rfl) UV)) (Qa rfl)) ⟨_,rfl,cs,ls,rfl,⟨?_,by lia,by lia,λrs hrs=>(hg rs hrs).2⟩⟩);exact⟨by lia,by lia,λc hc=>by obtain⟨z,hz,rfl⟩:=Qo.mp hc;exact(L5 (each z hz).1 (each z hz).2).2,by lia,by lia,λrs hrs=>by rw[hcl];exact(hg rs hrs).1⟩
noncomputable def Zr(t:Int)(rs:List zo):Nat:=if rs.findIdx (λr=>r.contains t)<rs.length then rs.findIdx (λr=>r.contains t)+1 else 0
def Me(t)(r):oIn (.int t) (ZL r)=zd (r.contains t):=by
 have h1:UC (r.map int)=zk:=by
  induction r with
  |nil=>rfl
  |cons x r ih=>rw[QC];unfold UC;rw[ih];rfl
 unfold oIn ZL;dsimp only;rw[Qu ⟨rfl,h1,JS _⟩]
 congr 1
 rw[J9];clear h1;induction r with
 |nil=>rfl
 |cons x r ih=>
  rw[List.any_cons]
  congr 1
  exact Bool.eq_iff_iff.2 ⟨λh=>beq_iff_eq.2 (beq_iff_eq.1 h).symm,λh=>beq_iff_eq.2 (beq_iff_eq.1 h).symm⟩
def Ed  {rs}{i}{r}(hr:rs[i]?=zd r)(h:r.contains t=zk)(hb:∀j r,j<i->rs[j]?=zd r->r.contains t=zm):Zr t rs=1+i:=by obtain⟨hi,e⟩:=List.getElem?_eq_some_iff.1 hr;have hf   :=(List.findIdx_eq hi).2 ⟨by rw[e];exact h,λj hj=>hb j _ hj (Qe _)⟩;unfold Zr;rw[hf,Qu hi,Nat.add_comm]
def Ec  {rs}(hb:∀j r,j<rs.length->rs[j]?=zd r->r.contains t=zm):Zr t rs=0:=by
 have hf   :=List.findIdx_eq_length.2 λr hr=>by obtain⟨j,hj,e⟩:=List.mem_iff_getElem.1 hr;exact hb j r hj (by simp_all)
 unfold Zr;rw[hf,QH (Jo _)]
def EK(t:Int)(rs):Wy [K9 rs,.int t]=zd (.int (Zr t rs:Nat)):=by
 refine KY  rfl ?_;apply KL;apply Zs (λi ρ=>(∃x2 x3,ρ=[zd _,zd (.pub (.int t)),x2,x3])/\∀j r,j<i->rs[j]?=zd r->r.contains t=zm)
 case h1=>exact jj (UP (UM zh) UV) xN
 case h0=>exact⟨⟨_,_,rfl⟩,λj r h=>absurd h (Je _)⟩
 case hst=>
  rintro i d ρ hi ⟨⟨x2,x3,rfl⟩,hb⟩;obtain⟨x,hx,rfl⟩:=Xd hi;rw[Qd]at hx;cases hr:rs[i]? with
  |none=>rw[hr]at hx;cases hx
  |some r=>
   rw[hr]at hx;cases hx;refine⟨_,Km zh (UZ (UT (Qa zh) zh) (UZ (UT (Qa zh) zh) Kn)),?_⟩;apply Kw
   case h1=>exact ZS zh (UM zh) (Me t r)
   case h2=>intro hh;refine Kk (UM zh) (Vi ?_);rw[Ed hr hh hb];exact⟨rfl⟩
   case h3=>
    intro hh;refine KO (KU ⟨⟨_,_,rfl⟩,λj r' hj hr'=>?_⟩);rcases Nat.lt_succ_iff_lt_or_eq.1 hj with h|rfl
    .exact hb j r' h hr'
    .rw[hr]at hr';cases hr';exact hh
 case hend=>rintro ρ ⟨⟨x2,x3,rfl⟩,hb⟩;rw[Yt,Qb]at hb;refine KI ?_;rw[Ec hb];exact Kk UW rfl
noncomputable def Kb:zx->D
 |none=>.none
 |some t=>.int t
noncomputable def U9(ws:LO):D:=.list (ws.map Kb)
def yb{ws:LO}(hl:ws.length<=1000):W3 [U9 ws,.int ws.length]=zd (.bool zk):=by
 refine KY (ρ:=[zd (.pub (U9 ws)),zd (.pub (.int ws.length))]) zh ?_;unfold VE;apply KL;have hlen:Ki [U9 ws]=zd (.int ws.length):=by unfold U9;rw[K8,Qb]
 apply Kw
 case h1=>exact Yk (ρ1:=[zd (.pub (U9 ws)),zd (.pub (.int ws.length))]) (YU (UM zh) zh) (U2 (Zg zh hlen) (UM zh) Vo)
 case h2=>intro hh;simp at hh
 case h3=>
  intro _;refine KO (KI ?_)
  have hc:K6 (gN 2) (UR zk) (Y4 (U0 (λd=>.bool (isNon d)) (UL 2)) (UX 1 Yd (UO (UL 2) (UN)))) (ws.map Kb) (KD [zd (.pub (U9 ws)),zd (.pub (.int ws.length))]++Ux 1 zj) []=zd (ws.map λ_=>.bool zk):=by
   rw[Vu (λ_=>zk) (λ_=>.bool zk) (λρ=>∃x,ρ=[zd (.pub (U9 ws)),zd (.pub (.int ws.length)),x])]
   .rw[QJ.mpr (λ_ _=>rfl),Qy,QO];rfl
   .rintro d hm ρ ⟨x,rfl⟩
    obtain⟨t,ht,rfl⟩:=Qo.mp hm;refine⟨_,UT (Qa zh) zh,rfl,λ_=>?_,_,rfl⟩;cases t with
    |none=>exact T2 (t:=zk) (u:=zk) (Kx (k:=λd=>Uz (isNon d)) (x:=.none) (UM zh)) (λh=>nomatch h)
    |some t=>exact T2 (t:=zm) (u:=zk) (Kx (k:=λd=>Uz (isNon d)) (x:=.int t) (UM zh)) (λ_=>Kg (UP (UM zh) UV) zh (Eg t))
   .exact⟨zj,rfl⟩
   .rw[Qb,Qt];omega
  exact Kk (Zf (UP (Kx (Zl (K7 (UM zh) zh) hc)) UV) (PR ws)) zh
structure Deal(cs:zo)(ls:L3)(ws:LO):Prop where
 len:ws.length=ls.length
 wish:∀(i:Nat) t rs,ws[i]?=zd (zd t)->ls[i]?=zd rs->t∈rs.flatten
 cop:∀(k:Nat) c,cs[k]?=zd c->((ws.count (zd (k:Int)):Nat):Int)<=c
def M6   (h:t∈rs.flatten):Zr t rs≠0:=by unfold Zr;simp_all
def OV(ws:LO):UC (ws.map Kb)=zk:=TK λx hx=>by obtain⟨y,_,rfl⟩:=Qo.mp hx;cases y<;>rfl
def Md(a b):UE (Kb a) (Kb b)=decide (a=b):=by rw[JO];cases a<;>cases b<;>simp[Kb,UE]
def O4   : TH (U9 ws) (.int k)=zd (.int (ws.count (zd k):Nat)):=by
 unfold U9 TH;dsimp only;rw[if_pos ⟨rfl,OV ws,by simp[UD]⟩]
 congr 3
 induction ws with
 |nil=>rfl
 |cons w r ih=>rw[QC,List.countP_cons,Uf,ih];have:=Md w (zd k);have e:Kb (zd k)=.int k:=rfl;simp_all
def Fu   {s}{t}{g}{ρ ρ1}{ds es}(h1:f ρ=.ok ds ρ1)(h2:K6 s t g ds (Yn ρ1++Ux k zj) []=zd es)(h3:es.all flat=zk):RI f k s t g ρ=.ok es ρ1:=by unfold RI;rw[h1];dsimp only;rw[h2];dsimp only;rw[if_pos h3]
def Eb  {ls}{rs}{i:Nat}(hi:ls[i]?=zd rs)(hl:rs.flatten.length<64):Wt [Kq cs ls,.int i]=zd (.list ((YR rs.flatten).map int)):=by
 refine KY  rfl ?_;have i1:oIx (Kq cs ls) (.int 1)=zd _:=Zq (j:=1) zh;have i2:oIx (.list (ls.map K9)) (.int i)=zd (K9 rs):=Zq (by rw[Qd,hi];rfl)
 have hs:Rr [K9 rs,.list []]=zd (.list (rs.flatten.map int)):=by
  have e:K9 rs=.list ((rs.map λr=>r.map int).map Uy):=by unfold K9;rw[QO];rfl
  have e2:(rs.map λr=>r.map int).flatten=rs.flatten.map int:=by rw[List.map_flatten]
  rw[e];unfold Rr;dsimp only;rw[vY];dsimp only;rw[e2,Qu (by rw[Qb];lia)]
 exact Kk (Zf (UP (Zf (UP (U2 (Kr zh UW i1) (UM zh) i2) (UP (KZ UV (Qa zh)) UV)) hs) UV) (EO hl)) zh
def kZ{ls:L3}{ws}{o:zx}{rs}(h:∀(i:Nat) t rs,ws[i]?=zd (zd t)->ls[i]?=zd rs->t∈rs.flatten)(hi:ls[ws.length]?=zd rs)(ho:∀t,o=zd t->t∈rs.flatten) :
  ∀(i:Nat) t rs,(ws++[o])[i]?=zd (zd t)->ls[i]?=zd rs->t∈rs.flatten:=by
 intro j t rs' e1 e2;by_cases hj:j<ws.length
 .rw[Qw hj]at e1;exact h j t rs' e1 e2
 .by_cases hj2:j=ws.length
  .subst hj2
   rw[hi]at e2;cases e2;rw[Qx (Qp _),Nat.sub_self]at e1;cases e1;exact ho t zh
  .rw[JD (by rw[Qi,QX];lia)]at e1
   cases e1
def L4{os:LO}{k:Nat}(h):oIx (.list (os.map Kb)) (.int k)=zd (Kb os[k]):=Zq (by simp_all)
def jJ(ws):(U9 ws).depth<=2:=OG (R6 λx hx=>by obtain⟨y,_,rfl⟩:=Qo.mp hx;cases y<;>simp[Kb,UD])
theorem XG    (I:UU->Prop):∀(ds qs:zn)(ρ:UU)(es:zn),qs.length=ds.length ->
  (∀(i:Nat) d e,ds[i]?=zd d->qs[i]?=zd e->∀ρ,I ρ->∃ρ1,s d ρ=zd ρ1/\t ρ1=.ok zk ρ1/\g ρ1=.ok e ρ1/\I (KD ρ1))->I ρ->es.length+ds.length<=1000000->K6 s t g ds ρ es=zd (es++qs)
 |[],[],ρ,es,_,_,_,_=>by rw[K6,Jd]
 |d::r,e::q,ρ,es,hl,st,h0,hz=>by obtain⟨ρ1,e1,e2,e3,h1⟩:=st 0 d e zh zh ρ h0;rw[QL]at hz;rw[K6,e1];dsimp only;rw[e2];dsimp only;rw[Qu zh,e3];dsimp only;rw[if_pos (by lia),XG I r q _ _ (by simpa using hl) (λi d' e' x y=>st (i+1) d' e' (by simpa using x) (by simpa using y)) h1 (by rw[List.length_append,List.length_singleton];lia),List.append_assoc];rfl
def lng(ls:L3):Nat:=(most (ls.map λrs=>(rs.length:Int))).toNat
noncomputable def YF(cs:zo)(ws:LO):zo:=(Uw cs.length).map λk:Nat=>cs.getD k 0-((ws.count (zd (k:Int)):Nat):Int)
def Mc  (h:1<=ls.length):most (ls.map λrs=>(rs.length:Int))=(lng ls:Nat):=by
 have hm:most _∈ls.map λrs=>(rs.length):=PX (by rw[Qb];lia)
 obtain⟨rs,_,e⟩:=Qo.mp hm;unfold lng
 lia
def LZ   (h:rs∈ls):rs.length<=lng ls:=by
 have h1:(_)<=most (ls.map λrs=>(rs.length)):=PN (Qo.mpr ⟨rs,h,rfl⟩);have h2:=Mc  (J0 h)
 lia
def NF   (h1:1<=ls.length)(h:∀rs∈ls,rs.length<=n):lng ls<=n:=by
 have hm:most _∈ls.map λrs=>(rs.length):=PX (by rw[Qb];lia)
 obtain⟨rs,hr,e⟩:=Qo.mp hm;have:=h rs hr;unfold lng
 lia
def MT(t:Int)(rs:List zo):Zr t rs<=rs.length:=by
 unfold Zr
 split<;>lia
section
variable{cs:zo}{ls:L3}{ws:LO}
def WB:oIx (Kq cs ls) (.int 0)=zd (.list (cs.map int)):=Zq (j:=0) zh
def WA:oIx (Kq cs ls) (.int 1)=zd (.list (ls.map K9)):=Zq (j:=1) zh
def Nm{i:Nat}{rs}(h:ls[i]?=zd rs):oIx (.list (ls.map K9)) (.int i)=zd (K9 rs):=Zq (by simp_all)
def Ea(rs):Ki [K9 rs]=zd (.int rs.length):=by unfold K9;rw[K8,Qb]
def EJ(g:Good cs ls):Wx [Kq cs ls]=zd (.int (lng ls:Nat)):=by
 refine KY  rfl ?_;have hw:=Sa g
 have hc:K6 (gN 1) (UR zk) (K5 1) (ls.map K9) (KD [zd (.pub (Kq cs ls))]++Ux 1 zj) []=zd ((ls.map λrs=>(rs.length)).map int):=by
  refine XG (λρ=>∃x,ρ=[zd _,x]) _ _ _ _ (by rw[Qb,Qb,Qb]) ?_ ⟨zj,rfl⟩ (by rw[Qb,Qt];have:=g.l7;lia);rintro i d e hd he ρ ⟨x,rfl⟩;rw[Qd]at hd;rw[Qd,Qd]at he;cases hl:ls[i]? with
  |none=>rw[hl]at hd;cases hd
  |some rs=>
  rw[hl]at hd he;cases hd;cases he;exact⟨_,UT (Qa zh) zh,rfl,Zg zh (Ea rs),_,rfl⟩
 refine Kf (We (Kg (UP (UM zh) UV) zh hw)) ?_;refine Kk (Zf (UP (Kx (Zl (K7 (Kr zh UW WA) Zh) hc)) UV) (Mz (by rw[Qb];have:=g.l1;lia))) ?_;rw[Mc g.l1]
def Dd(g:Good cs ls):Ww [Kq cs ls,U9 ws]=zd (.list ((YF cs ws).map int)):=by
 refine KY  rfl ?_;have hw:=Sa g
 have hc:K6 (gT 2 (gNC (gN 2) (gNC (gN 3) (gN0)))) (UR zk) (UQ K0 (UL 3) (Tw (UL 1) (UO (UL 2) (UN)))) (Yu 0 (cs.map int)) (KD [zd (.pub (Kq cs ls)),zd (.pub (U9 ws))]++Ux 2 zj) []=zd ((YF cs ws).map int):=by
  refine XG (λρ=>∃x y,ρ=[zd _,zd (.pub (U9 ws)),x,y]) _ _ _ _ (by unfold YF;rw[Qb,Qb,Qs,Yt,Qb]) ?_ ⟨zj,zj,rfl⟩ (by rw[Yt,Qb,Qt];have:=g.c6;lia);rintro i d e hd he ρ ⟨x,y,rfl⟩;obtain⟨z,hz,rfl⟩:=Xd hd;rw[Qd]at hz;cases hci:cs[i]? with
  |none=>rw[hci]at hz;cases hz
  |some c=>
  rw[hci]at hz;cases hz;have zG:i<cs.length:=(Qg.mp hci).1;unfold YF at he;rw[Qd,Qd,Qe (by rw[Qs];exact zG),List.getElem_range]at he;cases he;rw[QU];have e:cs.getD i 0=c:=by simp[List.getD,hci]
  dsimp only;rw[e];exact⟨_,Km zh (UZ (UT (Qa zh) zh) (UZ (UT (Qa zh) zh) Kn)),rfl,U2 (UM zh) (OW (UM zh) (UP (UM zh) UV) O4) YT,_,_,rfl⟩
 refine Kf (We (Kg (UP (UM zh) UV) zh hw)) ?_;exact Kk (Kx (Zl (Xc (UP (Kr zh UW WB) UV) Xe) hc)) zh
end
def Ow  : oEq (Kb a) (Kb b)=zd (decide (a=b)):=by unfold oEq;rw[if_pos ⟨by cases a<;>rfl,by cases b<;>rfl,by cases a<;>simp[Kb,UD]⟩,Md]
def CY  : oNe (Kb a) (Kb b)=zd (!decide (a=b)):=by unfold oNe;rw[if_pos ⟨by cases a<;>rfl,by cases b<;>rfl,by cases a<;>simp[Kb,UD]⟩,Md]
section
variable{cs:zo}{ls:L3}{ws:LO}{a:Nat}{o had:zx}{rs:List zo}{t:Int}
def wI(h:Zr t rs≠0):t∈rs.flatten:=by
 unfold Zr at h;split at h
 .rename_i hl
  have:=List.findIdx_getElem (w:=hl);exact List.mem_flatten.mpr ⟨_,List.getElem_mem hl,by simpa using this⟩
 .exact absurd zh h
end
def CW  {a:Nat}(h:a<=xs.length):DL.cutD xs zj (zd (a:Int))=xs.take a:=by
 unfold DL.cutD HT.sIx;dsimp only;rw[QH (by lia),QY];have:min a xs.length=a:=by lia
 rw[this];simp
def Ft  {a:Nat}(h:a<=xs.length):DL.cutD xs (zd (a:Int)) zj=xs.drop a:=by
 unfold DL.cutD HT.sIx;dsimp only;rw[QH (by lia),QY];have:min a xs.length=a:=by lia
 rw[this,List.take_of_length_le (by simp_all)]
theorem EI    (I:UU->Prop):∀(ds qs:zn)(ρ:UU)(es:zn),qs.length=ds.length ->
  (∀(i:Nat) d e,ds[i]?=zd d->qs[i]?=zd e->∀ρ,I ρ->∃ρ1,s d ρ=zd ρ1/\t ρ1=.ok zk ρ1/\g ρ1=.ok e ρ1/\I (KD ρ1))->I ρ->es.length+ds.length<=1000000->∃ρ',Xl s t g ds ρ es=zd (es++qs,ρ')/\I ρ'
 |[],[],ρ,es,_,_,h0,_=>⟨ρ,by rw[Xl,Jd],h0⟩
 |d::r,e::q,ρ,es,hl,st,h0,hz=>by obtain⟨ρ1,e1,e2,e3,h1⟩:=st 0 d e zh zh ρ h0;rw[QL]at hz;obtain⟨ρ',e',h'⟩:=EI I r q _ (es++[e]) (by simpa using hl) (λi d' e' x y=>st (i+1) d' e' (by simpa using x) (by simpa using y)) h1 (by rw[List.length_append,List.length_singleton];lia);refine⟨ρ',?_,h'⟩;rw[Xl,e1];dsimp only;rw[e2];dsimp only;rw[Qu zh,e3];dsimp only;rw[Qu (by lia),e',Q5];rfl
theorem M5    {Rd}(I:UU->Prop):∀(ds:zn)(qs:List zn)(ρ:UU)(es:zn),qs.length=ds.length ->
  (∀(i:Nat) d q,ds[i]?=zd d->qs[i]?=zd q->∀ρ es,I ρ->es.length+q.length<=1000000->∃ρ1 xs ρ2 ρ3,s d ρ=zd ρ1/\t ρ1=.ok zk ρ1/\f ρ1=.ok xs ρ2/\Rd xs (KD ρ2) es=zd (es++q,ρ3)/\I ρ3)->I ρ->es.length+qs.flatten.length<=1000000->∃ρ',X5 s t f Rd ds ρ es=zd (es++qs.flatten,ρ')/\I ρ'
 |[],[],ρ,es,_,_,h0,_=>⟨ρ,by rw[X5,List.flatten_nil,Jd],h0⟩
 |d::r,q::qr,ρ,es,hl,st,h0,hz=>by rw[Js,Qi]at hz;obtain⟨ρ1,xs,ρ2,ρ3,e1,e2,e3,e4,h1⟩:=st 0 d q zh zh ρ es h0 (by lia);obtain⟨ρ',e',h'⟩:=M5 I r qr ρ3 (es++q) (by simpa using hl) (λi d' e' x y=>st (i+1) d' e' (by simpa using x) (by simpa using y)) h1 (by rw[List.length_append];lia);refine⟨ρ',?_,h'⟩;rw[X5,e1];dsimp only;rw[e2];dsimp only;rw[Qu zh,e3];dsimp only;rw[e4];dsimp only;rw[e',Js,Q5]
noncomputable def W7(i:Nat)(rs:List zo):LP:=rs.flatten.map λt=>((i:Int),t)
noncomputable def Yq(k:Nat):L3->LP
 |[]=>[]
 |rs::ls=>W7 k rs++Yq (k+1) ls
def U7(k:Nat):L3->LP
 |[]=>[]
 |rs::ls=>(YR rs.flatten).map (λt=>((k:Int),t))++U7 (k+1) ls
theorem T9:∀(ls)(k),(U7 k ls).Perm (Yq k ls)
 |[],_=>.nil
 |rs::ls,k=>((Wc rs.flatten).map _).append (T9 ls _)
theorem MP:∀(ls)(k),∀q∈U7 k ls,(k:Int)<=q.1
 |[],_,q,h=>by cases h
 |rs::ls,k,q,h=>by
  rcases QG.mp h with h|h
  .obtain⟨t,_,rfl⟩:=Qo.mp h;exact Jb _
  .have:=MP ls _ q h;lia
theorem TB:∀{ls}{k}{q},q∈U7 k ls->∃i rs,ls[i]?=zd rs/\q.1=((k+i:Nat):Int)/\q.2∈rs.flatten
 |[],_,q,h=>by cases h
 |rs::ls,k,q,h=>by
  rcases QG.mp h with h|h
  .obtain⟨t,ht,rfl⟩:=Qo.mp h
   exact⟨0,rs,rfl,rfl,(Wc _).mem_iff.mp ht⟩
  .obtain⟨i,rs',h1,h2,h3⟩:=TB h
   exact⟨i+1,rs',by simpa using h1,by rw[h2];congr 1;lia,h3⟩
theorem MN:∀{ls}{k i}{rs}{t},ls[i]?=zd rs->t∈rs.flatten->(((k+i:Nat):Int),t)∈U7 k ls
 |rs::ls,k,0,rs',t,h,ht=>by cases h;exact Q0 _ (Qo.mpr ⟨t,(Wc _).mem_iff.mpr ht,rfl⟩)
 |rs::ls,k,i+1,rs',t,h,ht=>by have:=MN  (k:=k+1)  (by simpa using h) ht;rw[show k+1+i=k+(i+1)by lia]at this;exact QI _ this
theorem Fs{n:Nat}(hn:n<=6):∀(ls:L3)(k),(∀rs∈ls,∀t∈rs.flatten,0<=t/\t<n)->(U7 k ls).Pairwise λx y=>KQ x<=KQ y
 |[],_,_=>.nil
 |rs::ls,k,h=>by
  refine List.pairwise_append.mpr ⟨?_,Fs hn ls _ λrs' hr=>h rs' (Qj _ hr),λx hx y hy=>?_⟩
  .rw[List.pairwise_map]
   refine(FW rs.flatten).imp λ{a b} hab=>?_
   unfold KQ;simp_all
  .obtain⟨t,ht,rfl⟩:=Qo.mp hx
   have h1:=MP ls _ y hy;have h2:=h rs Ql t ((Wc _).mem_iff.mp ht);obtain⟨i,rs',g1,g2,g3⟩:=TB hy;have h3:=h rs' (Qj _ (Qq g1)) y.2 g3;unfold KQ
   lia
noncomputable def Sb.flat   (g:Sb n rs):∀t∈rs.flatten,0<=t/\t<n:=λt ht=>by obtain⟨r,h1,h2⟩:=JY.mp ht;exact g.there r h1 t h2
section
variable{cs:zo}{ls:L3}
theorem ML(n):∀(ls)(k),(∀rs∈ls,rs.flatten.length<=n)->(Yq k ls).length<=ls.length*n
 |[],_,_=>by simp[Yq]
 |rs::ls,k,h=>by
  have h1:=ML n ls (k+1) λr hr=>h r (Qj _ hr);have h2:=h rs Ql
  show(W7 k rs++Yq _ ls).length<=_
  rw[Qi,QL];unfold W7;rw[Qb]
  lia
def wH(g:Good cs ls):Vj (Yq 0 ls)=U7 0 ls:=by
 have hf   :=λrs hr=>(g.rk rs hr).flat
 have ok:∀q∈U7 0 ls,okP q:=λq hq=>by obtain⟨i,rs,h1,h2,h3⟩:=TB hq;have:=hf rs (Qq h1) q.2 h3;have:=g.c6;exact⟨by lia,by lia⟩
 exact(Mr ok ((T9 ls 0).trans (EQ _).symm) (Fs g.c6 ls 0 hf) (FP _)).symm
def CV(g:Good cs ls):∀q∈Yq 0 ls,okP q:=λq hq=>by obtain⟨i,rs,h1,h2,h3⟩:=TB ((T9 ls 0).mem_iff.mpr hq);have:=(g.rk rs (Qq h1)).flat q.2 h3;have:=g.c6;exact⟨by lia,by lia⟩
def PK(g:Good cs ls):(Yq 0 ls).length<=42:=by
 have h:=ML 6 ls 0 λrs hr=>QP (PV (g.rk rs hr)) g.c6
 have:=g.l7
 lia
theorem Mb:∀(ls)(k),((ls.zipIdx k).map λp=>(W7 p.2 p.1).map Kp).flatten=(Yq k ls).map Kp
 |[],_=>rfl
 |rs::ls,k=>by rw[List.zipIdx_cons,QC,Js,Mb ls _];show _=(W7 k rs++Yq _ ls).map Kp;simp_all
def yJ(g:Good cs ls):Te [Kq cs ls]=zd (.list ((U7 0 ls).map Kp)):=by
 refine KY (ρ:=[zd (.pub (Kq cs ls))]) zh ?_;unfold Rh;refine Kf (We (Kg (UP (UM zh) UV) zh (Sa g))) ?_
 have hc:∃ρ',X5 (gT 2 (gNC (gN 1) (gNC (gN 2) (gN0)))) (UR zk) (KJ (UL 2)) (X5 (gN 3) (UR zk) (KJ (UL 3)) (Xl (gN 4) (UR zk) (Kl (UO (UL 1) (UO (UL 4) (UN)))))) (Yu 0 (ls.map K9)) (KD [zd (.pub (Kq cs ls))]++Ux 4 zj) []=zd ((Yq 0 ls).map Kp,ρ'):=by
  have key:=M5 (s:=gT 2 (gNC (gN 1) (gNC (gN 2) (gN0)))) (t:=UR zk) (f:=KJ (UL 2)) (Rd:=X5 (gN 3) (UR zk) (KJ (UL 3)) (Xl (gN 4) (UR zk) (Kl (UO (UL 1) (UO (UL 4) (UN))))))
   (λρ=>∃x1 x2 x3 x4,ρ=[zd (.pub (Kq cs ls)),x1,x2,x3,x4]) (Yu 0 (ls.map K9)) ((ls.zipIdx 0).map λp=>(W7 p.2 p.1).map Kp) (KD [zd (.pub (Kq cs ls))]++Ux 4 zj) [] (by rw[Qb,List.length_zipIdx,Yt,Qb]) ?_ ⟨zj,zj,zj,zj,rfl⟩ (by rw[Mb,Qb,Qt];have:=PK g;lia)
  .obtain⟨ρ',e,_⟩:=key
   rw[Mb,Qy]at e;exact⟨ρ',e⟩
  rintro i d q hd hq ρ es ⟨x1,x2,x3,x4,rfl⟩ hlen;obtain⟨z,hz,rfl⟩:=Xd hd;rw[Qd]at hz;rw[Qd,List.getElem?_zipIdx]at hq;cases hls:ls[i]? with
  |none=>rw[hls]at hz;cases hz
  |some rs=>
  rw[hls]at hz hq;cases hz;cases hq;rw[QU]at *;dsimp only at hlen⊢
  have inner:=M5 (s:=gN 3) (t:=UR zk) (f:=KJ (UL 3)) (Rd:=Xl (gN 4) (UR zk) (Kl (UO (UL 1) (UO (UL 4) (UN)))))
   (λρ=>∃x3 x4,ρ=[zd (.pub (Kq cs ls)),zd (.pub (.int i)),zd (.pub (K9 rs)),x3,x4]) (rs.map ZL) (rs.map λr=>r.map λt=>Kp ((i:Int),t)) _ es (by rw[Qb,Qb]) ?_ ⟨WN x3,WN x4,rfl⟩ ?_
  .obtain⟨ρ3,e3,y3,y4,h3⟩:=inner
   have ef:(rs.map λr=>r.map λt=>Kp ((i:Int),t)).flatten=(W7 i rs).map Kp:=by unfold W7;rw[QO,List.map_flatten];rfl
   rw[ef]at e3;exact⟨_,_,_,ρ3,Km zh (UZ (UT (Qa zh) zh) (UZ (UT (Qa zh) zh) Kn)),rfl,K7 (UM zh) zh,e3,_,_,_,_,h3⟩
  .rintro j d q hd hq ρ es' ⟨y3,y4,rfl⟩ aA
   rw[Qd]at hd hq;cases hr:rs[j]? with
   |none=>rw[hr]at hd;cases hd
   |some r=>
   rw[hr]at hd hq;cases hd;cases hq
   obtain⟨ρ3,e3,z4,h3⟩:=EI (s:=gN 4) (t:=UR zk) (g:=Kl (UO (UL 1) (UO (UL 4) (UN)))) (λρ=>∃x4,ρ=[zd (.pub (Kq cs ls)),zd (.pub (.int i)),zd (.pub (K9 rs)),zd (.pub (ZL r)),x4]) (r.map int) (r.map λt=>Kp ((i:Int),t)) _ es' (by rw[Qb,Qb]) (by
    rintro m d e hd he ρ ⟨x4,rfl⟩;rw[Qd]at hd he;cases hm:r[m]? with
    |none=>rw[hm]at hd;cases hd
    |some t=>
    rw[hm]at hd he;cases hd;cases he;exact⟨_,UT (Qa zh) zh,rfl,Zk (UP (UM zh) (UP (UM zh) UV)) (Qa zh),_,rfl⟩) ⟨WN y4,rfl⟩ (by rw[Qb]at aA⊢;exact aA)
   exact⟨_,_,_,ρ3,UT (Qa zh) zh,rfl,K7 (UM zh) zh,e3,_,_,h3⟩
  .have ef:(rs.map λr=>r.map λt=>Kp ((i:Int),t)).flatten=(W7 i rs).map Kp:=by
    unfold W7;rw[QO,List.map_flatten];rfl
   rw[ef];exact hlen
 obtain⟨ρ',hc⟩:=hc;have hs:=xF (qs:=Yq 0 ls) (by have:=PK g;lia) (CV g);rw[wH g]at hs;exact Kk (Zf (UP (Kx (kg (Xc (UP (Kr zh UW WA) UV) Xe) hc)) UV) hs) zh
end
inductive Ord where|firsts|full|lasts
noncomputable def Ord.tx:Ord->Str
 |.firsts=> "firsts" | .full=> "full" | .lasts=> "lasts"
noncomputable def Ord.isF:Ord->Bool
 |.firsts=>zk|_=>zm
noncomputable def Ord.isU:Ord->Bool
 |.full=>zk|_=>zm
def CU(o:Ord):oEq (.str o.tx) (.str "firsts")=zd o.isF:=by cases o<;>decide +kernel
def LY(o:Ord):oEq (.str o.tx) (.str "full")=zd o.isU:=by cases o<;>decide +kernel
def yI(o:Ord):Td [.str o.tx]=zd (.bool zk):=by
 refine KY  rfl ?_;have h:oIn (.str o.tx) (.tuple ((["firsts", "full", "lasts"]:List Str).map UA))=zd zk:=by cases o<;>decide +kernel
 exact Kk (Wf (Kx  (UM zh)) (λ_=>Kx (ZS zh UW h))) zh
def kY(o:Ord):Tc [.str o.tx]=zd .none:=by
 refine Pw  rfl ?_;apply Kw
 case h1=>exact Yl (Yh (Kg (UP (UM zh) UV) zh (yI o)))
 case h2=>simp_all
 case h3=>exact λ_=>KO ⟨_,rfl⟩
noncomputable def Wk:zC->D
 |none=>.none
 |some ws=>U9 ws
def KF(o:Ord)(old:zC)(ts:zo):D:=.tuple [.str o.tx,Wk old,.list (ts.map int)]
structure Ym(n m:Nat)(old:zC)(ts:zo):Prop where
 len:∀ws,old=zd ws->ws.length=m
 old:∀ws t,old=zd ws->zd t∈ws->0<=t/\t<n
 once:ts.Nodup
 there:∀a∈ts,0<=a/\a<m
def Ym.few  {old}{ts}(g:Ym n m old ts):ts.length<=m:=RX m ts g.once g.there
def kX{n m:Nat}{old:zC}(h1:∀ws,old=zd ws->ws.length=m)(h2:∀ws t,old=zd ws->zd t∈ws->0<=t/\t<n)(hm:m<=1000):Tb [Wk old,.int m,.int n]=zd (.bool zk):=by
 refine KY  rfl ?_;unfold Rf;apply KL;cases old with
 |none=>
  apply Kw
  case h1=>exact Kx (UM zh)
  case h2=>exact λ_=>Kk UW (ZK zh)
  case h3=>intro hh;cases hh
 |some ws=>
  have hl:=h1 ws zh;have hlen:Ki [U9 ws]=zd (.int m):=by unfold U9;rw[K8,Qb,hl]
  apply Kw
  case h1=>exact Kx (UM zh)
  case h2=>intro hh;cases hh
  case h3=>
   intro _;refine KO (KI ?_);apply KL;apply Kw
   case h1=>exact Yk  (YU (UM zh) zh) (U2 (Zg zh hlen) (UM zh) Vo)
   case h2=>intro hh;simp at hh
   case h3=>
    intro _;refine KO (KI ?_)
    have hc:K6 (gN 3) (UR zk) (Y4 (U0 (λd=>.bool (isNon d)) (UL 3)) (UX 2 Yc (UO (UL 3) (UO (UL 2) (UN))))) (ws.map Kb) (KD [zd (.pub (U9 ws)),zd (.pub (.int m)),zd (.pub (.int n))]++Ux 1 zj) []=zd (ws.map λ_=>.bool zk):=by
     refine XG (λρ=>∃x,ρ=[zd (.pub (U9 ws)),zd (.pub (.int m)),zd (.pub (.int n)),x]) _ _ _ _ (by simp only[Qb]) ?_ ⟨zj,rfl⟩ (by rw[Qb,Qt];lia);rintro i d e hd he ρ ⟨x,rfl⟩;rw[Qd]at hd he;cases hw:ws[i]? with
     |none=>rw[hw]at hd;cases hd
     |some o=>
     rw[hw]at hd he;cases hd;cases he;refine⟨_,UT (Qa zh) zh,rfl,?_,_,rfl⟩;cases o with
     |none=>exact T2 (t:=zk) (u:=zk) (Kx  (x:=.none) (UM zh)) (λh=>nomatch h)
     |some t=>have hb:=h2 ws t zh (Qq hw);exact T2 (t:=zm) (u:=zk) (Kx (k:=λd=>Uz (isNon d)) (x:=.int t) (UM zh)) (λ_=>Kg (UP (UM zh) (UP (UM zh) UV)) zh (O8 hb.1 hb.2))
    exact Kk (Zf (UP (Kx (Zl (K7 (UM zh) zh) hc)) UV) (PR ws)) zh
def ya{m:Nat}{ts:zo}(h1:ts.Nodup)(h2:∀a∈ts,0<=a/\a<m)(hm:m<=1000):Ta [.list (ts.map int),.int m]=zd (.bool zk):=by
 refine KY  rfl ?_;unfold Re;have hl:=RX m ts h1 h2;apply KL
 have hc:K6 (gN 2) (UR zk) (UX 2 Yc (UO (UL 2) (UO (UL 1) (UN)))) (ts.map int) (KD [zd (.pub (.list (ts.map int))),zd (.pub (.int m))]++Ux 1 zj) []=zd (ts.map λ_=>.bool zk):=by
  refine XG (λρ=>∃x,ρ=[zd _,zd (.pub (.int m)),x]) _ _ _ _ (by simp only[Qb]) ?_ ⟨zj,rfl⟩ (by rw[Qb,Qt];lia);rintro i d e hd he ρ ⟨x,rfl⟩;rw[Qd]at hd he;cases hw:ts[i]? with
  |none=>rw[hw]at hd;cases hd
  |some t=>
  rw[hw]at hd he;cases hd;cases he;have hb:=h2 t (Qq hw);exact⟨_,UT (Qa zh) zh,rfl,Kg (UP (UM zh) (UP (UM zh) UV)) zh (O8 hb.1 hb.2),_,rfl⟩
 apply Kw
 case h1=>exact Yk  (YU (UM zh) zh) (Yl (Yh (Zf (UP (Kx (Zl (K7 (UM zh) Zh) hc)) UV) (PR ts))))
 case h2=>intro hh;cases hh
 case h3=>
  intro _;refine KO (KI ?_);have hs:Vp [.list (ts.map int)]=zd (.int ts.length):=by unfold Vp;dsimp only;rw[R3];dsimp only;rw[Qu (by lia),EL h1]
  have hlen:Ki [.list (ts.map int)]=zd (.int ts.length):=by rw[K8,Qb]
  refine Kk (Kx (U2 (Zf (UP (UM zh) UV) hs) (Zg zh hlen) YI)) ?_;simp
section
variable{cs:zo}{ls:L3}{o:Ord}{old:zC}{ts:zo}
def NE(g:Good cs ls)(ga:Ym cs.length ls.length old ts):Xu [Kq cs ls,KF o old ts]=zd .none:=by
 refine Pw  rfl ?_;unfold Rc;have l7:=g.l7;have c6:=g.c6;have zJ:Ki [.list (ls.map K9)]=zd (.int ls.length):=by rw[K8,Qb]
 have zU:Ki [.list (cs.map int)]=zd (.int cs.length):=by rw[K8,Qb]
 refine Kf (We (Kg (UP (UM zh) UV) zh (Sa g))) ?_;apply KL;apply Kw
 case h1=>exact Yk  (YU (UM zh) zh) (U2 (Zg zh (show Ki [KF o old ts]=zd (.int 3)from rfl)) UW Vo)
 case h2=>intro hh;simp at hh
 case h3=>
  intro _;refine KO (KI ?_);refine Kf (YW (UM zh) (Km zh (UZ (UT (Qa zh) zh) (UZ (UT (Qa zh) zh) Kn)))) ?_;refine Kf (YW (UM zh) (Km zh (UZ (UT (Qa zh) zh) (UZ (UT (Qa zh) zh) (UZ (UT (Qa zh) zh) Kn))))) ?_;refine Kf (We (Kg (UP (UM zh) UV) zh (kY o))) ?_;apply KL;apply Kw
  case h1=>exact Yl (Yh (Kg (UP (UM zh) (UP (Zg zh zJ) (UP (Zg zh zU) UV))) zh (kX ga.len ga.old (by lia))))
  case h2=>intro hh;cases hh
  case h3=>
   intro _;refine KO (KI ?_);apply Kw
   case h1=>exact Yl (Yh (Kg (UP (UM zh) (UP (Zg zh zJ) UV)) zh (ya ga.once ga.there (by lia))))
   case h2=>intro hh;cases hh
   case h3=>exact λ_=>KO ⟨_,rfl⟩
end
def Mo{t:Int}{r:zo}:oIn (.int t) (.list (r.map int))=zd (r.contains t):=Me t r
theorem F9:∀(a b:zo),a.Nodup->(∀x∈a,x∈b)->a.length<=b.length
 |[],_,_,_=>JS _
 |x::a,b,hn,h=>by
  have hx:=h x Ql;have hn':=Ud.mp hn
  have:=F9 a _ hn'.2 λy hy=>by
   have hne:y≠x:=λe=>hn'.1 (e ▸ hy)
   exact(List.mem_erase_of_ne hne).mpr (h y (Qj _ hy))
  rw[List.length_erase_of_mem hx]at this;have hp:=J0 hx;rw[QL]
  lia
def wG{m:Nat}{T:zo}(d:Nat)(hl:T.length<m)(hn:T.Nodup):∃k,k<m/\(∀j,j<k->(((d+j) % m:Nat):Int)∈T)/\(((d+k) % m:Nat):Int)∉T:=by
 have ex:∃k,k<m/\(((d+k) % m:Nat):Int)∉T:=by
  refine Classical.byContradiction λhno=>?_;have all   :=λk hk=>Classical.byContradiction λz=>hno ⟨k,hk,z⟩
  have hsub   :=λx hx=>by
   have h1:=all ((x+m-d % m) % m) (Nat.mod_lt _ (by lia));have e:(d+(x+m-d % m) % m) % m=x:=by have hdm:d % m<m:=Nat.mod_lt _ (by lia);rw[Nat.add_mod_mod,←Nat.mod_add_mod];rw[show d % m+(x+m-d % m)=x+m by lia,Nat.add_mod_right,Nat.mod_eq_of_lt hx]
   rw[e]at h1;exact h1
  have:=F9 _ T (List.Pairwise.map _ (λa b h e=>h (by lia)) List.nodup_range) (λt ht=>by obtain⟨x,hx,rfl⟩:=Qo.mp ht;exact hsub x (QN.mp hx));rw[Qb,Qs]at this
  lia
 obtain⟨k,hk,hkn⟩:=ex;induction k using Nat.strongRecOn with
 |_ k ih=>
  by_cases h:∀j,j<k->(((d+j) % m:Nat):Int)∈T
  .exact⟨k,hk,h,hkn⟩
  .obtain⟨j,hj⟩:=Classical.not_forall.mp h
   obtain⟨hj1,hj2⟩:=Classical.not_imp.mp hj;exact ih j hj1 (by lia) hj2
def LX{x:D}{m:Nat}(h:m<=1000):Ks (.list [x]) (.int m)=zd (.list (Ux m x)):=by rw[O5 ⟨by lia,by lia,by show 1*_<=_;lia⟩];simp_all
noncomputable def szA(n m:Nat):zo:=[3,2,(m:Int)+1]++Ux m ((n:Int)+1)++Ux m (m:Int)
def Hx(n m):(szA n m).length=3+m+m:=by unfold szA;rw[Qi,Qi,QF,QF];rfl
def BO{n m j}(h:j<m):(szA n m)[3+j]?=zd ((n:Int)+1):=by unfold szA;rw[List.getElem?_append_left (by rw[List.length_append,List.length_replicate];show 3+j<3+m;lia),List.getElem?_append_right (by simp_all)];show _[3+j-3]?=_;rw[Nat.add_sub_cancel_left,Qz,Qu h]
def jI{n m j}(h:j<m):(szA n m)[3+m+j]?=zd (m:Int):=by
 unfold szA;have e:([3,2,(m:Int)+1]++Ux m ((n:Int)+1)).length=3+m:=by rw[Qi,QF];rfl
 rw[List.getElem?_append_right (by simp_all),e,Nat.add_sub_cancel_left,List.getElem?_replicate,if_pos h]
section
variable{cs:zo}{ls:L3}
noncomputable def Pc(d:Int):zx:=if 0<d then zd (d-1)else zj
def jH(d):oIx (.list [.none,.int (d-1)]) (.int (if decide (0<d)=zk then 1 else 0))=zd (Kb (Pc d)):=by
 unfold Pc;by_cases h:0<d
 .rw[QW h,Qu h];exact Zq  rfl
 .rw[QZ h,QH h];exact Zq  rfl
end
def BN  {j}{f}{ρ ρ1 ρ':UU}{a b}{d}(h0:ρ[j]?=zd (zd (.pub (.int a))))(h1:f ρ=.ok (.int b) ρ1)(h2:op a b=zd d)(h3:j<ρ1.length)(h4:ρ1.set j (zd (.pub d))=ρ'):Wh op j f ρ=.nx ρ':=by unfold Wh;dsimp only[sB];simp_all
def mulN{i j}(h : -1000<j/\j<1000):XI i j=zd (.int (i*j)):=by exact Qu (.inr ⟨by lia,by lia⟩)
def PU{b n:Int}(hb : -1000<b/\b<1000)(hn : -1000<=n/\n<=1000):ZR [.int b,.int n]=zd (.int (b ^ n.toNat)):=by
 refine KY  rfl ?_;refine Kf (Kt UW (Qa zh) zh) ?_;apply KL;apply Zs (λi ρ=>∃x3,ρ=[zd _,zd _,zd (.pub (.int (b ^ i))),x3])
 case h1=>exact X6 (UP (UM zh) UV) (X7 (by lia) (by lia))
 case h0=>exact⟨_,by rw[Int.pow_zero];rfl⟩
 case hst=>rintro i d ρ hi ⟨x3,rfl⟩;refine⟨_,UT (Qa zh) zh,?_⟩;refine Z7 (BN zh (UM zh) (mulN hb) (Qa zh) zh) ?_;exact KU ⟨_,by rw[Int.pow_succ];rfl⟩
 case hend=>
  rintro ρ ⟨x3,rfl⟩;refine KI (Kk (UM rfl) ?_);rw[YX]
  lia
noncomputable def ZV:Ord->Int->Int->Int->Int
 |.firsts,b,M,r=>b ^ (M-r).toNat
 |.full,b,M,r=>b ^ M.toNat+b ^ (M-r).toNat
 |.lasts,b,M,r=>b ^ M.toNat-b ^ (r-1).toNat
def yt(o:Ord){b M r:Int}(hb : -1000<b/\b<1000)(hM:0<=M/\M<=100)(hr:0<=r/\r<=100):V9 [.str o.tx,.int b,.int M,.int r]=zd (.int (ZV o b M r)):=by
 refine KY  rfl ?_;unfold Rb;have p1:ZR [.int b,.int (M-r)]=zd (.int (b ^ (M-r).toNat)):=PU hb ⟨by lia,by lia⟩;have p2:ZR [.int b,.int M]=zd (.int (b ^ M.toNat)):=PU hb ⟨by lia,by lia⟩;have p3:ZR [.int b,.int (r-1)]=zd _:=PU hb ⟨by lia,by lia⟩;apply KL;apply Kw
 case h1=>exact ZS zh UW (CU o)
 case h2=>
  intro h;cases o with
  |firsts=>exact Kk (Kg (UP (UM zh) (UP (U2 (UM zh) (UM zh) YT) UV)) zh p1) (ZK zh)
  |full=>cases h
  |lasts=>cases h
 case h3=>
  intro h;refine KO (KI ?_);apply KL;apply Kw
  case h1=>exact ZS zh UW (LY o)
  case h2=>
   intro h';cases o with
   |full=>exact Kk (U2 (Kg (UP (UM zh) (UP (UM zh) UV)) zh p2) (Kg (UP (UM zh) (UP (U2 (UM zh) (UM zh) YT) UV)) zh p1) KW) (ZK zh)
   |firsts=>cases h
   |lasts=>cases h'
  case h3=>
   intro h';refine KO (KI ?_);cases o with
   |firsts=>cases h
   |full=>cases h'
   |lasts=>exact Kk (U2 (Kg (UP (UM zh) (UP (UM zh) UV)) zh p2) (Kg (UP (UM zh) (UP (U2 (UM zh) UW YT) UV)) zh p3) YT) zh
noncomputable def X2(ts:zo)(b i r:Int):Int:=if i∈ts then(b-r)*b ^ (ts.length-1-ts.idxOf i)else 0
theorem E2  : ∀{xs:zn},(∀x∈xs,PyData.weight x<=n)->PyData.weightAll xs<=xs.length*(n+1)
 |[],_=>by simp[PyData.weightAll]
 |x::xs,h=>by
  have h1:=h x Ql;have h2:=E2  λy hy=>h y (Qj _ hy);rw[PyData.weightAll,QL]
  lia
def wF  (h:0<=i/\i<1000):(int i).weight<=10:=by
 simp only[PyData.weight];split
 .lia
 .have h0:i.natAbs≠0:=by simp_all
  have:=(Nat.log2_lt h0 (k:=10)).mpr (by lia)
  lia
def yx{ts:zo}(h:∀a∈ts,0<=a/\a<1000)(hl:ts.length<=1000):PyData.layable0 (.list (ts.map int))=zk:=by
 unfold PyData.layable0;have h1:(Uy (ts.map int)).canLay0=zk:=TK λx hx=>by obtain⟨y,_,rfl⟩:=Qo.mp hx;rfl
 have h2:(Uy (ts.map int)).depth<=64:=QP (OG (n:=1) (R6 λx hx=>by obtain⟨y,_,rfl⟩:=Qo.mp hx;exact Hz y)) (by decide)
 have h3:(Uy (ts.map int)).weight<=2 ^ 20:=by
  have:=E2  (xs:=ts.map int) λx hx=>by obtain⟨y,hy,rfl⟩:=Qo.mp hx;exact wF (h y hy)
  rw[Qb]at this;simp only[PyData.weight]
  lia
 rw[h1,QW h2,QW h3];rfl
def jG{ts:zo}{k}(hb:∀a∈ts,0<=a/\a<1000)(hl:ts.length<=1000)(h:k∈ts):RO (.list (ts.map int)) [.int k]=zd (.int (ts.idxOf k:Nat)):=by unfold RO;dsimp only;rw[R3];exact Qu ⟨yx hb hl,h⟩
def jF  {r:zo}:ZW (.int t) (.list (r.map int))=zd (!r.contains t):=by unfold ZW;rw[Mo];rfl
def yr  {b i r:Int}(hb : -1000<b/\b<1000)(hr : -1000<r/\r<1000)(hl:ts.length<=100)(ht:∀a∈ts,0<=a/\a<1000):V8 [.list (ts.map int),.int b,.int i,.int r]=zd (.int (X2 ts b i r)):=by
 refine KY  rfl ?_;unfold Ra X2;apply KL;apply Kw
 case h1=>exact ZS zh (UM zh) jF
 case h2=>
  intro h;have:¬i∈ts:=by simpa using h
  rw[QH this];exact Kk UW (ZK zh)
 case h3=>
  intro h;have hm:i∈ts:=by simpa using h
  rw[Qu hm];refine KO (KI ?_);have hi:=List.idxOf_lt_length_of_mem hm;have hlen:Ki [.list (ts.map int)]=zd (.int ts.length):=by rw[K8,Qb]
  refine Kf (Kt (U2 (U2 (Zg zh hlen) UW YT) (jh (UM zh) (UP (UM zh) UV) (jG ht (by lia) hm)) YT) (Qa zh) zh) ?_;have hp:=PU (b:=b) (n:=(ts.length:Int)-1-(ts.idxOf i:Nat)) hb ⟨by lia,by lia⟩;have e:((ts.length:Int)-1-(ts.idxOf i:Nat)).toNat=ts.length-1-ts.idxOf i:=by lia
  rw[e]at hp;exact Kk (U2 (U2 (UM zh) (UM zh) YT) (Kg (UP (UM zh) (UP (UM zh) UV)) zh hp) (WP (by lia) (by lia))) zh
noncomputable def Xv(old:zC)(i:Nat)(t:Int):Int:=match old with
 |none=>0
 |some ws=>if ws[i]?=zd (zd t)then 1 else 0
section
variable{cs:zo}{ls:L3}{o:Ord}{old:zC}{ts:zo}
def Zu(ls:L3)(o:Ord)(old:zC)(ts:zo)(i:Nat)(rs:List zo)(t:Int):Int:=
 (ZV o (ls.length+1) (lng ls) (Zr t rs)*(ls.length+1)+Xv old i t)*((lng ls:Int)+1) ^ ts.length+X2 ts (lng ls+1) i (Zr t rs)
noncomputable def F8{b:Int}(h0:0<=b)(h:b<=8):∀{n k},n<=k->b ^ n<=8 ^ k:=λ{n k} hk=>by
 have e:b=((b.toNat)):=by lia
 rw[e];have h1:b.toNat ^ n<=8 ^ n:=Nat.pow_le_pow_left (by lia) n;have h2:8 ^ n<=8 ^ k:=Nat.pow_le_pow_right (by lia) hk
 lia
def F7(g:Good cs ls)(ga:Ym cs.length ls.length old ts){i:Nat}{rs:List zo}(hi:ls[i]?=zd rs)(t:Int):Xs [Kq cs ls,KF o old ts,.int (lng ls:Nat),.int i,.int t]=zd (.int (Zu ls o old ts i rs t)):=by
 have l7:=g.l7;have l1:=g.l1;have hL:lng ls<=5:=NF l1 λrs h=>(g.rk rs h).few;have hrk:Zr t rs<=5:=by have:=MT t rs;have:=(g.rk rs (Qq hi)).few;lia
 have htl:=ga.few;have hlt:i<ls.length:=(Qg.mp hi).1;refine KY (ρ:=[zd (.pub (Kq cs ls)),zd (.pub (KF o old ts)),zd (.pub (.int (lng ls:Nat))),zd (.pub (.int i)),zd (.pub (.int t)),zj,zj,zj,zj,zj,zj,zj,zj]) zh ?_;unfold SZ Zu;refine Kf (YW (UM zh) (Km zh (UZ (UT (Qa zh) zh) (UZ (UT (Qa zh) zh) (UZ (UT (Qa zh) zh) Kn))))) ?_;refine Kf (Kt (Kr zh UW WA) (Qa zh) zh) ?_;refine Kf (Kt (Kg (UP (Kr zh (UM zh) (Nm hi)) (UP (UM zh) UV)) zh (EK t rs)) (Qa zh) zh) ?_;have zJ:Ki [.list (ls.map K9)]=zd (.int ls.length):=by rw[K8,Qb]
 have htl':Ki [.list (ts.map int)]=zd (.int ts.length):=by rw[K8,Qb]
 refine Kf (Kt (U2 (Zg zh zJ) UW KW) (Qa zh) zh) ?_
 have hk:∀ρ:UU,ρ[6]?=zd (zd (.pub (Wk old)))->ρ[3]?=zd (zd (.pub (.int i)))->ρ[4]?=zd (zd (.pub (.int t))) ->
   mIf (Zi (U0 (λd=>!isNon d) (UL 6)) (UQ oEq (UY 6 (UL 3)) (UL 4))) (UR (int 1)) (UR (.int 0)) ρ=.ok (.int (Xv old i t)) ρ:=λρ r6 r3 r4=>by
  cases old with
  |none=>exact NJ (TF (Kx (UM r6))) UW
  |some ws=>
   have hw:ws.length=ls.length:=ga.len ws zh;have hwi:ws[i]?=zd ws[i]:=Qe (by lia);have hx:oIx (.list (ws.map Kb)) (.int i)=zd (Kb ws[i]):=L4 (by lia)
   have ht:(Zi (U0 (λd=>!isNon d) (UL 6)) (UQ oEq (UY 6 (UL 3)) (UL 4))) ρ=.ok (decide (ws[i]=zd t)) ρ:=
    Vg (Kx (UM r6)) (U2 (Kr r6 (UM r3) hx) (UM r4) (Ow (b:=zd t)))
   rw[D2 ht UW UW]
   congr 1
   unfold Xv;dsimp only;rw[hwi];by_cases h:ws[i]=zd t
   .rw[QW h,Qu zh,Qu (by rw[h])]
   .rw[QZ h,QH (by decide),QH (λe=>h (Q8 e))]
 refine Kf (Kt (hk _ zh zh zh) (Qa zh) zh) ?_;have h1:=yt o (b:=(ls.length:Int)+1) (M:=(lng ls:Nat)) (r:=(Zr t rs:Nat)) ⟨by lia,by lia⟩ ⟨by lia,by lia⟩ ⟨by lia,by lia⟩;have h2:=PU (b:=(lng ls:Int)+1) (n:=(ts.length:Nat)) ⟨by lia,by lia⟩ ⟨by lia,by lia⟩;have h3:=yr (ts:=ts) (b:=(lng ls:Int)+1) (i:=i) (r:=(Zr t rs:Nat)) ⟨by lia,by lia⟩ ⟨by lia,by lia⟩ (by lia) (λa ha=>by have:=ga.there a ha;lia);rw[QY]at h2;refine Kf (Kt (U2 (U2 (Kg (UP (UM zh) (UP (UM zh) (UP (UM zh) (UP (UM zh) UV)))) zh h1) (UM zh) (XE (by lia) (by lia))) (UM zh) KW) (Qa zh) zh) ?_;have hp:((lng ls:Int)+1) ^ ts.length<=8 ^ 7:=F8 (by lia) (by lia) (by lia);exact Kk (U2 (U2 (UM zh) (Kg (UP (U2 (UM zh) UW KW) (UP (Zg zh htl') UV)) zh h2) (XE (by lia) (by lia))) (Kg (UP (UM zh) (UP (U2 (UM zh) UW KW) (UP (UM zh) (UP (UM zh) UV)))) zh h3) KW) zh
end
theorem O7   {g:M D}(I:UU->Prop):∀(ds:zn)(qs:List zp)(ρ:UU)(es:zn),qs.length=ds.length ->
  (∀(i:Nat) d e,ds[i]?=zd d->qs[i]?=zd e->∀ρ,I ρ->∃ρ1,s d ρ=zd ρ1/\t ρ1=.ok e.isSome ρ1/\(∀x,e=zd x->g ρ1=.ok x ρ1)/\I (KD ρ1))->I ρ->es.length+ds.length<=1000000->K6 s t g ds ρ es=zd (es++qs.filterMap id)
 |[],[],ρ,es,_,_,_,_=>by rw[K6];simp
 |d::r,e::q,ρ,es,hl,st,h0,hz=>by
  obtain⟨ρ1,e1,e2,e3,h1⟩:=st 0 d e zh zh ρ h0;rw[QL]at hz;have ih:=λes' hz'=>O7 I r q (KD ρ1) es' (by simpa using hl) (λi d' e' x y=>st (i+1) d' e' (by simpa using x) (by simpa using y)) h1 hz'
  rw[K6,e1];dsimp only;rw[e2];dsimp only;cases e with
  |none=>rw[ih es (by lia)];rfl
  |some x=>rw[Qu (show(zd x).isSome=zk from rfl),e3 x zh];dsimp only;rw[Qu (by lia),ih (es++[x]) (by rw[Qi,QX];lia),Q5];rfl
noncomputable def YC(W:Nat->List zo->Int->Int):Nat->L3->LO->LO
 |k,rs::ls,o::r=>(o.map (W k rs))::YC W (k+1) ls r
 |_,_,_=>[]
theorem MK  : ∀{k}{ls}{ws},ws.length=ls.length->(YC W k ls ws).length=ws.length
 |_,[],[],_=>rfl
 |_,_::_,_::_,h=>by rw[YC,List.length_cons,MK (by simpa using h),List.length_cons]
theorem MJ  : ∀{k i:Nat}{ls}{ws}{rs}{o},ls[i]?=zd rs->ws[i]?=zd o->(YC W k ls ws)[i]?=zd (o.map (W (k+i) rs))
 |k,0,r::ls,o::ws,_,_,h1,h2=>by cases h1;cases h2;rfl
 |k,i+1,r::ls,o::ws,rs,o',h1,h2=>by rw[YC,List.getElem?_cons_succ,MJ    (by simpa using h1) (by simpa using h2),Nat.add_right_comm,Nat.add_assoc]
noncomputable def ZI(l:LO):Int:=(l.filterMap id).sum
def F6   : ZI (o::l)=o.getD 0+ZI l:=by
 cases o with
 |none=>show ZI l=0+ZI l;lia
 |some x=>rfl
def yq  : ZI (a++b)=ZI a+ZI b:=by unfold ZI;simp_all
def jE(l:LO):(l.map (Option.map int)).filterMap id=(l.filterMap id).map int:=by
 induction l with
 |nil=>rfl
 |cons o r ih=>cases o with
  |none=>exact ih
  |some x=>show int x::_=int x::_;rw[ih]
section
variable{cs:zo}{ls:L3}{o:Ord}{old:zC}{ts:zo}{ws:LO}
def yp(g:Good cs ls)(ga:Ym cs.length ls.length old ts)(hl:ws.length=ls.length):V7 [Kq cs ls,KF o old ts,U9 ws]=zd (.int (ZI (YC (Zu ls o old ts) 0 ls ws))):=by
 refine KY (ρ:=[zd (.pub (Kq cs ls)),zd (.pub (KF o old ts)),zd (.pub (U9 ws)),zj]) zh ?_;unfold SX;refine Kf (We (Kg (UP (UM zh) (UP (UM zh) UV)) zh (NE g ga))) ?_;refine Kf (Kt (Kg (UP (UM zh) UV) zh (EJ g)) (Qa zh) zh) ?_;have l7:=g.l7
 have hc:K6 (gT 2 (gNC (gN 4) (gNC (gN 5) (gN0)))) (U0 (λd=>!isNon d) (UL 5)) (UX 5 Xs (UO (UL 0) (UO (UL 1) (UO (UL 3) (UO (UL 4) (UO (UL 5) (UN))))))) (Yu 0 (ws.map Kb)) (KD [zd (.pub (Kq cs ls)),zd (.pub (KF o old ts)),zd (.pub (U9 ws)),zd (.pub (.int (lng ls:Nat)))]++Ux 2 zj) []=zd (((YC (Zu ls o old ts) 0 ls ws).filterMap id).map int):=by
  rw[←jE];refine O7 (λρ=>∃x y,ρ=[zd (.pub (Kq cs ls)),zd (.pub (KF o old ts)),zd (.pub (U9 ws)),zd (.pub (.int (lng ls:Nat))),x,y]) _ _ _ _ (by rw[Qb,MK hl,Yt,Qb]) ?_ ⟨zj,zj,rfl⟩ (by rw[Yt,Qb,Qt];omega);rintro i d e hd he ρ ⟨x,y,rfl⟩;obtain⟨z,hz,rfl⟩:=Xd hd;rw[Qd]at hz;cases hwi:ws[i]? with
  |none=>rw[hwi]at hz;cases hz
  |some w=>
  rw[hwi]at hz;cases hz;have zG:i<ls.length:=by have:=(Qg.mp hwi).1;omega
  have hls:ls[i]?=zd ls[i]:=Qe zG;rw[Qd,MJ hls hwi]at he;cases he;rw[QU];refine⟨_,Km zh (UZ (UT (Qa zh) zh) (UZ (UT (Qa zh) zh) Kn)),?_,?_,_,_,rfl⟩
  .cases w with
   |none=>exact Kx (k:=λd=>!isNon d) (x:=PyData.none) (UM zh)
   |some t=>exact Kx (k:=λd=>!isNon d) (x:=int t) (UM zh)
  .intro v hv
   cases w with
   |none=>cases hv
   |some t=>cases hv;exact Kg (UP (UM zh) (UP (UM zh) (UP (UM zh) (UP (UM zh) (UP (UM zh) UV))))) zh (F7 g ga hls t)
 exact Kk (Zf (UP (Kx (Zl (Xc (UP (UM zh) UV) Xe) hc)) UV) Mu) zh
def Kj(ls:L3)(o:Ord)(old:zC)(ts:zo)(a t:Int):Int:=Zu ls o old ts a.toNat (ls.getD a.toNat []) t
noncomputable def ZF(V:Int->Int->Int)(q:Int×Int):D:=.tuple [.int q.1,.int q.2,.int (V q.1 q.2)]
def Lj(g:Good cs ls)(ga:Ym cs.length ls.length old ts):Xr [Kq cs ls,KF o old ts]=zd (.list ((U7 0 ls).map (ZF (Kj ls o old ts)))):=by
 refine KY  rfl ?_;unfold SY;refine Kf (We (Kg (UP (UM zh) (UP (UM zh) UV)) zh (NE g ga))) ?_;refine Kf (Kt (Kg (UP (UM zh) UV) zh (EJ g)) (Qa zh) zh) ?_;have few:(U7 0 ls).length<=42:=by rw[(T9 ls 0).length_eq];exact PK g
 have hc:K6 (gT 2 (gNC (gN 3) (gNC (gN 4) (gN0)))) (UR zk) (Kl (UO (UL 3) (UO (UL 4) (UO (UX 5 Xs (UO (UL 0) (UO (UL 1) (UO (UL 2) (UO (UL 3) (UO (UL 4) (UN))))))) (UN))))) ((U7 0 ls).map Kp) (KD [zd (.pub (Kq cs ls)),zd (.pub (KF o old ts)),zd (.pub (.int (lng ls:Nat)))]++Ux 2 zj) []=zd ((U7 0 ls).map (ZF (Kj ls o old ts))):=by
  refine XG (λρ=>∃x y,ρ=[zd (.pub (Kq cs ls)),zd (.pub (KF o old ts)),zd (.pub (.int (lng ls:Nat))),x,y]) _ _ _ _ (by simp only[Qb]) ?_ ⟨zj,zj,rfl⟩ (by rw[Qb,Qt];lia);rintro i d e hd he ρ ⟨x,y,rfl⟩;rw[Qd]at hd he;cases hw:(U7 0 ls)[i]? with
  |none=>rw[hw]at hd;cases hd
  |some q=>
  rw[hw]at hd he;cases hd;cases he;obtain⟨a,t⟩:=q;obtain⟨j,rs,hj,ha,ht⟩:=TB (Qq hw);have ha:a=(j:Int):=by rw[QU]at ha;exact ha
  subst ha;have hv:Kj ls o old ts j t=Zu ls o old ts j rs t:=by unfold Kj;rw[QY,Qm,hj];rfl
  refine⟨_,Km zh (UZ (UT (Qa zh) zh) (UZ (UT (Qa zh) zh) Kn)),rfl,?_,_,_,rfl⟩;unfold ZF;dsimp only;rw[hv];exact Zk (UP (UM zh) (UP (UM zh) (UP (Kg (UP (UM zh) (UP (UM zh) (UP (UM zh) (UP (UM zh) (UP (UM zh) UV))))) zh (F7 g ga hj t)) UV))) (Qa zh)
 exact Kk (Kx (Zl (K7 (Kg (UP (UM zh) UV) zh (yJ g)) Zh) hc)) zh
end
theorem EC{c s w dg x6:Option Sl}{m:Nat}{T:zo}(hm:0<m):∀(k fuel d:Nat),(∀j,j<k->(((d+j) % m:Nat):Int)∈T)->(((d+k) % m:Nat):Int)∉T->d<m->k<fuel ->
  Wa (RB oIn (UL 7) 6) Mi fuel [w,c,s,zd (.pub (.int m)),dg,x6,zd (.own (T.map int)),zd (.pub (.int d))]=.nx [w,c,s,zd (.pub (.int m)),dg,x6,zd (.own (T.map int)),zd (.pub (.int (((d+k) % m:Nat):Int)))]
 |0,fuel+1,d,_,hn,hd,_=>by
  have e0:(d+0) % m=d:=by rw[Nat.add_zero];exact Nat.mod_eq_of_lt hd
  rw[e0]at hn⊢;have e:(T.contains (d:Int))=zm:=by simpa using hn
  rw[Wa,Mq (r:=zm) (UM zh) zh (by rw[Mo,e])];rfl
 |k+1,fuel+1,d,hj,hn,hd,hf=>by
  have h0:=hj 0 (by lia);rw[Nat.add_zero,Nat.mod_eq_of_lt hd]at h0;have e:(T.contains (d:Int))=zk:=by simpa using h0
  rw[Wa,Mq (r:=zk) (UM zh) zh (by rw[Mo,e])];dsimp only;rw[Qu zh]
  have hst:Mi [w,c,s,zd (.pub (.int m)),dg,x6,zd (.own (T.map int)),zd (.pub (.int d))]=.nx [w,c,s,zd (.pub (.int m)),dg,x6,zd (.own (T.map int)),zd (.pub (.int (((d+1) % m:Nat):Int)))]:=by
   refine Kt (U2 (U2 (UM zh) UW KW) (UM zh) (Xj (by lia))) (Qa zh) ?_;have e1:((d+1:Nat):Int)=(d:Int)+1:=by lia
   have:((d:Int)+1) % (m:Int)=(((d+1) % m:Nat):Int):=by rw[Int.natCast_emod,e1]
   rw[this];rfl
  rw[hst];dsimp only;have e2:∀j,((d+1) % m+j) % m=(d+(j+1)) % m:=λj=>by rw[Nat.mod_add_mod];congr 1;lia
  have:=EC (c:=c) (s:=s) (w:=w) (dg:=dg) (x6:=x6) (T:=T) hm k fuel ((d+1) % m) (λj hjk=>by rw[e2];exact hj (j+1) (by lia)) (by rw[e2];exact hn) (Nat.mod_lt _ hm) (by lia);rw[e2]at this;exact this
section
variable{cs:zo}{ls:L3}
def F5(g:Good cs ls)(c s:Int):∃r,WW [Kq cs ls,.int c,.int s]=zd r/\∃o old ts,r=KF o old ts/\Ym cs.length ls.length old ts:=by
 refine XB (ρ:=[zd (.pub (Kq cs ls)),zd (.pub (.int c)),zd (.pub (.int s)),zj,zj,zj,zj,zj]) zh ?_;unfold Sv;have l7:=g.l7;have l1:=g.l1;have c6:=g.c6;have c1:=g.c1;have zJ:Ki [.list (ls.map K9)]=zd (.int ls.length):=by rw[K8,Qb]
 have zU:Ki [.list (cs.map int)]=zd (.int cs.length):=by rw[K8,Qb]
 generalize hm:ls.length=m at *;generalize hn:cs.length=n at *;refine Kf (Kt (Zf (UP (Kr zh UW WA) UV) zJ) (Qa zh) zh) ?_;have s1:U1 (.list [.int 3,.int 2,.int ((m:Int)+1)]) (.list (Ux m (.int ((n:Int)+1))))=zd (.list (([3,2,(m:Int)+1]++Ux m ((n:Int)+1)).map int)):=by rw[Xx (by rw[QF];show 3+m<=_;lia),QA,JM];rfl
 have s2:U1 (.list (([3,2,(m:Int)+1]++Ux m ((n:Int)+1)).map int)) (.list (Ux m (.int (m:Int))))=zd (.list ((szA n m).map int)):=by rw[Xx (by rw[Qb,Qi,QF,QF];show 3+m+m<=_;lia)];unfold szA;rw[QA (l₂:=Ux m (m:Int)),JM (n:=m) (a:=(m:Int))]
 obtain⟨r,hF,dg,rfl,hdl,hdb⟩:=Nl c s (sizes:=szA n m) (λx hx=>by
  unfold szA at hx;rcases QG.mp hx with hx|hx
  .rcases QG.mp hx with hx|hx
   .have hx:x=3∨x=2∨x=(m:Int)+1:=by simpa using hx
    lia
   .rw[(List.mem_replicate.mp hx).2];lia
  .rw[(List.mem_replicate.mp hx).2];lia) (by rw[Hx];lia)
 rw[Hx]at hdl;refine Kf (Kt (Kg (UP (UM zh) (UP (UM zh) (UP (U2 (U2 (KZ (UP UW (UP UW (UP (U2 (UM zh) UW KW) UV))) (Qa zh)) (U2 (KZ (UP (U2 (Zf (UP (Kr zh UW WB) UV) zU) UW KW) UV) (Qa zh)) (UM zh) (LX (by lia))) s1) (U2 (KZ (UP (UM zh) UV) (Qa zh)) (UM zh) (LX (by lia))) s2) UV))) zh hF) (Qa zh) zh) ?_;have get:∀j,j<3+m+m->∃d,dg[j]?=zd d:=λj hj=>⟨dg[j]'(by lia),Qe _⟩
 obtain⟨d0,e0⟩:=get 0 (by lia);obtain⟨d1,e1⟩:=get 1 (by lia);obtain⟨d2,e2⟩:=get 2 (by lia);have b0:=hdb 0 d0 3 e0 zh;have b1:=hdb 1 d1 2 e1 zh;have b2:=hdb 2 d2 ((m:Int)+1) e2 zh;have i0:oIx (.list (dg.map int)) (.int 0)=zd (.int d0):=Zq (j:=0) (by rw[Qd,e0];rfl);have i1:oIx (.list (dg.map int)) (.int 1)=zd (.int d1):=Zq (j:=1) (by rw[Qd,e1];rfl);have i2:oIx (.list (dg.map int)) (.int 2)=zd (.int d2):=Zq (j:=2) (by rw[Qd,e2];rfl);refine Kf (Kt UW (Qa zh) zh) ?_
 let ol:zo:=(dg.drop 3).take m
 have oll:ol.length=m:=by show((dg.drop 3).take m).length=m;rw[QT,Ji];lia
 have olb:∀d∈ol,0<=d/\d<(n:Int)+1:=λd hd=>by
  obtain⟨j,hj,e⟩:=List.mem_iff_getElem.mp hd;have bE:j<m:=by lia
  refine hdb (3+j) d _ ?_ (BO bE);have:ol[j]?=zd d:=by rw[Qe hj,e]
  show dg[3+j]?=_;rw[←this];show _=((dg.drop 3).take m)[j]?;rw[List.getElem?_take,Qu bE,List.getElem?_drop]
 have zQ:DL.cutD (dg.map int) (zd 3) (zd (3+(m:Int)))=ol.map int:=by
  rw[Mv (by decide) (by lia) (by lia)];have t1:(3:Int).toNat=3:=rfl;have t2:(3+(m:Int)).toNat-(3:Int).toNat=m:=by lia
  rw[t2,t1]
 have step:Ho (sIf (UQ oEq (UY 4 (UR (.int 1))) (UR (.int 1))) (Zc 5 (Zb (KJ (KS (UL 4) (Kd (UR (.int 3)) λx=>Ka (Zo x)) (Kd (UQ U1 (UR (.int 3)) (UL 3)) λx=>Ka (Zo x)))) 1 (gN 8) (UR zk) (UQ oIx (Kh (UO (UR .none) (UO (UQ K0 (UL 8) (UR (.int 1))) (UN)))) (K4 Pr (UO (U0 Uz (Zj (oIB λi j=>decide (j<i)) 8 (UR (.int 0)))) (UN)))))) (sNx))
   [zd (.pub (Kq cs ls)),zd (.pub (.int c)),zd (.pub (.int s)),zd (.pub (.int m)),zd (.pub (.list (dg.map int))),zd (.pub .none),zj,zj]
   (λr=>∃old x6,r=.nx [zd (.pub (Kq cs ls)),zd (.pub (.int c)),zd (.pub (.int s)),zd (.pub (.int m)),zd (.pub (.list (dg.map int))),x6,zj,zj] /\
    (x6=zd (.pub (Wk old)) ∨ ∃ws,old=zd ws/\x6=zd (.own (ws.map Kb)))/\(∀ws,old=zd ws->ws.length=m)/\∀ws t,old=zd ws->zd t∈ws->0<=t/\t<n):=by
  have hc:∀a b:Option Sl,K6 (gN 8) (UR zk) (UQ oIx (Kh (UO (UR .none) (UO (UQ K0 (UL 8) (UR (.int 1))) (UN)))) (K4 Pr (UO (U0 Uz (Zj (oIB λi j=>decide (j<i)) 8 (UR (.int 0)))) (UN)))) (ol.map int) (KD [zd (.pub (Kq cs ls)),zd (.pub (.int c)),zd (.pub (.int s)),zd (.pub (.int m)),zd (.pub (.list (dg.map int))),zd (.pub .none),zj,zj]++Ux 1 zj) []=zd ((ol.map Pc).map Kb):=λ_ _=>by
   refine XG (λρ=>∃x,ρ=[zd (.pub (Kq cs ls)),zd (.pub (.int c)),zd (.pub (.int s)),zd (.pub (.int m)),zd (.pub (.list (dg.map int))),zd (.pub .none),zj,zj,x]) _ _ _ _ (by simp only[Qb]) ?_ ⟨zj,rfl⟩ (by rw[Qb,Qt];lia);rintro i d e hd he ρ ⟨x,rfl⟩;rw[Qd]at hd;rw[Qd,Qd]at he;cases hw:ol[i]? with
   |none=>rw[hw]at hd;cases hd
   |some z=>
   rw[hw]at hd he;cases hd;cases he;exact⟨_,UT (Qa zh) zh,rfl,U2 (KZ (UP UW (UP (U2 (UM zh) UW YT) UV)) (Qa zh)) (Zf (UP (Kx (ZS zh UW zh)) UV) zh) (jH z),_,rfl⟩
  apply Kw
  case h1=>exact U2 (Kr zh UW i1) UW YI
  case h2=>
   intro _;refine Z7 (ZT (Zl (K7 (Ye (UM zh) (ZE UW) (ZE (U2 UW (UM zh) KW)) (by rw[Yg,zQ])) Zh) (hc zj zj)) (Qa zh) zh) ?_;refine⟨zd (ol.map Pc),_,rfl,.inr ⟨_,rfl,rfl⟩,λws e=>?_,λws t e ht=>?_⟩
   .cases e;rw[Qb];exact oll
   .cases e
    obtain⟨d,hd,e⟩:=Qo.mp ht;have:=olb d hd;unfold Pc at e;split at e
    .cases e;lia
    .cases e
  case h3=>exact λ_=>KO ⟨zj,_,rfl,.inl zh,(λws e=>by cases e),(λws t e=>by cases e)⟩
 refine KL (HW step λr hr=>?_);obtain⟨old,x6,rfl,hx6,hol,hob⟩:=hr;refine KI ?_;refine Kf (ZT (WO UV (Qa zh)) (Qa zh) zh) ?_;obtain⟨k2,rfl⟩:∃k:Nat,d2=k:=⟨d2.toNat,by lia⟩
 let tl:zo:=(dg.drop (3+m)).take k2
 have tll:tl.length=k2:=by show((dg.drop (3+m)).take k2).length=k2;rw[QT,Ji];lia
 have tlb:∀j d,tl[j]?=zd d->0<=d/\d<(m:Int):=λj d hj=>by
  have zL:j<k2:=by have:=(Qg.mp hj).1;lia
  refine hdb (3+m+j) d _ ?_ (jI (by lia));rw[←hj];show _=((dg.drop (3+m)).take k2)[j]?;rw[List.getElem?_take,Qu zL,List.getElem?_drop]
 have bM:DL.cutD (dg.map int) (zd (3+(m:Int))) (zd (3+(m:Int)+(k2:Int)))=tl.map int:=by
  rw[Mv (by lia) (by lia) (by lia)];have t1:(3+(m:Int)).toNat=3+m:=by lia
  have t2:(3+(m:Int)+(k2:Int)).toNat-(3+(m:Int)).toNat=k2:=by lia
  rw[t2,t1]
 apply KL;apply Zs (λi ρ=>∃(T:zo)(x8:Option Sl),ρ=[zd (.pub (Kq cs ls)),zd (.pub (.int c)),zd (.pub (.int s)),zd (.pub (.int m)),zd (.pub (.list (dg.map int))),x6,zd (.own (T.map int)),x8]/\T.length=i/\T.Nodup/\∀a∈T,0<=a/\a<(m:Int))
 case h1=>exact K7 (Ye (UM zh) (ZE (U2 UW (UM zh) KW)) (ZE (U2 (U2 UW (UM zh) KW) (Kr zh UW i2) KW)) (by rw[Yg,bM])) Zh
 case h0=>exact⟨[],_,rfl,rfl,List.nodup_nil,λ_ h=>by cases h⟩
 case hst=>
  rintro i d ρ hi ⟨T,x8,rfl,hT,hTn,hTb⟩;rw[Qd]at hi;cases hw:tl[i]? with
  |none=>rw[hw]at hi;cases hi
  |some z=>
  rw[hw]at hi;cases hi;have hz:=tlb i z hw;have zG:i<k2:=by have:=(Qg.mp hw).1;lia
  obtain⟨zz,rfl⟩:∃k:Nat,z=k:=⟨z.toNat,by lia⟩
  refine⟨_,UT (Qa zh) zh,?_⟩;unfold HF;obtain⟨k,hk,hk1,hk2⟩:=wG (m:=m) (T:=T) zz (by lia) hTn;refine Kf (EC (by lia) k 1000 zz hk1 hk2 (by lia) (by lia)) ?_;refine Z7 (WG zh (UM zh) zh (by rw[Qb];lia) zh) ?_;refine KU ⟨T++[(((zz+k) % m:Nat):Int)],_,by rw[QA (l₁:=T) (f:=int)];rfl,by rw[Qi,hT];rfl,?_,λa ha=>?_⟩
  .refine List.nodup_append.mpr ⟨hTn,List.nodup_cons.mpr ⟨(by simp),List.nodup_nil⟩,λa ha b hb e=>?_⟩
   rw[Qv.mp hb]at e;exact hk2 (e ▸ ha)
  .rcases QG.mp ha with h|h
   .exact hTb a h
   .rw[Qv.mp h]
    have:=Nat.mod_lt (zz+k) (show 0<m by lia);exact⟨by lia,by lia⟩
 case hend=>
  rintro ρ ⟨T,x8,rfl,hT,hTn,hTb⟩;refine KI ?_
  obtain⟨o,ho⟩:∃o:Ord,oIx (.list [.str "firsts", .str "full", .str "lasts"]) (.int d0)=zd (.str o.tx):=by
   have:d0=0∨d0=1∨d0=2:=by lia
   rcases this with rfl|rfl|rfl
   .exact⟨.firsts,Zq (j:=0) zh⟩
   .exact⟨.full,Zq (j:=1) zh⟩
   .exact⟨.lasts,Zq (j:=2) zh⟩
  have ga:Ym n m old T:=⟨hol,hob,hTn,hTb⟩;rcases hx6 with rfl|⟨ws,rfl,rfl⟩
  .exact Kk (Zk (UP (U2 (KZ (UP UW (UP UW (UP UW UV))) (Qa zh)) (Kr zh UW i0) ho) (UP (UM zh) (UP (Yi zh zh) UV))) (Qa zh)) ⟨_,rfl,o,_,T,rfl,ga⟩
  .exact Kk (Zk (UP (U2 (KZ (UP UW (UP UW (UP UW UV))) (Qa zh)) (Kr zh UW i0) ho) (UP (Yi zh zh) (UP (Yi zh zh) UV))) (Qa zh)) ⟨_,rfl,o,zd ws,T,rfl,ga⟩
end
section
variable{cs:zo}{ls:L3}{ws:LO}
def yO(g:Good cs ls):VM [Kq cs ls]=zd (.int (lng ls:Nat)):=by
 refine KY  rfl ?_
 have hc:K6 (gN 1) (UR zk) (K5 1) (ls.map K9) (KD [zd (.pub (Kq cs ls))]++Ux 1 zj) []=zd ((ls.map λrs=>(rs.length)).map int):=by
  refine XG (λρ=>∃x,ρ=[zd _,x]) _ _ _ _ (by rw[Qb,Qb,Qb]) ?_ ⟨zj,rfl⟩ (by rw[Qb,Qt];have:=g.l7;lia);rintro i d e hd he ρ ⟨x,rfl⟩;rw[Qd]at hd;rw[Qd,Qd]at he;cases hl:ls[i]? with
  |none=>rw[hl]at hd;cases hd
  |some rs=>
  rw[hl]at hd he;cases hd;cases he;exact⟨_,UT (Qa zh) zh,rfl,Zg zh (Ea rs),_,rfl⟩
 refine Kk (Zf (UP (Kx (Zl (K7 (Kr zh UW WA) Zh) hc)) UV) (Mz (by rw[Qb];have:=g.l1;lia))) ?_;rw[Mc g.l1]
def yo{i:Nat}{rs:List zo}(h:ls[i]?=zd rs)(t:Int):VN [Kq cs ls,.int i,.int t]=zd (.int (Zr t rs:Nat)):=by
 refine KY  rfl ?_;apply KL;apply Zs (λi' ρ=>(∃x2 x3,ρ=[zd (.pub (Kq cs ls)),zd (.pub (.int i)),zd (.pub (.int t)),x2,x3])/\∀j r,j<i'->rs[j]?=zd r->r.contains t=zm)
 case h1=>exact Xc (UP (U2 (Kr zh UW WA) (UM zh) (Nm h)) UV) Xe
 case h0=>exact⟨⟨_,_,rfl⟩,λj r h=>absurd h (Je _)⟩
 case hst=>
  rintro k d ρ hi ⟨⟨x2,x3,rfl⟩,hb⟩;obtain⟨x,hx,rfl⟩:=Xd hi;rw[Qd]at hx;cases hr:rs[k]? with
  |none=>rw[hr]at hx;cases hx
  |some r=>
   rw[hr]at hx;cases hx;refine⟨_,Km zh (UZ (UT (Qa zh) zh) (UZ (UT (Qa zh) zh) Kn)),?_⟩;apply Kw
   case h1=>exact ZS zh (UM zh) (Me t r)
   case h2=>
    intro hh;refine Kk (U2 (UM zh) UW KW) (Vi ?_);rw[Ed hr hh hb];refine⟨?_⟩
    congr 2
    lia
   case h3=>
    intro hh;refine KO (KU ⟨⟨_,_,rfl⟩,λj r' hj e=>?_⟩);rcases JW.mp hj with hj|rfl
    .exact hb j r' hj e
    .rw[hr]at e;cases e;exact hh
 case hend=>rintro ρ ⟨⟨x2,x3,rfl⟩,hb⟩;refine KI (Kk UW ?_);rw[Ec (λj r hj e=>hb j r (by rw[Yt,Qb];exact hj) e)];rfl
end
def jD   : (DL.cutD xs a b).length<=xs.length:=by
 unfold DL.cutD;rw[QT,Ji]
 lia
def jC    (h:x∈DL.cutD xs a b):x∈xs:=by exact List.mem_of_mem_drop (JG h)
noncomputable def whB:D->Bool
 |.int _=>zk
 |_=>zm
noncomputable def whI:D->zx
 |.int i=>zd i
 |_=>zj
noncomputable def itI:D->zo
 |.list xs=>xs.filterMap whI
 |_=>[]
def PQ(d):Yd [d]=zd (.bool (whB d)):=by
 cases d with
 |dict kvs=>exact KY  rfl (Kk (Wf  (u:=zm) (L7 (UM zh)) λz=>by cases z) zh)
 |_=>rfl
def kW  (xs:zn):ZC [.list (xs.map λd=>.bool (q d))]=zd (.bool (xs.all q)):=by
 have:(xs.map λd=>Uz (q d))=(xs.map q).map Uz:=by rw[QO];rfl
 rw[this,TD];simp_all
theorem Fq:∀(a b)(k),U7 k (a++b)=U7 k a++U7 (k+a.length) b
 |[],b,k=>rfl
 |rs::a,b,k=>by show _++U7 _ (a++b)=_;rw[Fq a b _];show _=(_++U7 _ a)++U7 (k+(a.length+1)) b;rw[Q5,show k+1+a.length=k+(a.length+1)by lia]
def jB  (ls)(k)(h:∀rs∈ls,rs.flatten.length<=n):(U7 k ls).length<=ls.length*n:=by rw[(T9 ls k).length_eq];exact ML n ls k h
section
variable{cs:zo}{ls:L3}{o:Ord}{old:zC}{ts:zo}
def EH  {b a r x:Int}(hn:(ts++[x]).Nodup):X2 (ts++[x]) b a r=X2 ts b a r*b+if x=a then b-r else 0:=by
 have hx   :=λz=>(List.nodup_append.mp hn).2.2 x z x (Qv.mpr zh) zh;unfold X2
 by_cases h:a∈ts
 .have hxa:¬x=a:=λe=>hx (e ▸ h)
  have hlt:=List.idxOf_lt_length_of_mem h;rw[Qu (Q0 _ h),Qu h,QH hxa,List.idxOf_append,Qu h,Qi,QX,show ts.length+1-1-ts.idxOf a=(ts.length-1-ts.idxOf a)+1 by lia,Int.pow_succ,Int.add_zero,Int.mul_assoc]
 .rw[QH h,Int.zero_mul,Jv]
  by_cases e:x=a
  .subst e
   rw[if_pos (by simp),if_pos zh,List.idxOf_append,if_neg h,List.length_append,List.length_singleton,List.idxOf_cons_self,show ts.length+1-1-_=0 by lia,Int.pow_zero,Int.mul_one]
  .rw[if_neg (by simp[h];exact λz=>e z.symm),if_neg e]
noncomputable def pwL(b:Int)(n:Nat):zo:=(Uw (n+1)).map λj:Nat=>b ^ j
def Hw  {n j}(h:j<=n):(pwL b n)[j]?=zd (b ^ j):=by unfold pwL;rw[Qd,QR (by lia)];rfl
def HS   : (pwL b n).length=n+1:=by unfold pwL;simp_all
def jA   : pwL b (n+1)=pwL b n++[b ^ n*b]:=by unfold pwL;rw[List.range_succ,QA,←Int.pow_succ];rfl
def NH  {n:Nat}{k:Int}(h0:0<=k)(h:k<=n):oIx (.list ((pwL b n).map int)) (.int k)=zd (.int (b ^ k.toNat)):=by
 have e:k=((k.toNat)):=by lia
 rw[e];refine Zq ?_;rw[Qd,Hw (by lia)];rfl
def jz{ws:LO}{i:Nat}{t}(h):oEq (Kb ws[i]) (.int t)=zd (decide (ws[i]=zd t)):=Ow (b:=zd t)
noncomputable def Ord.isL:Ord->Bool
 |.lasts=>zk
 |_=>zm
def CT(o:Ord):oEq (.str o.tx) (.str "lasts")=zd o.isL:=by cases o<;>decide +kernel
def E1(g:Good cs ls)(ga:Ym cs.length ls.length old ts){i:Nat}{rs:List zo}(hi:ls[i]?=zd rs){t:Int}(ht:t∈rs.flatten):Ws [Kq cs ls,KF o old ts,.int i,.int t]=zd (.int (Zu ls o old ts i rs t)):=by
 have l7:=g.l7;have l1:=g.l1;have hL:lng ls<=5:=NF l1 λrs h=>(g.rk rs h).few;have hrs:rs∈ls:=Qq hi;have am:=LZ hrs;have hrk:Zr t rs<=lng ls:=by have:=MT t rs;lia
 have hrp:1<=Zr t rs:=by have:=M6 ht;lia
 have htl:=ga.few;have hlt:i<ls.length:=(Qg.mp hi).1;refine KY (ρ:=[zd (.pub (Kq cs ls)),zd (.pub (KF o old ts)),zd (.pub (.int i)),zd (.pub (.int t)),zj,zj,zj,zj,zj,zj,zj,zj,zj,zj,zj]) zh ?_;unfold Su;refine Kf (YW (UM zh) (Km zh (UZ (UT (Qa zh) zh) (UZ (UT (Qa zh) zh) (UZ (UT (Qa zh) zh) Kn))))) ?_;have zJ:Ki [.list (ls.map K9)]=zd (.int ls.length):=by rw[K8,Qb]
 refine Kf (Kt (U2 (Zf (UP (Kr zh UW WA) UV) zJ) UW KW) (Qa zh) zh) ?_;refine Kf (Kt (Kg (UP (UM zh) UV) zh (yO g)) (Qa zh) zh) ?_;refine Kf (Kt (Kg (UP (UM zh) (UP (UM zh) (UP (UM zh) UV))) zh (yo hi t)) (Qa zh) zh) ?_;refine Kf (ZT (WO (UP UW UV) (Qa zh)) (Qa zh) zh) ?_
 let S0:Option Sl:=zd (.pub (Kq cs ls))
 let S1:Option Sl:=zd (.pub (KF o old ts))
 let S2:Option Sl:=zd (.pub (.int i))
 let S3:Option Sl:=zd (.pub (.int t))
 let S4:Option Sl:=zd (.pub (.str o.tx))
 let S5:Option Sl:=zd (.pub (Wk old))
 let S6:Option Sl:=zd (.pub (.list (ts.map int)))
 let b:Int:=(ls.length:Int)+1
 let M:Nat:=lng ls
 let r:Nat:=Zr t rs
 let S7:Option Sl:=zd (.pub (.int b))
 let S8:Option Sl:=zd (.pub (.int (M:Int)))
 let S9:Option Sl:=zd (.pub (.int (r:Int)))
 apply KL;apply Zs (λj ρ=>∃zH,ρ=[S0,S1,S2,S3,S4,S5,S6,S7,S8,S9,zd (.own ((pwL b j).map int)),zH,zj,zj,zj])
 case h1=>exact X6 (UP (UM zh) UV) (X7 (by lia) (by lia))
 case h0=>exact⟨_,rfl⟩
 case hst=>
  rintro j d ρ hj ⟨zH,rfl⟩;refine⟨_,UT (Qa zh) zh,?_⟩;unfold Gz;obtain⟨_,zL⟩:=WK hj
  have zI:oIx (.list ((pwL b j).map int)) (.int (-1))=zd (.int (b ^ j)):=Mf (by
   rw[List.getLast?_eq_getElem?,Qb,HS,Qd,Nat.add_sub_cancel,Hw (Qp j)]
   rfl)
  refine Z7 (WG zh (U2 (Vk zh (WH UW) zh zI) (UM zh) (XE (by lia) (by lia))) zh (by rw[Qb,HS];lia) zh) (KU ⟨zd (.pub d),?_⟩);rw[jA,QA];rfl
 case hend=>
  rintro ρ ⟨zH,rfl⟩;have er:(YM 0 (M:Int)).length=M:=by rw[YX];lia
  rw[er];refine KI ?_
  let S10:Option Sl:=zd (.own ((pwL b M).map int))
  have e1:((M:Int)-(r:Int)).toNat=M-r:=by lia
  have p1:oIx (.list ((pwL b M).map int)) (.int ((M:Int)-(r:Int)))=zd (.int (b ^ (M-r))):=by rw[NH (by lia) (by lia),e1]
  have p2:oIx (.list ((pwL b M).map int)) (.int (M:Int))=zd (.int (b ^ M)):=by rw[NH (by lia) (by lia)];rfl
  have p3:oIx (.list ((pwL b M).map int)) (.int ((r:Int)-1))=zd (.int (b ^ (r-1))):=by rw[NH (by lia) (by lia),show((r:Int)-1).toNat=r-1 by lia]
  refine Kf (ρ1:=[S0,S1,S2,S3,S4,S5,S6,S7,S8,S9,S10,zH,zd (.pub (.int (b ^ (M-r)))),zj,zj]) (Kt (Vk zh (U2 (UM zh) (UM zh) YT) zh p1) (Qa zh) zh) ?_
  have eo:ZV o b M r=match o with | .firsts=>b ^ (M-r) | .full=>b ^ (M-r)+b ^ M | .lasts=>b ^ M-b ^ (r-1):=by
   cases o with
   |firsts=>show b ^ ((M:Int)-(r:Int)).toNat=_;rw[e1]
   |full=>show b ^ ((M:Int)).toNat+b ^ ((M:Int)-(r:Int)).toNat=_;rw[e1,Int.add_comm];rfl
   |lasts=>show b ^ ((M:Int)).toNat-b ^ ((r:Int)-1).toNat=_;rw[show((r:Int)-1).toNat=r-1 by lia];rfl
  have done:∀w:Int,w=ZV o b M r->Ho (US (U5 12 (UQ Ks (UL 12) (UL 7)))
    (US (sIf (Zi (U0 (λd=>!isNon d) (UL 5)) (UQ oEq (UY 5 (UL 2)) (UL 3)))
    (U5 12 (UQ U1 (UL 12) (UR (.int 1))))
    (sNx))
    (US (U5 13 (UR (.int 0)))
    (US (Ku (KJ (UL 6)) (gN 14) OH)
    (U3 (UQ U1 (UL 12) (UL 13))))))) [S0,S1,S2,S3,S4,S5,S6,S7,S8,S9,S10,zH,zd (.pub (.int w)),zj,zj] (λo'=>o'=.rt (.int (Zu ls o old ts i rs t))):=by
   rintro w rfl;refine Kf (ρ1:=[S0,S1,S2,S3,S4,S5,S6,S7,S8,S9,S10,zH,zd (.pub (.int (ZV o b M r*b))),zj,zj]) (Kt (U2 (UM rfl) (UM rfl) (XE (by lia) (by lia))) (Qa rfl) rfl) ?_
   have rest:∀v:Int,v=ZV o b M r*b+Xv old i t->Ho (US (U5 13 (UR (.int 0)))
    (US (Ku (KJ (UL 6)) (gN 14) OH)
    (U3 (UQ U1 (UL 12) (UL 13))))) [S0,S1,S2,S3,S4,S5,S6,S7,S8,S9,S10,zH,zd (.pub (.int v)),zj,zj] (λo'=>o'=.rt (.int (Zu ls o old ts i rs t))):=by
    intro v hv;refine Kf (Kt UW (Qa zh) zh) ?_;apply KL;apply Zs (λj ρ=>∃zR,ρ=[S0,S1,S2,S3,S4,S5,S6,S7,S8,S9,S10,zH,zd (.pub (.int (v*((M:Int)+1) ^ j))),zd (.pub (.int (X2 (ts.take j) ((M:Int)+1) i r))),zR])
    case h1=>exact K7 (UM zh) Zh
    case h0=>exact⟨zj,by rw[Int.pow_zero,Int.mul_one];rfl⟩
    case hst=>
     rintro j d ρ hj ⟨zR,rfl⟩;rw[Qd]at hj;cases hz:ts[j]? with
     |none=>rw[hz]at hj;cases hj
     |some a=>
     rw[hz]at hj;cases hj;have zL:j<ts.length:=(Qg.mp hz).1;have ha:ts[j]=a:=(Qg.mp hz).2;have hts:ts.take (j+1)=ts.take j++[a]:=by rw[List.take_succ_eq_append_getElem zL,ha]
     have hnd:(ts.take j++[a]).Nodup:=by rw[←hts];exact List.Nodup.sublist (List.take_sublist _ _) ga.once
     refine⟨_,UT (Qa zh) zh,?_⟩;unfold OH;refine Kf (ρ1:=[S0,S1,S2,S3,S4,S5,S6,S7,S8,S9,S10,zH,zd (.pub (.int (v*((M:Int)+1) ^ (j+1)))),zd (.pub (.int (X2 (ts.take j) ((M:Int)+1) i r))),zd (.pub (.int a))]) (Kt (U2 (UM zh) (U2 (UM zh) UW KW) (XE (by lia) (by lia))) (Qa zh) (by rw[Int.mul_assoc,←Int.pow_succ];rfl)) ?_;refine Kf (ρ1:=[S0,S1,S2,S3,S4,S5,S6,S7,S8,S9,S10,zH,zd (.pub (.int (v*((M:Int)+1) ^ (j+1)))),zd (.pub (.int (X2 (ts.take j) ((M:Int)+1) i r*((M:Int)+1)))),zd (.pub (.int a))]) (Kt (U2 (UM zh) (U2 (UM zh) UW KW) (XE (by lia) (by lia))) (Qa zh) zh) ?_;refine Kw (ZS zh (UM zh) YI) (λhh=>?_) (λhh=>?_)
     .have e:a=(i:Int):=by simpa using hh
      refine Z7 (Kt (U2 (U2 (U2 (UM zh) (UM zh) KW) UW KW) (UM zh) YT) (Qa zh) zh) (KU ⟨zd (.pub (.int a)),?_⟩);rw[hts,EH hnd,Qu e];have:X2 (ts.take j) ((M:Int)+1) i r*((M:Int)+1)+(M:Int)+1-(r:Int)=X2 (ts.take j) ((M:Int)+1) i r*((M:Int)+1)+((M:Int)+1-(r:Int)):=by lia
      rw[←this];rfl
     .have e:¬a=(i:Int):=by simpa using hh
      refine KO (KU ⟨zd (.pub (.int a)),?_⟩);rw[hts,EH hnd,QH e,Int.add_zero]
    case hend=>rintro ρ ⟨zR,rfl⟩;refine KI (Kk (U2 (UM rfl) (UM rfl) KW) ?_);rw[Qb,Jm,hv];rfl
   have hkk:Zi (U0 (λd=>!isNon d) (UL 5)) (UQ oEq (UY 5 (UL 2)) (UL 3)) [S0,S1,S2,S3,S4,S5,S6,S7,S8,S9,S10,zH,zd (.pub (.int (ZV o b M r*b))),zj,zj]=.ok (decide (Xv old i t=1)) [S0,S1,S2,S3,S4,S5,S6,S7,S8,S9,S10,zH,zd (.pub (.int (ZV o b M r*b))),zj,zj]:=by
    cases old with
    |none=>exact TF (Kx (k:=λd=>!isNon d) (x:=PyData.none) (UM zh))
    |some ws=>
     have hw:ws.length=ls.length:=ga.len ws zh;have hwi:ws[i]?=zd ws[i]:=Qe (by lia);have hx:oIx (.list (ws.map Kb)) (.int i)=zd (Kb ws[i]):=L4 (by lia)
     have e:decide (Xv (zd ws) i t=1)=decide (ws[i]=zd t):=by
      refine Uj.mpr ?_
      show(if ws[i]?=zd (zd t)then(1:Int)else 0)=1 ↔ _
      rw[hwi];by_cases z:ws[i]=zd t
      .rw[if_pos (by rw[z])];simp[z]
      .rw[if_neg (λy=>z (Option.some.inj y))];simp[z]
     rw[e];exact Vg (Kx (k:=λd=>!isNon d) (x:=Wk (zd ws)) (UM zh)) (U2 (Kr zh (UM zh) hx) (UM zh) (jz (by lia)))
   apply KL;refine Kw hkk (λhh=>?_) (λhh=>?_)
   .have e:Xv old i t=1:=by simpa using hh
    exact Z7 (Kt (U2 (UM zh) UW KW) (Qa zh) zh) (KI (rest _ (by rw[e])))
   .have e:Xv old i t=0:=by
     have hn:¬Xv old i t=1:=by simpa using hh
     unfold Xv at hn⊢;split at hn
     .rfl
     .split at hn
      .exact absurd zh hn
      .rename_i hz;rw[QH hz]
    exact KO (KI (rest _ (by rw[e,Int.add_zero])))
  have f2:=CT o;apply KL;refine Kw (ZS zh UW (LY o)) (λhh=>?_) (λhh=>?_)
  .cases o with
   |full=>refine Z7 (Kt (U2 (UM zh) (Vk zh (UM zh) zh p2) KW) (Qa zh) zh) (KI ?_);apply KL;exact Kw (b:=zm) (ZS zh UW f2) (λz=>by cases z) λ_=>KO (KI (done _ eo.symm))
   |firsts=>cases hh
   |lasts=>cases hh
  .refine KO (KI ?_)
   apply KL;refine Kw (ZS zh UW f2) (λh2=>?_) (λh2=>?_)
   .cases o with
    |lasts=>exact Z7 (Kt (U2 (Vk zh (UM zh) zh p2) (Vk zh (U2 (UM zh) UW YT) zh p3) YT) (Qa zh) zh) (KI (done _ eo.symm))
    |firsts=>cases h2
    |full=>cases h2
   .cases o with
    |firsts=>exact KO (KI (done _ eo.symm))
    |full=>cases hh
    |lasts=>cases h2
end
def EG{α β:Type}{f:α->β}(hf:∀a b,f a=f b->a=b){l:List α}(h:l.Nodup):(l.map f).Nodup:=by unfold List.Nodup at h⊢;rw[List.pairwise_map];exact h.imp λhne e=>hne (hf _ _ e)
theorem EF:∀(ls)(k),(∀rs∈ls,rs.flatten.Nodup)->(U7 k ls).Nodup
 |[],_,_=>List.nodup_nil
 |rs::ls,k,h=>by
  show((YR rs.flatten).map _++U7 _ ls).Nodup
  rw[List.nodup_append];refine⟨?_,EF ls _ λr hr=>h r (Qj _ hr),λa ha b hb e=>?_⟩
  .exact EG (λx y e=>(Prod.mk.inj e).2) ((Wc _).nodup_iff.mpr (h rs Ql))
  .subst e
   obtain⟨t,_,rfl⟩:=Qo.mp ha;have:=MP ls _ _ hb;simp at this
   lia
section
variable{cs:zo}{ls:L3}{o:Ord}{old:zC}{ts:zo}
def Mn(g:Good cs ls):(U7 0 ls).length<=42:=by rw[(T9 ls 0).length_eq];exact PK g
end
def xy(l:zo):(l.map int).all flat=zk:=by rw[Q2];intro x hx;obtain⟨y,_,rfl⟩:=Qo.mp hx;rfl
noncomputable def KM(tm:Int)(as ps:zo):D:=.tuple [.int tm,.list (as.map int),.list (ps.map int)]
noncomputable def Pf(ps cs:zo):zo:=(ps.zip cs).map λp=>p.1*p.2
noncomputable def Xk(cs as ps:zo):Int:=as.sum+(Pf ps cs).sum
section
variable{cs:zo}{ls:L3}{tm:Int}{as ps:zo}
def Lx:oIx (KM tm as ps) (.int 0)=zd (.int tm):=Zq (j:=0) zh
def LD:oIx (KM tm as ps) (.int 1)=zd (.list (as.map int)):=Zq (j:=1) zh
def LC:oIx (KM tm as ps) (.int 2)=zd (.list (ps.map int)):=Zq (j:=2) zh
def yn(g:Good cs ls):V5 [Kq cs ls,KM tm as ps]=zd (.int (Xk cs as ps)):=by
 refine KY  rfl ?_;refine Kf (We (Kg (UP (UM zh) UV) zh (Sa g))) ?_;refine Kf (YW (UM zh) (Km zh (UZ (UT (Qa zh) zh) (UZ (UT (Qa zh) zh) (UZ (UT (Qa zh) zh) Kn))))) ?_;have c6:=g.c6
 let S2:Option Sl:=zd (.pub (.int tm))
 let S3:Option Sl:=zd (.pub (.list (as.map int)))
 let S4:Option Sl:=zd (.pub (.list (ps.map int)))
 have hc:K6 (gT 2 (gNC (gN 5) (gNC (gN 6) (gN0)))) (UR zk) (UQ Ks (UL 5) (UL 6)) (Yj (ps.map int) (cs.map int)) (KD [zd (.pub (Kq cs ls)),zd (.pub (KM tm as ps)),S2,S3,S4]++Ux 2 zj) []=zd ((Pf ps cs).map int):=by
  rw[xO,Vu (λ_=>zk) (λd=>match d with | .tuple [.int a,.int b]=>.int (a*b)|_=>.none) (λρ=>∃x y,ρ=[zd (.pub (Kq cs ls)),zd (.pub (KM tm as ps)),S2,S3,S4,x,y])]
  .rw[QJ.mpr (λ_ _=>rfl),Qy,QO]
   unfold Pf;rw[QO];rfl
  .rintro d hm ρ ⟨x,y,rfl⟩
   obtain⟨p,hp,rfl⟩:=Qo.mp hm;have:=g.c7 p.2 (List.of_mem_zip hp).2;exact⟨_,Km zh (UZ (UT (Qa zh) zh) (UZ (UT (Qa zh) zh) Kn)),rfl,λ_=>U2 (UM zh) (UM zh) (XE (by lia) (by lia)),_,_,rfl⟩
  .exact⟨zj,zj,rfl⟩
  .rw[Qb,Qt,JP];lia
 exact Kk (U2 (Zf (UP (UM zh) UV) Mu) (Zf (UP (Kx (Zl (L9 (UP (UM zh) (UP (Kr zh UW WB) UV)) zh) hc)) UV) Mu) KW) zh
end
def HR   (g:Good cs ls):∀q∈U7 0 ls,(0<=q.1/\q.1<ls.length)/\0<=q.2/\q.2<cs.length:=λq hq=>by
 obtain⟨i,rs,h1,h2,h3⟩:=TB hq;have:=(g.rk rs (Qq h1)).flat q.2 h3;have:=(Qg.mp h1).1
 lia
noncomputable def YO:D->Bool
 |.int i=>decide (0<=i)
 |_=>zm
noncomputable def nlB(n:Nat):D->Bool
 |.list xs=>decide (xs.length=n)&&xs.all YO
 |_=>zm
noncomputable def Vy:D->Bool
 |.int i=>decide (1<=i)
 |_=>zm
noncomputable def YB(n m:Nat):D->Bool
 |.tuple [t,a,p]=>Vy t&&(nlB m a&&nlB n p)
 |_=>zm
noncomputable def VD(d:D)(k:Int):Int:=(itI d).getD k.toNat 0
noncomputable def Dr(V:Int->Int->Int)(qs:LP):D->Bool
 |.tuple [.int tm,a,p]=>qs.all λq=>decide (tm*V q.1 q.2<=VD a q.1+VD p q.2)
 |_=>zm
noncomputable def Xn(n m:Nat)(V:Int->Int->Int)(qs:LP)(d:D):Bool:=YB n m d&&Dr V qs d
def ShP(d:D):Prop:=∀t a p,d=.tuple [t,a,p]->(∀xs,a=.list xs->xs.length<=1000)/\∀xs,p=.list xs->xs.length<=1000
def LW  {f}{ρ ρ1}{d}{t}(h:f ρ=.ok d ρ1)(ht:KR d c=t):U0 (λd=>Uz (KR d c)) f ρ=.ok (.bool t) ρ1:=by subst ht;exact Kx  h
def BM   {b}(h:f ρ=.ok (.bool b) ρ1)(hb:b=zm):KB (Zt f) ρ=.ok zk ρ1:=by subst hb;exact Yl (Yh h)
def wE(d):W5 [d]=zd (.bool (YO d)):=by
 refine KY  rfl ?_;cases d with
 |int i=>exact Kk (Wf   (Kg (UP (UM zh) UV) zh (PQ _)) (λ_=>Kx (ZS zh UW zh))) zh
 |_=>exact Kk (Wf (t:=zm) (u:=zm) (Kg (UP (UM zh) UV) zh (PQ _)) (λz=>by cases z)) zh
def ym{xs:zn}{n}(hl:xs.length<=1000):Ti [.list xs,.int n]=zd (.bool (decide ((xs.length:Int)=n)&&xs.all YO)):=by
 refine KY  rfl ?_
 have hc:K6 (gN 2) (UR zk) (UX 1 W5 (UO (UL 2) (UN))) xs (KD [zd (.pub (.list xs)),zd (.pub (.int n))]++Ux 1 zj) []=zd (xs.map λd=>.bool (YO d)):=by
  rw[Vu _ _ (λρ=>∃x,ρ=[zd (.pub (.list xs)),zd (.pub (.int n)),x])]
  .rw[QJ.mpr (λ_ _=>rfl),Qy]
  .rintro d hm ρ ⟨x,rfl⟩
   exact⟨_,UT (Qa zh) zh,rfl,λ_=>Kg (UP (UM zh) UV) zh (wE d),_,rfl⟩
  .exact⟨zj,rfl⟩
  .rw[Qt];lia
 exact Kk (Wf (Kx (U2 (Zg zh K8) (UM zh) YI)) (λ_=>Zf (UP (Kx (Zl (K7 (UM zh) Zh) hc)) UV) (kW xs))) zh
def De{d:D}{n:Nat}(hl:∀xs,d=.list xs->xs.length<=1000):X1 [d,.int n]=zd (.bool (nlB n d)):=by
 refine KY  rfl ?_;cases d with
 |list xs=>refine Kk (Wf (t:=zk) (LW (UM zh) zh) (λ_=>Kg (UP (UM zh) (UP (UM zh) UV)) zh (ym (hl xs zh)))) ?_;show Out.rt _=Out.rt (.bool (decide _&&xs.all YO));rw[Bool.true_and,show decide _=decide (xs.length=n)from Uj.mpr (by lia)]
 |dict kvs=>exact Kk (Wf  (u:=zm) (L7 (UM zh)) λz=>by cases z) zh
 |_=>exact Kk (Wf (t:=zm) (u:=zm) (LW (UM zh) zh) λz=>by cases z) zh
def jy{xs:zn}(h:xs.length=3):∃a b c,xs=[a,b,c]:=by
 match xs,h with
 |[a,b,c],_=>exact⟨a,b,c,rfl⟩
def jw  {xs:zn}(h:¬xs.length=3):YB n m (.tuple xs)=zm:=by
 unfold YB;split
 .simp_all
 .rfl
def jv  (h:Vy d=zk):∃i,d=.int i/\1<=i:=by
 cases d with
 |int i=>exact⟨i,rfl,Qa h⟩
 |_=>cases h
theorem Fp:∀{xs:zn},xs.all YO=zk->∃ns:zo,xs=ns.map int/\∀i∈ns,0<=i
 |[],_=>⟨[],rfl,λ_ h=>by cases h⟩
 |x::r,h=>by
  rw[Uk,QM]at h;obtain⟨ns,rfl,hn⟩:=Fp h.2;cases x with
  |int i=>exact⟨i::ns,rfl,λj hj=>by
    rcases QB.mp hj with rfl|hj
    .exact Qa h.1
    simp_all⟩
  |_=>have z:=h.1;cases z
def HQ   (h:nlB n d=zk):∃ns:zo,d=.list (ns.map int)/\ns.length=n/\∀i∈ns,0<=i:=by
 cases d with
 |list xs=>have h:(decide _&&xs.all YO)=zk:=h;rw[QM]at h;obtain⟨ns,rfl,hn⟩:=Fp h.2;exact⟨ns,rfl,by have:=Qa h.1;rw[Qb]at this;exact this,hn⟩
 |_=>cases h
def Fo   (h:YB n m d=zk):∃tm as ps,d=KM tm as ps/\1<=tm/\(as.length=m/\∀i∈as,0<=i)/\ps.length=n/\∀i∈ps,0<=i:=by
 unfold YB at h;split at h
 .rw[QM,QM]at h
  obtain⟨i,rfl,hi⟩:=jv h.1;obtain⟨as,rfl,h1⟩:=HQ h.2.1;obtain⟨ps,rfl,h2⟩:=HQ h.2.2;exact⟨i,as,ps,rfl,hi,h1,h2⟩
 simp_all
def ju(ns):itI (.list (ns.map int))=ns:=by
 show(ns.map int).filterMap whI=ns
 rw[List.filterMap_map];show ns.filterMap (λi=>zd i)=ns;simp
def MS{ns:zo}{k}:VD (.list (ns.map int)) k=ns.getD k.toNat 0:=by unfold VD;rw[ju]
def Vf{ns:zo}{k:Int}(h0:0<=k)(h1:k<ns.length):oIx (.list (ns.map int)) (.int k)=zd (.int (ns.getD k.toNat 0)):=by
 obtain⟨j,rfl⟩:∃j:Nat,k=j:=⟨k.toNat,by lia⟩
 exact OF (by lia)
section
variable{cs:zo}{ls:L3}{o:Ord}{old:zC}{ts:zo}
def jt{d:D}(hs:ShP d):V6 [Kq cs ls,d]=zd (.bool (YB cs.length ls.length d)):=by
 refine KY (ρ:=[zd (.pub (Kq cs ls)),zd (.pub d),zj,zj,zj,zj,zj]) zh ?_;unfold SW;apply KL;cases d with
 |tuple xs=>
  refine Kw (b:=!decide (xs.length=3)) (ρ1:=[zd (.pub (Kq cs ls)),zd (.pub (.tuple xs)),zj,zj,zj,zj,zj]) ?_ (λhh=>?_) (λhh=>?_)
  .refine(Yk (YU (UM zh) zh) (U2 (Zg zh Mx) UW Vo)).trans ?_
   rw[show decide ((xs.length:Int)=3)=decide (xs.length=3)from Uj.mpr (by lia)]
  .have h3:¬xs.length=3:=by simpa using hh
   refine Kk UW (ZK ?_);rw[jw h3]
  .have h3:xs.length=3:=by simpa using hh
   obtain⟨t,a,p,rfl⟩:=jy h3;obtain⟨ha,hp⟩:=hs t a p zh;refine KO (KI ?_);refine Kf (YW (UM zh) (Km zh (UZ (UT (Qa zh) zh) (UZ (UT (Qa zh) zh) Kn)))) ?_;refine Kf (YW (UM zh) (Km zh (UZ (UT (Qa zh) zh) (UZ (UT (Qa zh) zh) (UZ (UT (Qa zh) zh) Kn))))) ?_;have ac:Vy t=zk->Ho (U3 (WD (UX 2 X1 (UO (UL 5) (UO (K5 3) (UN)))) (UX 2 X1 (UO (UL 6) (UO (K5 2) (UN)))))) [zd (.pub (Kq cs ls)),zd (.pub (.tuple [t,a,p])),zd (.pub (.list (cs.map int))),zd (.pub (.list (ls.map K9))),zd (.pub t),zd (.pub a),zd (.pub p)] (λo'=>o'=.rt (.bool (YB cs.length ls.length (.tuple [t,a,p])))):=by intro h1;have h5:=De (n:=ls.length) ha;have h6:=De (n:=cs.length) hp;refine Kk (Wf (Kg (UP (UM zh) (UP (Zg zh (by rw[K8,Qb])) UV)) zh h5) (λ_=>Kg (UP (UM zh) (UP (Zg zh (by rw[K8,Qb])) UV)) zh h6)) ?_;show _=Out.rt (.bool (Vy t&&_));rw[h1];rfl
   apply KL;cases t with
   |int i=>
    refine Kw (b:=decide (i<1)) (Yk (Yl (Yh (Kg (UP (UM zh) UV) zh (PQ (.int i))))) (ZS zh UW zh)) (λhh=>?_) (λhh=>?_)
    .have:i<1:=Qa hh
     refine Kk UW (ZK ?_);show _=Out.rt (.bool (decide (1<=i)&&_));rw[QZ (by lia)];rfl
    .exact KO (KI (ac (QW (by lia))))
   |_=>exact Kw (b:=zk) (WF (BM (Kg (UP (UM zh) UV) zh (PQ _)) zh)) (λ_=>Kk UW (ZK zh)) (λz=>by cases z)
 |dict kvs=>exact Kw (b:=zk) (WF (OM (UM zh))) (λ_=>Kk UW (ZK zh)) (λz=>by cases z)
 |_=>exact Kw (b:=zk) (WF (YU (UM zh) zh)) (λ_=>Kk UW (ZK zh)) (λz=>by cases z)
def M4(g:Good cs ls)(ga:Ym cs.length ls.length old ts){q:Int×Int}(hq:q∈U7 0 ls):0<=Kj ls o old ts q.1 q.2/\Kj ls o old ts q.1 q.2<2199023255552:=by
 obtain⟨i,rs,h1,h2,h3⟩:=TB hq;have l7:=g.l7;have l1:=g.l1;have hL:lng ls<=5:=NF l1 λrs h=>(g.rk rs h).few;have am:=LZ (Qq h1);have hr1:1<=Zr q.2 rs:=by have:=M6 h3;lia
 have zX:Zr q.2 rs<=lng ls:=by have:=MT q.2 rs;lia
 have htl:=ga.few
 have e:Kj ls o old ts q.1 q.2=Zu ls o old ts i rs q.2:=by
  unfold Kj;rw[h2,QU,QY]
  congr 1
  simp[List.getD,h1]
 rw[e];unfold Zu;have pw:∀{b:Int}{n k:Nat},1<=b->b<=8->n<=k->1<=b ^ n/\b ^ n<=8 ^ k:=λ{b n k} h0 h8 hk=>⟨Int.pow_pos h0,F8 (by lia) h8 hk⟩
 have hb1:(1:Int)<=(ls.length:Int)+1:=by lia
 have bS:(ls.length:Int)+1<=8:=by lia
 have hM1:(1:Int)<=(lng ls:Int)+1:=by lia
 have hM8:(lng ls:Int)+1<=8:=by lia
 have a1:=pw hb1 bS (n:=lng ls) (k:=5) hL;have a2:=pw hb1 bS (n:=((lng ls:Int)-(Zr q.2 rs:Nat)).toNat) (k:=5) (by lia);have a3:=pw hb1 bS (n:=((Zr q.2 rs:Nat)-1:Int).toNat) (k:=5) (by lia)
 have a4:((ls.length:Int)+1) ^ ((Zr q.2 rs:Nat)-1:Int).toNat<=((ls.length:Int)+1) ^ lng ls:=by
  have:((Zr q.2 rs:Nat)-1:Int).toNat<=lng ls:=by lia
  obtain⟨k,hk⟩:=Nat.exists_eq_add_of_le this;rw[hk,Int.pow_add];have:=(pw hb1 bS (n:=k) (k:=5) (by lia)).1;have hm:=Int.mul_le_mul_of_nonneg_left this (show 0<=((ls.length:Int)+1) ^ ((Zr q.2 rs:Nat)-1:Int).toNat by lia);rw[Int.mul_one]at hm;exact hm
 have b1:0<=ZV o (ls.length+1) (lng ls) (Zr q.2 rs)/\ZV o (ls.length+1) (lng ls) (Zr q.2 rs)<=65536:=by
  cases o with
  |firsts=>show 0<=_ ^ _/\_ ^ _<=65536;lia
  |full=>show 0<=_ ^ ((lng ls:Int)).toNat+_ ^ _/\_ ^ ((lng ls:Int)).toNat+_ ^ _<=65536;rw[QY];lia
  |lasts=>show 0<=_ ^ ((lng ls:Int)).toNat-_ ^ _/\_ ^ ((lng ls:Int)).toNat-_ ^ _<=65536;rw[QY];lia
 have b2:0<=Xv old i q.2/\Xv old i q.2<=1:=by
  unfold Xv;split
  .lia
  .split<;>lia
 have b3:=pw hM1 hM8 (n:=ts.length) (k:=7) (by lia)
 have b4:0<=X2 ts ((lng ls:Int)+1) i (Zr q.2 rs)/\X2 ts ((lng ls:Int)+1) i (Zr q.2 rs)<=8*8 ^ 7:=by
  unfold X2;split
  .have b5:=pw hM1 hM8 (n:=ts.length-1-ts.idxOf (i:Int)) (k:=7) (by lia)
   refine⟨Int.mul_nonneg (by lia) (by lia),?_⟩;exact Int.mul_le_mul (by lia) b5.2 (by lia) (by decide)
  .exact⟨by lia,by decide⟩
 have c1:0<=ZV o (ls.length+1) (lng ls) (Zr q.2 rs)*(ls.length+1)+Xv old i q.2/\ZV o (ls.length+1) (lng ls) (Zr q.2 rs)*(ls.length+1)+Xv old i q.2<=600000:=by
  have d1:0<=ZV o (ls.length+1) (lng ls) (Zr q.2 rs)*((ls.length:Int)+1):=Int.mul_nonneg b1.1 (by lia);have d2   :=Int.mul_le_mul b1.2 bS (by lia) (by decide)
  lia
 have d3:0<=(ZV o (ls.length+1) (lng ls) (Zr q.2 rs)*(ls.length+1)+Xv old i q.2)*((lng ls:Int)+1) ^ ts.length:=Int.mul_nonneg c1.1 (by lia);have d4   :=Int.mul_le_mul c1.2 b3.2 (by lia) (by decide)
 lia
def OU(g:Good cs ls)(ga:Ym cs.length ls.length old ts){q:Int×Int}(hq:q∈U7 0 ls):0<=Kj ls o old ts q.1 q.2/\Kj ls o old ts q.1 q.2<18446744073709551616:=
 let ⟨a,b⟩:=M4 (o:=o) g ga hq;⟨a,Int.lt_trans b (by decide)⟩
def js(g:Good cs ls)(ga:Ym cs.length ls.length old ts){d:D}(hs:ShP d):W1 [Kq cs ls,KF o old ts,d]=zd (.bool (Xn cs.length ls.length (Kj ls o old ts) (U7 0 ls) d)):=by
 refine KY  rfl ?_;unfold SV;refine Kf (Kt (Kg (UP (UM zh) (UP (UM zh) UV)) zh (Lj g ga)) (Qa zh) zh) ?_;apply KL;refine Kw (b:=!YB cs.length ls.length d) (Yl (Yh (Kg (UP (UM zh) (UP (UM zh) UV)) zh (jt hs)))) (λhh=>?_) (λhh=>?_)
 .have e:YB cs.length ls.length d=zm:=by simpa using hh
  refine Kk UW (ZK ?_);unfold Xn;rw[e];rfl
 .have e:YB cs.length ls.length d=zk:=by simpa using hh
  obtain⟨tm,as,ps,rfl,h1,⟨h2,h2'⟩,h3,h3'⟩:=Fo e;refine KO (KI ?_);refine Kf (YW (UM zh) (Km zh (UZ (UT (Qa zh) zh) (UZ (UT (Qa zh) zh) (UZ (UT (Qa zh) zh) Kn))))) ?_
  let S0:Option Sl:=zd (.pub (Kq cs ls))
  let S1:Option Sl:=zd (.pub (KF o old ts))
  let S2:Option Sl:=zd (.pub (KM tm as ps))
  let S3:Option Sl:=zd (.pub (.list ((U7 0 ls).map (ZF (Kj ls o old ts)))))
  let S4:Option Sl:=zd (.pub (.int tm))
  let S5:Option Sl:=zd (.pub (.list (as.map int)))
  let S6:Option Sl:=zd (.pub (.list (ps.map int)))
  let tq:Int×Int->Bool:=λq=>decide (tm*Kj ls o old ts q.1 q.2<=as.getD q.1.toNat 0+ps.getD q.2.toNat 0)
  have h42:=Mn g
  have hc:K6 (gT 3 (gNC (gN 7) (gNC (gN 8) (gNC (gN 9) (gN0))))) (UR zk) (U0 Uz (UQ (oIB λi j=>decide (j<=i)) (UQ U1 (UY 5 (UL 7)) (UY 6 (UL 8))) (UQ Ks (UL 4) (UL 9)))) ((U7 0 ls).map (ZF (Kj ls o old ts))) (KD [S0,S1,S2,S3,S4,S5,S6]++Ux 3 zj) []=zd (((U7 0 ls).map tq).map Uz):=by
   refine(XG (λρ=>∃x y z,ρ=[S0,S1,S2,S3,S4,S5,S6,x,y,z]) _ (((U7 0 ls).map tq).map Uz) _ _ (by rw[Qb,Qb,Qb]) ?_ ⟨zj,zj,zj,rfl⟩ (by rw[Qb,Qt];lia)).trans (by rw[Qy]);rintro j d e hd he ρ ⟨x,y,z,rfl⟩;rw[Qd]at hd he;rw[Qd]at he;cases hz:(U7 0 ls)[j]? with
   |none=>rw[hz]at hd;cases hd
   |some q=>rw[hz]at hd he;cases hd;cases he;have hq:=Qq hz;have hin:=HR g q hq;have hb:=OU (o:=o) g ga hq;exact⟨_,Km zh (UZ (UT (Qa zh) zh) (UZ (UT (Qa zh) zh) (UZ (UT (Qa zh) zh) Kn))),rfl,Kx (U2 (U2 (Kr zh (UM zh) (Vf hin.1.1 (by lia))) (Kr zh (UM zh) (Vf hin.2.1 (by lia))) KW) (U2 (UM zh) (UM zh) (XE (by lia) (by lia))) zh),_,_,_,rfl⟩
  refine Kk (Zf (UP (Kx (Zl (K7 (UM zh) Zh) hc)) UV) TD) ?_;unfold Xn;rw[e,Bool.true_and];rw[Ua]
  congr 3
  funext q;rw[MS,MS];rfl
end
def Fn(ns:zo):(ns.map int).all YO=ns.all λi=>decide (0<=i):=by rw[Ua];rfl
structure OkP(n m:Nat)(V:Int->Int->Int)(qs:LP)(tm:Int)(as ps:zo):Prop where
 t0:0<=tm
 la:as.length=m
 lp:ps.length=n
 aa:∀a∈as,0<=a
 pp:∀p∈ps,0<=p
 le:∀q∈qs,tm*V q.1 q.2<=as.getD q.1.toNat 0+ps.getD q.2.toNat 0
def HP  {V}{qs}{tm}{as ps}:Xn n m V qs (KM tm as ps)=zk ↔ 1<=tm/\OkP n m V qs tm as ps:=by
 have e:Xn n m V qs (KM tm as ps)=((decide _&&((decide _&&(as.map int).all YO)&&(decide _&&(ps.map int).all YO)))&&qs.all λq=>decide _):=rfl;rw[e,Fn,Fn,Qb,Qb];simp only[QM,Jg,Q2,MS];constructor
 .rintro⟨⟨h1,⟨h2,h3⟩,h4,h5⟩,h6⟩
  exact⟨h1,⟨by lia,h2,h4,h3,h5,h6⟩⟩
 .rintro⟨h1,h⟩
  exact⟨⟨h1,⟨h.la,h.aa⟩,h.lp,h.pp⟩,h.le⟩
noncomputable def pz(ps:zo)(ws:LO):Int:=(ws.map λo=>match o with|some t=>ps.getD t.toNat 0|none=>0).sum
noncomputable def Zn(n:Nat)(f:Nat->Int):Int:=((Uw n).map f).sum
def Vt   : Zn (n+1) f=Zn n f+f n:=by unfold Zn;rw[List.range_succ];simp
theorem Fm  : ∀(n),Zn n (λk=>f k+h k)=Zn n f+Zn n h
 |0=>rfl
 |n+1=>by rw[Vt,Vt,Vt,Fm n];lia
theorem PJ  : ∀(n),(∀k,k<n->f k<=h k)->Zn n f<=Zn n h
 |0,_=>Jb _
 |n+1,e=>by
  have h1:=PJ n λk hk=>e k (by lia)
  have h2:=e n (by lia);rw[Vt,Vt]
  lia
theorem MR:∀(n)(f),(∀k,k<n->f k=0)->Zn n f=0
 |0,_,_=>rfl
 |n+1,f,e=>by rw[Vt,MR n f λk hk=>e k (by lia),e n (by lia)];rfl
theorem Fl{p:Nat->Int}{j}:∀(n),j<n->Zn n (λk=>if k=j then p k else 0)=p j
 |n+1,h=>by
  rw[Vt];by_cases e:n=j
  .subst e
   rw[Qu zh,MR n _ λk hk=>QH (by lia)]
   lia
  .rw[QH e,Fl n (by lia)]
   lia
def M0  {n}(e:∀k,k<n->f k=h k):Zn n f=Zn n h:=Int.le_antisymm (PJ n λk hk=>by rw[e k hk];exact Int.le_refl _) (PJ n λk hk=>by simp_all)
theorem MQ  {n:Nat}:∀(ws:LO),(∀t,zd t∈ws->0<=t/\t<n)->pz ps ws=Zn n λk=>((ws.count (zd (k:Int)):Nat):Int)*ps.getD k 0
 |[],_=>by rw[MR n _ λk _=>by simp];rfl
 |o::ws,h=>by
  have ih:=MQ (ps:=ps) ws λt ht=>h t (Qj _ ht)
  cases o with
  |none=>
   show((0:Int)::_).sum=_
   rw[List.sum_cons];unfold pz at ih;rw[ih,Jv];exact M0 λk _=>by simp
  |some t=>
   have ht:=h t Ql
   show(ps.getD t.toNat 0::_).sum=_
   rw[List.sum_cons];unfold pz at ih;rw[ih,←Fl (p:=λk=>ps.getD k 0) (j:=t.toNat) n (by lia),←Fm];refine M0 λk _=>?_;rw[Uf]
   by_cases e:k=t.toNat
   .subst e
    have:(zd t==zd ((t.toNat:Nat):Int))=zk:=by simp;lia
    rw[Qu zh,Qu this,Int.natCast_add,Int.add_mul]
    lia
   .have:¬(zd t==zd ((k:Nat):Int))=zk:=by simp;lia
    rw[QH e,QH this,Jv,Nat.add_zero]
def EE:∀(ps cs),ps.length=cs.length->(Pf ps cs).sum=Zn cs.length λk=>cs.getD k 0*ps.getD k 0
 |ps,cs,h=>by
  unfold Zn Pf
  congr 1
  apply J8;intro i;rw[Qd,Qd];by_cases hi:i<cs.length
  .rw[QR hi]
   have h1:ps[i]?=zd ps[i]:=Qe (by lia);have h2   :=Qe hi;have hz:_[i]?=zd (ps[i],cs[i]):=List.getElem?_zip_eq_some.mpr ⟨h1,h2⟩;rw[hz];simp only[Option.map_some,Qm,h1,h2,Option.getD_some,Int.mul_comm]
  .rw[JD  (by rw[JP];lia),JD  (by rw[Qs];lia)]
   rfl
structure Stp where
 a:Nat
 b:Nat
 g:Int
 w:Option Nat
abbrev Tab:=List (Int×List Stp)
noncomputable def ent(T:Tab)(p:Nat):Int×List Stp:=T.getD p (0,[])
def Xb(W T:Tab)(s:Stp):Tab:=if(ent T s.b).1<(ent W s.a).1+s.g then T.set s.b ((ent W s.a).1+s.g,(ent W s.a).2++[s])else T
def Ov(W:Tab)(S:List Stp):Tab:=S.foldl (Xb W) W
def Ze(n:Nat)(S:List Stp):Nat->Tab
 |0=>Ux n (0,[])
 |t+1=>Ov (Ze n S t) S
def yw{T:Tab}{p}{x}(h:p<T.length):ent (T.set p x) p=x:=by unfold ent;rw[Qm,QQ h];rfl
def MZ  {p q}{x}(h:p≠q):ent (T.set p x) q=ent T q:=by unfold ent;simp_all
def xx(W T)(s):(Xb W T s).length=T.length:=by
 unfold Xb;split
 .simp_all
 .rfl
structure RD(W T:Tab)(S:List Stp):Prop where
 len:T.length=W.length
 up:∀p,(ent W p).1<=(ent T p).1
 how:∀p,ent T p=ent W p ∨ ∃s∈S,s.b=p/\ent T p=((ent W s.a).1+s.g,(ent W s.a).2++[s])/\(ent W p).1<(ent T p).1
def yv{W T:Tab}{S:List Stp}{s:Stp}(hs:s∈S)(hb:s.b<W.length)(k:RD W T S):RD W (Xb W T s) S/\(∀p,(ent T p).1<=(ent (Xb W T s) p).1)/\(ent W s.a).1+s.g<=(ent (Xb W T s) s.b).1:=by
 have hbT:s.b<T.length:=by rw[k.len];exact hb
 unfold Xb;split
 .have self:=yw (x:=((ent W s.a).1+s.g,(ent W s.a).2++[s])) hbT
  refine⟨⟨by rw[Jc];exact k.len,λp=>?_,λp=>?_⟩,λp=>?_,by rw[self];exact Jb _⟩
  .by_cases z:s.b=p
   .subst z;rw[self];have:=k.up s.b;show _<=(ent W s.a).1+s.g;lia
   .rw[MZ z];exact k.up p
  .by_cases z:s.b=p
   .subst z;right;exact⟨s,hs,rfl,self,by rw[self];have:=k.up s.b;show _<(ent W s.a).1+s.g;lia⟩
   .rw[MZ z];exact k.how p
  .by_cases z:s.b=p
   .subst z;rw[self];show _<=(ent W s.a).1+s.g;lia
   .rw[MZ z];exact Jb _
 .exact⟨k,λp=>Jb _,by lia⟩
theorem EB  {S}(hS:∀s∈S,s.b<W.length):∀(R:List Stp)(T),(∀s∈R,s∈S)->RD W T S->RD W (R.foldl (Xb W) T) S/\(∀p,(ent T p).1<=(ent (R.foldl (Xb W) T) p).1)/\∀s∈R,(ent W s.a).1+s.g<=(ent (R.foldl (Xb W) T) s.b).1
 |[],T,_,k=>⟨k,λ_=>Jb _,λs h=>by cases h⟩
 |s::R,T,hR,k=>by
  obtain⟨k1,u1,c1⟩:=yv (hR s Ql) (hS s (hR s Ql)) k;obtain⟨k2,u2,c2⟩:=EB hS R _ (λx hx=>hR x (Qj _ hx)) k1;refine⟨k2,λp=>JT (u1 p) (u2 p),λx hx=>?_⟩;rcases QB.mp hx with rfl|hx
  .exact JT c1 (u2 x.b)
  .exact c2 x hx
def Di  {S}(hS:∀s∈S,s.b<W.length):RD W (Ov W S) S/\∀s∈S,(ent W s.a).1+s.g<=(ent (Ov W S) s.b).1:=by obtain⟨k,_,c⟩:=EB hS S W (λ_ h=>h) ⟨rfl,λ_=>Jb _,λ_=>.inl zh⟩;exact⟨k,c⟩
section
variable{n:Nat}{S:List Stp}(hS:∀s∈S,s.a<n/\s.b<n)
include hS
theorem R1:∀t,(Ze n S t).length=n
 |0=>by unfold Ze;rw[QF]
 |t+1=>by unfold Ze;rw[(Di (λs h=>by rw[R1 t];simp_all)).1.len,R1 t]
theorem Sd(t):RD (Ze n S t) (Ze n S (t+1)) S/\∀s∈S,(ent (Ze n S t) s.a).1+s.g<=(ent (Ze n S (t+1)) s.b).1:=
 Di (λs h=>by rw[R1 hS t];simp_all)
theorem P3(p):ent (Ze n S 0) p=(0,[]):=by
 unfold ent Ze;rw[Qm,Qz]
 split<;>rfl
theorem O3:∀t,(∀p,(ent (Ze n S t) p).2.length<=t)/\(∀p,0<t->ent (Ze n S t) p≠ent (Ze n S (t-1)) p->(ent (Ze n S t) p).2.length=t)
 |0=>⟨λp=>by rw[P3 hS];exact Qp _,λp h=>absurd h (Jo _)⟩
 |t+1=>by
  obtain⟨h1,h2⟩:=O3 t;obtain⟨k,c⟩:=Sd hS t
  have key:∀p,ent _ p≠ent (Ze n S t) p->(ent _ p).2.length=t+1:=λp hne=>by
   rcases k.how p with e|⟨s,hs,hb,e,lt⟩
   .exact absurd e hne
   .rw[e,Qi]
    congr 1
    cases t with
    |zero=>rw[P3 hS];rfl
    |succ t=>
     refine h2 s.a (Jk t) λz=>?_
     obtain⟨k0,c0⟩:=Sd hS t;have:=c0 s hs;rw[Nat.add_sub_cancel]at z;rw[e,z,←hb]at lt;exact absurd lt (by lia)
  refine⟨λp=>?_,λp _ hne=>key p (by exact hne)⟩;by_cases z:ent (Ze n S (t+1)) p=ent (Ze n S t) p
  .rw[z];exact Nat.le_succ_of_le (h1 p)
  .rw[key p z];exact Qp _
end
inductive Walk(S:List Stp):Nat->List Stp->Prop where
 |nil (p:Nat):Walk S p []
 |snoc {w:List Stp} {s:Stp} (hs:s∈S) (h:Walk S s.a w):Walk S s.b (w++[s])
noncomputable def KE(w:List Stp):Int:=(w.map Stp.g).sum
def MI:KE []=0:=rfl
def Vr(u v):KE (u++v)=KE u+KE v:=by unfold KE;simp_all
def RW(s:Stp):KE [s]=s.g:=by unfold KE;simp
section
variable{n:Nat}{S:List Stp}(hS:∀s∈S,s.a<n/\s.b<n)
include hS
theorem PP:∀t p,Walk S p (ent (Ze n S t) p).2/\KE (ent (Ze n S t) p).2=(ent (Ze n S t) p).1
 |0,p=>by rw[P3 hS];exact⟨.nil p,rfl⟩
 |t+1,p=>by
  rcases(Sd hS t).1.how p with e|⟨s,hs,hb,e,_⟩
  .rw[e];exact PP t p
  .obtain⟨h1,h2⟩:=PP t s.a
   rw[e,←hb];exact⟨.snoc hs h1,by rw[Vr,RW,h2]⟩
theorem F4  (h:t<=u)(p):(ent (Ze n S t) p).1<=(ent (Ze n S u) p).1:=by
 induction h with
 |refl=>exact Jb _
 |step _ ih=>exact JT ih ((Sd hS _).1.up p)
theorem xw   (h:Walk S p w):∀(t),w.length<=t->KE w<=(ent (Ze n S t) p).1:=by
 induction h with
 |nil p=>intro t _;have:=F4 hS (JS t) p;rw[P3 hS]at this;exact this
 |@snoc w s hs h ih=>
  intro t hl;rw[Qi,QX]at hl;obtain⟨u,rfl⟩:∃u,t=u+1:=⟨t-1,by lia⟩
  have:=ih u (by lia);have:=(Sd hS u).2 s hs;rw[Vr,RW]
  lia
theorem wD  (h0:0<t)(h:∀p,p<n->(ent (Ze n S t) p).2.length≠t):∀s∈S,(ent (Ze n S t) s.a).1+s.g<=(ent (Ze n S t) s.b).1:=λs hs=>by
 obtain⟨u,rfl⟩:∃u,t=u+1:=⟨t-1,by lia⟩
 have e   :=Classical.byContradiction λz=>h s.a (hS s hs).1 ((O3 hS _).2 s.a h0 z);rw[e]
 exact(Sd hS u).2 s hs
end
inductive Path(S:List Stp):Nat->List Stp->Nat->Prop where
 |nil (p:Nat):Path S p [] p
 |cons {s:Stp} {w:List Stp} {p:Nat} (hs:s∈S) (h:Path S s.b w p):Path S s.a (s::w) p
section
variable{S:List Stp}
noncomputable def Path.append  {u v}(h1:Path S q u m)(h2:Path S m v p):Path S q (u++v) p:=by
 induction h1 with
 |nil p=>simp_all
 |cons hs h ih=>exact .cons hs (ih h2)
noncomputable def Path.split  {v}:∀{u}{q},Path S q (u++v) p->∃m,Path S q u m/\Path S m v p
 |[],q,h=>⟨q,.nil q,h⟩
 |s::u,q,h=>by
  cases h with
  |cons hs h=>obtain⟨m,h1,h2⟩:=Path.split  h;exact⟨m,.cons hs h1,h2⟩
noncomputable def Path.mem  {w}(h:Path S q w p):∀s∈w,s∈S:=by
 induction h with
 |nil p=>simp_all
 |cons hs h ih=>simp_all
def Walk.path   (h:Walk S p w):∃q,Path S q w p:=by
 induction h with
 |nil p=>exact⟨p,.nil p⟩
 |snoc hs h ih=>obtain⟨q,hq⟩:=ih;exact⟨q,hq.append (.cons hs (.nil _))⟩
def Path.walk  : ∀{w}{q},Path S q w p->∀{u},Walk S q u->Walk S p (u++w)
 |[],q,h,u,hu=>by cases h;simp_all
 |s::w,q,h,u,hu=>by
  cases h with
  |cons hs h=>have:=Path.walk h (Walk.snoc hs hu);simp_all
noncomputable def Path.head{q p:Nat}{s:Stp}{w:List Stp}(h:Path S q (s::w) p):q=s.a:=by cases h;rfl
noncomputable def Path.step  {s}{w}(h:Path S q (s::w) p):s∈S/\Path S s.b w p:=by cases h with|cons hs h=>exact⟨hs,h⟩
theorem Path.at  {w}(h:Path S q w p){i}{s}(hi:w[i]?=zd s):Path S q (w.take i) s.a/\Path S q (w.take (i+1)) s.b/\Path S s.b (w.drop (i+1)) p:=by
 have hl   :=(Qg.mp hi).1
 have e:w.drop i=s::w.drop (i+1):=by
  rw[Jr hl]
  congr 1
  exact(Qg.mp hi).2
 have h':Path S q (w.take i++w.drop i) p:=by rw[J6];exact h
 obtain⟨m,h1,h2⟩:=h'.split;rw[e]at h2;have hm:=h2.head;subst hm;obtain⟨hs,h3⟩:=h2.step;refine⟨h1,?_,h3⟩;rw[JN,hi];exact h1.append (.cons hs (.nil _))
def Path.next  {w}(h:Path S q w p){i}{s t}(hi:w[i]?=zd s)(hj:w[i+1]?=zd t):t.a=s.b:=by obtain⟨_,_,h3⟩:=h.at hi;have hl   :=(Qg.mp hj).1;rw[Jr hl]at h3;rw[←(Qg.mp hj).2];exact h3.head.symm
structure Mm(w:List Stp)(i j:Nat):Prop where
 ij:i<=j
 jl:j<w.length
 same:∀s t,w[i]?=zd s->w[j]?=zd t->s.a=t.b
 first:∀j'<j,∀i' ≤ j',∀s t,w[i']?=zd s->w[j']?=zd t->s.a≠t.b
def HN(w:List Stp):Prop:=∀j<w.length,∀i ≤ j,∀s t,w[i]?=zd s->w[j]?=zd t->s.a≠t.b
def Fk{n:Nat}(hS:∀s∈S,s.a<n/\s.b<n){q p:Nat}{w:List Stp}(h:Path S q w p)(hl:n<=w.length)(h0:0<n):¬HN w:=λhn=>by
 obtain⟨s0,w0,rfl⟩:∃s0 w0,w=s0::w0:=by
  cases w with
  |nil=>rw[Qt]at hl;lia
  |cons a b=>exact⟨a,b,rfl⟩
 let P:List Nat:=s0.a::(s0::w0).map Stp.b
 have key:∀k l:Nat,k<l->∀x y:Nat,P[k]?=zd x->P[l]?=zd y->x≠y:=λk l zK x y hx hy=>by
  obtain⟨l,rfl⟩:∃m,l=m+1:=⟨l-1,by lia⟩
  have hy:((s0::w0).map Stp.b)[l]?=zd y:=hy;rw[Qd]at hy;cases ht:(s0::w0)[l]? with
  |none=>rw[ht]at hy;cases hy
  |some t=>
  rw[ht]at hy;cases hy;have zJ   :=(Qg.mp ht).1;obtain⟨s,hs⟩:∃s,(s0::w0)[k]?=zd s:=⟨_,Qe (by lia)⟩
  have hxs:x=s.a:=by
   cases k with
   |zero=>cases hs;cases hx;rfl
   |succ k=>
    have hx:((s0::w0).map Stp.b)[k]?=zd x:=hx;rw[Qd]at hx;obtain⟨r,hr⟩:∃r,(s0::w0)[k]?=zd r:=⟨_,Qe (by lia)⟩
    rw[hr]at hx;cases hx;exact(h.next hr hs).symm
  rw[hxs];exact hn l zJ k (by lia) s t hs ht
 have nd:P.Nodup:=by rw[List.nodup_iff_pairwise_ne,List.pairwise_iff_getElem];intro k l hk hl2 zK;exact key k l zK _ _ (Qe hk) (Qe hl2)
 have bound:∀x∈P,x<n:=λx hx=>by
  rcases QB.mp hx with rfl|hx
  .exact(hS s0 h.step.1).1
  .obtain⟨s,hs,rfl⟩:=Qo.mp hx
   exact(hS s (h.mem s hs)).2
 have le:P.length<=n:=by
  have:=List.Nodup.length_le_of_subset nd (l₂:=Uw n) λx hx=>QN.mpr (bound x hx)
  rwa[Qs]at this
 have:P.length=(s0::w0).length+1:=by show((s0::w0).map Stp.b).length+1=_;rw[Qb]
 lia
def wC{n:Nat}(hS:∀s∈S,s.a<n/\s.b<n)(h0:0<n){p:Nat}(hw:(ent (Ze n S n) p).2.length=n){i j:Nat}(r:Mm (ent (Ze n S n) p).2 i j) :
  ∃x,Path S x (((ent (Ze n S n) p).2.take (j+1)).drop i) x/\0<KE (((ent (Ze n S n) p).2.take (j+1)).drop i):=by
 obtain⟨br,hg⟩:=PP hS n p;generalize hW:(ent (Ze n S n) p).2=w at hw r br hg⊢;obtain⟨q,hp⟩:=br.path;have hij:=r.ij;have zL:=r.jl;obtain⟨s,hs⟩:∃s,w[i]?=zd s:=⟨_,Qe (by lia)⟩
 obtain⟨t,ht⟩:∃t,w[j]?=zd t:=⟨_,Qe zL⟩
 have hst:=r.same s t hs ht;obtain⟨a1,a2,a3⟩:=hp.at hs;obtain⟨b1,b2,b3⟩:=hp.at ht;have e1   :=by have:=(J6 i (w.take (j+1))).symm;rw[List.take_take,Nat.min_eq_left (by lia)]at this;exact this
 rw[e1]at b2;obtain⟨m,c1,c2⟩:=b2.split
 have hm:m=s.a:=by
  have e2:(w.take (j+1)).drop i=s::(w.take (j+1)).drop (i+1):=by
   rw[Jr (by rw[QT];lia)]
   congr 1
   rw[List.getElem_take];exact(Qg.mp hs).2
  rw[e2]at c2;exact c2.head
 subst hm;rw[←hst]at c2 b3;refine⟨s.a,c2,?_⟩;have hsh   :=a1.append b3;have bv:=hsh.walk (u:=[]) (.nil q);rw[Qy]at bv;have hlen:(w.take i++w.drop (j+1)).length<=n-1:=by rw[Qi,QT,Ji];lia
 have most:=xw hS bv (n-1) hlen;have hgw:KE w=KE (w.take i)+KE ((w.take (j+1)).drop i)+KE (w.drop (j+1)):=by rw[←Vr,←e1,←Vr,J6]
 rw[Vr]at most
 have lt:(ent (Ze n S (n-1)) p).1<(ent (Ze n S n) p).1:=by
  obtain⟨k,_⟩:=Sd hS (n-1);rw[Nat.sub_add_cancel h0]at k;rcases k.how p with e|⟨_,_,_,_,lt⟩
  .have:=(O3 hS (n-1)).1 p
   rw[←e,hW,hw]at this
   lia
  .exact lt
 lia
def wW  {w}(h:Path S q w p){i j:Nat}(r:Mm w i j):(((w.take (j+1)).drop i).map Stp.a).Nodup:=by
 rw[List.nodup_iff_pairwise_ne,List.pairwise_iff_getElem];intro k l hk hl zK;have zL:=r.jl;simp only[Qb,Ji,QT]at hk hl;simp only[JZ,List.getElem_drop,List.getElem_take];obtain⟨m,rfl⟩:∃m,l=m+1:=⟨l-1,by lia⟩
 have e1:w[i+m]?=zd w[i+m]:=Qe (by lia);have e2:w[i+m+1]?=zd w[i+(m+1)]:=Qe (by lia);have e3:w[i+k]?=zd w[i+k]:=Qe (by lia);rw[h.next e1 e2];exact r.first (i+m) (by lia) (i+k) (by lia) _ _ e3 e1
end
noncomputable def Ko(f:Int×Int->Int)(i:Nat):zx->Int
 |none=>0
 |some t=>f ((i:Int),t)
noncomputable def plF(n:Nat):zx->Nat
 |none=>n
 |some t=>t.toNat
noncomputable def ZN(n b:Nat):zx:=if b=n then zj else zd (b:Int)
def Kc(f:Int×Int->Int)(k:Nat):LO->Int
 |[]=>0
 |o::r=>Ko f k o+Kc f (k+1) r
theorem Fj(f){o'}:∀{d}{k i}{o},d[i]?=zd o->Kc f k (d.set i o')=Kc f k d+Ko f (k+i) o'-Ko f (k+i) o
 |[],_,_,_,h=>by cases h
 |x::d,k,0,o,h=>by
  cases h;show Ko f k o'+Kc f _ d=Ko f k x+Kc f _ d+Ko f k o'-Ko f k x
  lia
 |x::d,k,i+1,o,h=>by
  rw[List.set_cons_succ];unfold Kc;rw[Fj f     (by simpa using h)]
  lia
theorem F3  : ∀{d:LO}{i}{o},d[i]?=zd o->(((d.set i o').count x:Nat):Int)=(d.count x:Nat)+(if o'=x then 1 else 0)-(if o=x then 1 else 0)
 |[],_,_,h=>by cases h
 |y::d,0,o,h=>by cases h;by_cases h1:o'=x<;>by_cases h2:y=x<;>simp[h1,h2]<;>lia
 |y::d,i+1,o,h=>by
  have ih:=F3 (o':=o') (x:=x)    (by simpa using h);rw[List.set_cons_succ,Uf,Uf]
  lia
structure ZA(cs:zo)(qs:LP)(m:Nat)(ws:LO):Prop where
 len:ws.length=m
 wish:∀(i:Nat) t,ws[i]?=zd (zd t)->((i:Int),t)∈qs
 cop:∀(k:Nat) c,cs[k]?=zd c->((ws.count (zd (k:Int)):Nat):Int)<=c
structure ZD(n m:Nat)(qs:LP):Prop where
 nd:qs.Nodup
 lo:∀q∈qs,0<=q.1/\q.1<m/\0<=q.2/\q.2<n
inductive IsSt(cs:zo)(f:Int×Int->Int)(qs:LP)(ws:LO):Stp->Prop where
 |mv {i:Nat} {o o':zx} (h:ws[i]?=zd o) (hne:o'≠o) (hq:∀t,o'=zd t->((i:Int),t)∈qs):IsSt cs f qs ws ⟨plF cs.length o,plF cs.length o',Ko f i o'-Ko f i o,zd i⟩
 |left {t:Nat} {c:Int} (h:cs[t]?=zd c) (hl:((ws.count (zd (t:Int)):Nat):Int)<c):IsSt cs f qs ws ⟨t,cs.length,0,zj⟩
 |give {t:Nat} (h:t<cs.length):IsSt cs f qs ws ⟨cs.length,t,0,zj⟩
def app(n:Nat)(d:LO)(s:Stp):LO:=match s.w with
 |some i=>d.set i (ZN n s.b)
 |none=>d
noncomputable def nIn(t:Nat)(R:List Stp):Nat:=(R.filter λs=>s.w.isSome&&s.b==t).length
noncomputable def XH(t:Nat)(R:List Stp):Nat:=(R.filter λs=>s.w.isSome&&s.a==t).length
section
variable{cs:zo}{f:Int×Int->Int}{qs:LP}{m:Nat}{ws:LO}
def Dq(hp:ZD cs.length m qs){i:Nat}{o}(h:∀t,o=zd t->((i:Int),t)∈qs):ZN cs.length (plF cs.length o)=o:=by
 cases o with
 |none=>unfold ZN plF;simp_all
 |some t=>
  have:=hp.lo _ (h t zh)
  show(if t.toNat=cs.length then zj else zd ((t.toNat):Int))=zd t
  grind
def Ou(hp:ZD cs.length m qs){i:Nat}{o}{t}(ht:t<cs.length)(h:∀t,o=zd t->((i:Int),t)∈qs):plF cs.length o=t ↔ o=zd (t:Int):=by
 cases o with
 |none=>exact⟨λe=>by have e:cs.length=t:=e;lia,λe=>by cases e⟩
 |some u=>
  have:=hp.lo _ (h u zh);show u.toNat=t ↔ _;constructor
  .grind
  .lia
theorem P1(hp:ZD cs.length m qs)(hd:ZA cs qs m ws):∀(R:List Stp)(d:LO),(∀s∈R,IsSt cs f qs ws s)->(R.map Stp.a).Nodup->(∀s∈R,∀i,s.w=zd i->d[i]?=ws[i]?)->d.length=ws.length->(∀(i:Nat) t,d[i]?=zd (zd t)->((i:Int),t)∈qs) ->
  Kc f 0 (R.foldl (app cs.length) d)=Kc f 0 d+KE R/\(R.foldl (app cs.length) d).length=ws.length/\(∀(i:Nat) t,(R.foldl (app cs.length) d)[i]?=zd (zd t)->((i:Int),t)∈qs) /\
  ∀t,t<cs.length->(((R.foldl (app cs.length) d).count (zd (t:Int)):Nat):Int)=(d.count (zd (t:Int)):Nat)+(nIn t R:Nat)-(XH t R:Nat)
 |[],d,_,_,_,hl,hq=>⟨by show _=_+KE [];rw[MI];show Kc f 0 d=_;lia,hl,hq,λt _=>by show((d.count _:Nat):Int)=_+((0:Nat):Int)-((0:Nat):Int);lia⟩
 |s::R,d,hR,hn,ha,hl,hq=>by
  rw[QC,Ud]at hn;have hgc:KE (s::R)=s.g+KE R:=by show KE ([s]++R)=_;rw[Vr,RW]
  rw[Ju,hgc];cases hR s Ql with
  |@mv i o o' h hne zT=>
   have hdi:d[i]?=zd o:=(ha _ Ql i zh).trans h;have ho:∀t,o=zd t->((i:Int),t)∈qs:=λt e=>hd.wish i t (by rw[h,e])
   have zG:i<d.length:=(Qg.mp hdi).1;have eapp:app cs.length d ⟨plF cs.length o,plF cs.length o',Ko f i o'-Ko f i o,zd i⟩=d.set i o':=by show d.set i (ZN cs.length (plF cs.length o'))=_;rw[Dq hp zT]
   rw[eapp]
   obtain⟨k1,k2,k3,k4⟩:=P1 hp hd R (d.set i o') (λs hs=>hR s (Qj _ hs)) hn.2 (λs hs j hj=>by
    have hji:i≠j:=λz=>by
     subst z;cases hR s (Qj _ hs)with
     |@mv i2 o2 o2' h2 _ _=>cases hj;rw[h]at h2;cases h2;exact hn.1 (Qo.mpr ⟨_,hs,rfl⟩)
     |left _ _=>cases hj
     |give _=>cases hj
    rw[Qr hji];exact ha s (Qj _ hs) j hj) (by rw[Jc];exact hl) (λj t e=>by
    by_cases z:i=j
    .subst z
     rw[QQ zG]at e;cases e;exact zT t zh
    .rw[Qr z]at e;exact hq j t e)
   refine⟨?_,k2,k3,λt ht=>?_⟩
   .rw[k1,Fj f hdi,QU]
    lia
   .rw[k4 t ht,F3 hdi]
    have e1:(if o'=zd (t:Int)then(1:Int)else 0)=if plF cs.length o'=t then 1 else 0:=by
     by_cases z:o'=zd (t:Int)
     .rw[Qu z,Qu ((Ou hp ht zT).mpr z)]
     .rw[QH z,QH (λy=>z ((Ou hp ht zT).mp y))]
    have e2:(if o=zd (t:Int)then(1:Int)else 0)=if plF cs.length o=t then 1 else 0:=by
     by_cases z:o=zd (t:Int)
     .rw[Qu z,Qu ((Ou hp ht ho).mpr z)]
     .rw[QH z,QH (λy=>z ((Ou hp ht ho).mp y))]
    have e3:∀(x:Nat),((nIn t (⟨plF cs.length o,plF cs.length o',Ko f i o'-Ko f i o,zd i⟩::R):Nat):Int)=(if plF cs.length o'=t then 1 else 0)+(nIn t R:Nat):=λx=>by
     unfold nIn;rw[List.filter_cons];by_cases z:plF cs.length o'=t
     .rw[if_pos z,if_pos (by simp[z]),List.length_cons];lia
     .rw[if_neg z,if_neg (by simp[z])];lia
    have e4:∀(x:Nat),((XH t (⟨plF cs.length o,plF cs.length o',Ko f i o'-Ko f i o,zd i⟩::R):Nat):Int)=(if plF cs.length o=t then 1 else 0)+(XH t R:Nat):=λx=>by
     unfold XH;rw[List.filter_cons];by_cases z:plF cs.length o=t
     .rw[if_pos z,if_pos (by simp[z]),List.length_cons];lia
     .rw[if_neg z,if_neg (by simp[z])];lia
    rw[e1,e2,e3 0,e4 0]
    lia
  |left _ _=>obtain⟨k1,k2,k3,k4⟩:=P1 hp hd R d (λs hs=>hR s (Qj _ hs)) hn.2 (λs hs=>ha s (Qj _ hs)) hl hq;refine⟨?_,k2,k3,k4⟩;show Kc f 0 (R.foldl _ d)=Kc f 0 d+(0+KE R);rw[k1];lia
  |give _=>obtain⟨k1,k2,k3,k4⟩:=P1 hp hd R d (λs hs=>hR s (Qj _ hs)) hn.2 (λs hs=>ha s (Qj _ hs)) hl hq;refine⟨?_,k2,k3,k4⟩;show Kc f 0 (R.foldl _ d)=Kc f 0 d+(0+KE R);rw[k1];lia
theorem NG(t):∀R:List Stp,nIn t R<=(R.map Stp.b).count t
 |[]=>Qp _
 |s::R=>by
  have ih:=NG t R;unfold nIn at ih⊢
  grind
def Fi(hp:ZD cs.length m qs)(hd:ZA cs qs m ws){R:List Stp}(hR:∀s∈R,IsSt cs f qs ws s)(hn:(R.map Stp.a).Nodup)(hb:(R.map Stp.b).Perm (R.map Stp.a)):ZA cs qs m (R.foldl (app cs.length) ws)/\Kc f 0 (R.foldl (app cs.length) ws)=Kc f 0 ws+KE R:=by
 obtain⟨k1,k2,k3,k4⟩:=P1 hp hd R ws hR hn (λs hs i e=>rfl) zh hd.wish;refine⟨⟨by rw[k2];exact hd.len,k3,λt c hc=>?_⟩,k1⟩;have ht   :=(Qg.mp hc).1;rw[k4 t ht];have h0:=hd.cop t c hc;have h1   :=List.nodup_iff_count.mp hn t;have h2:=NG t R;rw[hb.count_eq]at h2;by_cases z:nIn t R=0
 .lia
 .have hmem:t∈R.map Stp.a:=List.count_pos_iff.mp (by lia)
  obtain⟨s,hs,hst⟩:=Qo.mp hmem;cases hR s hs with
  |@mv i o o' h hne zT=>
   have:1<=XH t R:=by exact List.length_pos_iff.mpr (List.ne_nil_of_mem (List.mem_filter.mpr ⟨hs,by simpa using hst⟩))
   lia
  |@left u c' h hl=>
   have hst:u=t:=hst;subst hst;rw[h]at hc;cases hc
   lia
  |@give u h=>
   lia
end
def HM   {w}(h:Path S q w p):w.map Stp.a++[p]=q::w.map Stp.b:=by
 induction h with
 |nil p=>rfl
 |cons hs h ih=>simp_all
def MY    (h:Path S x w x):(w.map Stp.b).Perm (w.map Stp.a):=by have e:=HM h;have p1:(w.map Stp.a++[x]).Perm _:=List.perm_append_comm;simp_all
noncomputable def Z0(f:Int×Int->Int)(V:Nat->Int)(qs:LP)(i:Int):Int:=qs.foldl (λa q=>if q.1=i then max a (f q-V q.2.toNat)else a) 0
theorem O2(f:Int×Int->Int)(V:Nat->Int)(i:Int):∀(qs:LP)(a),a<=qs.foldl (λa q=>if q.1=i then max a (f q-V q.2.toNat)else a) a /\
  (∀q∈qs,q.1=i->f q-V q.2.toNat<=qs.foldl (λa q=>if q.1=i then max a (f q-V q.2.toNat)else a) a) /\
  ∀B,a<=B->(∀q∈qs,q.1=i->f q-V q.2.toNat<=B)->qs.foldl (λa q=>if q.1=i then max a (f q-V q.2.toNat)else a) a<=B
 |[],a=>⟨Jb _,(λq h=>by cases h),λB h _=>h⟩
 |q::qs,a=>by
  rw[Ju];obtain⟨h1,h2,h3⟩:=O2 f V i qs _;have hb:a<=(if q.1=i then max a (f q-V q.2.toNat)else a):=by split<;>lia
  refine⟨JT hb h1,λp hp e=>?_,λB ha hB=>h3 B ?_ λp hp=>hB p (Qj _ hp)⟩
  .rcases QB.mp hp with rfl|hp
   .lia
   .exact h2 p hp e
  .have:=hB q Ql
   split
   .lia
   .exact ha
theorem F2   : ∀(ws)(k:Nat)(A),(∀(j:Nat) o,ws[j]?=zd o->A (k+j)=Ko f (k+j) o-(match o with|some t=>ps.getD t.toNat 0|none=>0))->((List.range' k ws.length).map A).sum=Kc f k ws-pz ps ws
 |[],k,A,_=>by show(0:Int)=0-0;lia
 |o::ws,k,A,h=>by
  rw[QL,List.range'_succ,QC,List.sum_cons,F2 ws (k+1) A λj o' e=>by have:=h (j+1) o' (by simpa using e);rw[show k+1+j=k+(j+1)by lia];exact this];have h0:=h 0 o zh;rw[Nat.add_zero]at h0;rw[h0];cases o with
  |none=>show Ko f k zj-0+_=Ko f k zj+Kc f (k+1) ws-(0+pz ps ws);lia
  |some t=>show Ko f k _-ps.getD t.toNat 0+_=Ko f k (zd t)+Kc f (k+1) ws-(ps.getD t.toNat 0+pz ps ws);lia
section
variable{cs:zo}{f:Int×Int->Int}{qs:LP}{m:Nat}{ws:LO}{S:List Stp}
def IsSt.lt(hp:ZD cs.length m qs)(hd:ZA cs qs m ws){s}(h:IsSt cs f qs ws s):s.a<cs.length+1/\s.b<cs.length+1:=by
 have key:∀{i:Nat}{o:zx},(∀t,o=zd t->((i:Int),t)∈qs)->plF cs.length o<cs.length+1:=λ{i o} h=>by
  cases o with
  |none=>exact JJ _
  |some t=>have:=hp.lo _ (h t zh);show t.toNat<_;lia
 cases h with
 |mv h hne hq=>exact⟨key λt e=>hd.wish _ t (by rw[h,e]),key hq⟩
 |left h hl=>have:=(Qg.mp h).1;exact⟨JU this,JJ _⟩
 |give h=>exact⟨JJ _,JU h⟩
def jr{V:Nat->Int}(still:∀s∈S,V s.a+s.g<=V s.b){q p}{w}(h:Path S q w p):V q+KE w<=V p:=by
 induction h with
 |nil p=>rw[MI];lia
 |@cons s w p hs h ih=>
  have:=still s hs;have e:KE (s::w)=s.g+KE w:=by show KE ([s]++w)=_;rw[Vr,RW]
  lia
def xu(hp:ZD cs.length m qs)(hd:ZA cs qs m ws){V:Nat->Int}(st:∀s,IsSt cs f qs ws s->V s.a+s.g<=V s.b)(vn:V cs.length=0) :
  OkP cs.length m (λa b=>f (a,b)) qs 1 ((Uw m).map λi:Nat=>Z0 f V qs (i:Int)) ((Uw cs.length).map V)/\Xk cs ((Uw m).map λi:Nat=>Z0 f V qs (i:Int)) ((Uw cs.length).map V)=Kc f 0 ws:=by
 have v0:∀p,p<cs.length->0<=V p:=λp bc=>by
  have h3:V cs.length+0<=V p:=st _ (.give bc)
  lia
 have psD:∀k,k<cs.length->((Uw cs.length).map V).getD k 0=V k:=λk hk=>by rw[Qm,Qd,QR hk];rfl
 have ask:∀(i:Nat) o,ws[i]?=zd o->Z0 f V qs (i:Int)=Ko f i o-(match o with|some t=>((Uw cs.length).map V).getD t.toNat 0|none=>0):=λi o h=>by
  obtain⟨a1,a2,a3⟩:=O2 f V (i:Int) qs 0;cases o with
  |none=>
   have:Z0 f V qs (i:Int)<=0:=a3 0 (Jb _) λq hq e=>by
    have h1:=st _ ((.mv (f:=f) h (o':=zd q.2) (by intro z;cases z) λt et=>by cases et;rw[←e];exact hq));have h1:V cs.length+(f ((i:Int),q.2)-0)<=V q.2.toNat:=h1;rw[←e]at h1;have:f (q.1,q.2)=f q:=rfl
    lia
   show Z0 f V qs (i:Int)=0-0;have:0<=Z0 f V qs (i:Int):=a1
   lia
  |some t=>
   have hq:=hd.wish i t h;have hb:=hp.lo _ hq;have hup:=st _ ((.mv (f:=f) h (o':=zj) (by intro z;cases z) λt et=>by cases et));have hup:V t.toNat+(0-f ((i:Int),t))<=V cs.length:=hup;show Z0 f V qs (i:Int)=f ((i:Int),t)-((Uw cs.length).map V).getD t.toNat 0;rw[psD t.toNat (by lia)];have lo:f ((i:Int),t)-V t.toNat<=Z0 f V qs (i:Int):=a2 _ hq zh
   have hi:Z0 f V qs (i:Int)<=f ((i:Int),t)-V t.toNat:=a3 _ (by lia) λq hq e=>by
    by_cases z:q.2=t
    .have:q=((i:Int),t):=by rw[←e,←z]
     rw[this];exact Jb _
    .have h1:=st _ ((.mv (f:=f) h (o':=zd q.2) (by intro y;cases y;exact z zh) λt et=>by cases et;rw[←e];exact hq))
     have h1:V t.toNat+(f ((i:Int),q.2)-f ((i:Int),t))<=V q.2.toNat:=h1;have:f (((i:Int)),q.2)=f q:=by rw[←e]
     lia
   lia
 refine⟨⟨by decide,by rw[Qb,Qs],by rw[Qb,Qs],λa ha=>?_,λp bc=>?_,λq hq=>?_⟩,?_⟩
 .obtain⟨i,_,rfl⟩:=Qo.mp ha
  exact(O2 f V (i:Int) qs 0).1
 .obtain⟨i,_,rfl⟩:=Qo.mp bc
  exact v0 i (QN.mp (by assumption))
 .have hb:=hp.lo q hq
  rw[psD q.2.toNat (by lia),Qm,Qd,QR (by lia)];have h2:=(O2 f V q.1 qs 0).2.1 q hq zh;show 1*f q<=Z0 f V qs ((q.1.toNat:Nat):Int)+V q.2.toNat;have e:((q.1.toNat:Nat):Int)=q.1:=by lia
  rw[e];have h2:f q-V q.2.toNat<=Z0 f V qs q.1:=h2
  lia
 .unfold Xk
  rw[List.range_eq_range' (n:=m),←hd.len,F2 (f:=f) (ps:=(Uw cs.length).map V) ws 0 (λi:Nat=>Z0 f V qs (i:Int)) λj o e=>by rw[QU];exact ask j o e];have aG:∀t,zd t∈ws->0<=t/\t<cs.length:=λt ht=>by obtain⟨i,hi⟩:=List.mem_iff_getElem?.mp ht;have:=hp.lo _ (hd.wish i t hi);exact⟨this.2.2.1,this.2.2.2⟩
  rw[MQ ws aG,EE _ _ (by rw[Qb,Qs])]
  have e:Zn cs.length (λk=>cs.getD k 0*((Uw cs.length).map V).getD k 0)=Zn cs.length λk=>((ws.count (zd (k:Int)):Nat):Int)*((Uw cs.length).map V).getD k 0:=M0 λk hk=>by
   rw[psD k hk];have hc:cs[k]?=zd (cs.getD k 0):=by rw[Qm,Qe hk];rfl
   have hle:=hd.cop k _ hc;by_cases z:((ws.count (zd (k:Int)):Nat):Int)=cs.getD k 0
   .rw[z]
   .have h1:=st _ ((.left (f:=f) (qs:=qs) hc (by lia)))
    have h1:V k+0<=V cs.length:=h1;have:=v0 k hk;have hz:V k=0:=by lia
    rw[hz,Ub,Ub]
  rw[e]
  lia
def OT(hp:ZD cs.length m qs)(hd:ZA cs qs m ws)(hin:∀s∈S,IsSt cs f qs ws s)(hall:∀s,IsSt cs f qs ws s->s∈S){V:Nat->Int}(hV:∀p,V p=(ent (Ze (cs.length+1) S (cs.length+1)) p).1)
  (still:∀p,p<cs.length+1->(ent (Ze (cs.length+1) S (cs.length+1)) p).2.length≠cs.length+1):(∀s∈S,V s.a+s.g<=V s.b)/\V cs.length=0:=by
 have hS   :=λs hs=>(hin s hs).lt hp hd;have st:∀s∈S,V s.a+s.g<=V s.b:=λs hs=>by rw[hV,hV];exact wD hS (Jk _) still s hs
 have v0:∀p,0<=V p:=λp=>by have:=F4 hS (JS (cs.length+1)) p;rw[P3 hS]at this;rw[hV];exact this
 have vn:V cs.length=0:=by
  obtain⟨hw,hg⟩:=PP hS _ cs.length;obtain⟨q,hq⟩:=hw.path;have h1:=jr st hq;rw[hg,←hV]at h1;have h2:=v0 q;by_cases z:q=cs.length
  .lia
  .have hql:q<cs.length:=by
    cases aF:(ent _ cs.length).2 with
    |nil=>rw[aF]at hq;cases hq;exact absurd zh z
    |cons s w=>
     rw[aF]at hq;have:=(hS s hq.step.1).1;rw[←hq.head]at this
     lia
   have h3:=st _ (hall _ (.give hql));have:=v0 cs.length
   lia
 exact⟨st,vn⟩
end
noncomputable def Y6:Option Nat->D
 |some i=>.int i
 |none=>.none
noncomputable def U6(s:Stp):D:=.tuple [.int s.a,.int s.b,.int s.g,Y6 s.w]
noncomputable def YE(x:Int×List Stp):D:=.tuple [.int x.1,.list (x.2.map U6)]
noncomputable def U4(V:Int->Int->Int)(q:Int×Int):Int:=V q.1 q.2
def ZJ(n:Nat)(f:Int×Int->Int)(ws:LO):List Stp:=(Uw ws.length).filterMap λi=>match ws.getD i zj with
 |none=>zj
 |some t=>zd ⟨t.toNat,n, -(Ko f i (zd t)),zd i⟩
def Zw(n:Nat)(f:Int×Int->Int)(qs:LP)(ws:LO):List Stp:=qs.filterMap λq=>if ws.getD q.1.toNat zj≠zd q.2 then zd ⟨plF n (ws.getD q.1.toNat zj),q.2.toNat,f q-Ko f q.1.toNat (ws.getD q.1.toNat zj),zd q.1.toNat⟩else zj
noncomputable def Yz(cs:zo)(ws:LO):List Stp:=(Uw cs.length).filterMap λt=>if 0<cs.getD t 0-((ws.count (zd (t:Int)):Nat):Int)then zd ⟨t,cs.length,0,zj⟩else zj
noncomputable def Yp(n:Nat):List Stp:=(Uw n).map λt=>⟨n,t,0,zj⟩
def Z9(cs:zo)(f:Int×Int->Int)(qs:LP)(ws:LO):List Stp:=ZJ cs.length f ws++Zw cs.length f qs ws++(Yz cs ws++Yp cs.length)
def xr{m j}{h h'}(hj:j<m)(e:∀i,i≠j->h' i=h i):(((Uw m).map h).map int).set j (.int (h' j))=((Uw m).map h').map int:=by
 apply J8;intro i;by_cases z:j=i
 .simp_all
 .rw[Qr z,Qd,Qd,Qd,Qd]
  by_cases hi:i<m
  .rw[QR hi]
   show zd _=zd _;rw[e i λy=>z y.symm]
  .simp_all
def OS   {j}(hj:j<m):oIx (.list (((Uw m).map h).map int)) (.int (j:Int))=zd (.int (h j)):=Zq (by rw[Qd,Qd,QR hj];rfl)
section
variable{cs:zo}{ls:L3}{ws:LO}{V:Int->Int->Int}{qs:LP}
def wV{n:Nat}{o}(h:∀t,o=zd t->0<=t):WZ [.int n,Kb o]=zd (.int (plF n o)):=by
 refine KY  rfl ?_;cases o with
 |none=>exact Kk (Ha (Kx  (x:=PyData.none) (UM zh)) (UM zh)) zh
 |some t=>
  refine Kk (NJ (Kx  (x:=int t) (UM zh)) (UM zh)) ?_;have:=h t zh;show Out.rt (.int t)=Out.rt (.int ((t.toNat)))
  grind
noncomputable def YD(V:Int->Int->Int)(ws:LO)(qs:LP)(i:Nat):Int:=match ws.getD i zj with
 |none=>0
 |some t=>if((i:Int),t)∈qs then V i t else 0
def PH{k:Int}(h0:0<=k)(h1:k<ws.length):oIx (U9 ws) (.int k)=zd (Kb (ws.getD k.toNat zj)):=by
 obtain⟨j,rfl⟩:∃j:Nat,k=j:=⟨k.toNat,by lia⟩
 refine Zq ?_;simp_all
noncomputable def MH   (h:ws[i]?=zd o):ws.getD i zj=o:=by simp_all
def xq(hp:ZD cs.length ws.length qs)(hd:ZA cs qs ws.length ws)(hm:ws.length<=1000)(hq1:qs.length<=1000):V1 [.int (cs.length:Nat),.list (qs.map (ZF V)),U9 ws]=zd (.list ((ZJ cs.length (U4 V) ws++Zw cs.length (U4 V) qs ws).map U6)):=by
 refine KY (ρ:=[zd (.pub (.int (cs.length:Nat))),zd (.pub (.list (qs.map (ZF V)))),zd (.pub (U9 ws)),zj,zj,zj,zj,zj]) zh ?_;unfold SO;have hlen:Ki [U9 ws]=zd (.int ws.length):=by show Ki [.list (ws.map Kb)]=_;rw[K8,Qb]
 have pos:∀i t,ws.getD i zj=zd t->i<ws.length/\((i:Int),t)∈qs:=λi t e=>by
  by_cases hi:i<ws.length
  .rw[Qm,Qe hi]at e
   exact⟨hi,hd.wish i t (by rw[Qe hi];exact J5 zd e)⟩
  .rw[Qm,JD (by lia)]at e;cases e
 refine Kf (ZT (Mk (n:=ws.length) (KZ (UP UW UV) (Qa zh)) (Zg zh hlen) hm) (Qa zh) zh) ?_;apply KL;apply Zs (λk ρ=>∃x4 x5 x6,ρ=[zd (.pub (.int (cs.length:Nat))),zd (.pub (.list (qs.map (ZF V)))),zd (.pub (U9 ws)),zd (.own (((Uw ws.length).map (YD V ws (qs.take k))).map int)),x4,x5,x6,zj])
 case h1=>exact K7 (UM zh) Zh
 case h0=>
  refine⟨zj,zj,zj,?_⟩
  have e:((Uw ws.length).map (YD V ws (qs.take 0))).map int=Ux ws.length (.int 0):=by
   rw[List.eq_replicate_iff];refine⟨by rw[Qb,Qb,Qs],λb hb=>?_⟩;obtain⟨x,hx,rfl⟩:=Qo.mp hb;obtain⟨i,_,rfl⟩:=Qo.mp hx;unfold YD;split
   .rfl
   .rw[if_neg (by rw[List.take_zero];simp)]
  rw[e];rfl
 case hst=>
  rintro k d ρ hk ⟨x4,x5,x6,rfl⟩;rw[Qd]at hk;cases hq:qs[k]? with
  |none=>rw[hq]at hk;cases hk
  |some q=>
  rw[hq]at hk;cases hk;have hb:=hp.lo q (Qq hq);refine⟨_,Km zh (UZ (UT (Qa zh) zh) (UZ (UT (Qa zh) zh) (UZ (UT (Qa zh) zh) Kn))),?_⟩;unfold Gd;have zW:qs.take (k+1)=qs.take k++[q]:=by rw[JN,hq];rfl
  apply Kw
  case h1=>exact U2 (Kr zh (UM zh) (PH hb.1 hb.2.1)) (UM zh) (Ow (b:=zd q.2))
  case h2=>
   intro hh;have hh:ws.getD q.1.toNat zj=zd q.2:=Qa hh;refine Z7 (ON (UM zh) zh (UM zh) zh ⟨hb.1,by rw[Qb,Qb,Qs];exact hb.2.1⟩ zh) (KU ⟨zd (.pub (.int q.1)),zd (.pub (.int q.2)),zd (.pub (.int (V q.1 q.2))),?_⟩)
   have e:=xr (m:=ws.length) (j:=q.1.toNat) (h:=YD V ws (qs.take k)) (h':=YD V ws (qs.take (k+1))) (by lia) λi hne=>by
    unfold YD;cases ws.getD i zj with
    |none=>rfl
    |some t=>
     dsimp only;rw[zW];by_cases z:((i:Int),t)∈qs.take k
     .rw[Qu z,Qu (Q0 _ z)]
     .rw[QH z,QH]
      intro y;rcases QG.mp y with y|y
      .exact z y
      .have:=Qv.mp y
       rw[←this]at hne;exact hne (by show i=((i:Int)).toNat;rw[QY])
   have ev:YD V ws (qs.take (k+1)) q.1.toNat=V q.1 q.2:=by
    unfold YD;rw[hh];have ei:((q.1.toNat:Nat):Int)=q.1:=by lia
    dsimp only;rw[ei,if_pos (by rw[zW];exact List.mem_append_right _ (by simp))]
   rw[ev]at e;rw[←e];rfl
  case h3=>
   intro hh;have hh:¬ws.getD q.1.toNat zj=zd q.2:=Q9 hh;refine KO (KU ⟨zd (.pub (.int q.1)),zd (.pub (.int q.2)),zd (.pub (.int (V q.1 q.2))),?_⟩)
   have e:(Uw ws.length).map (YD V ws (qs.take (k+1)))=(Uw ws.length).map (YD V ws (qs.take k)):=List.map_congr_left λi _=>by
    unfold YD;cases hw:ws.getD i zj with
    |none=>rfl
    |some t=>
     dsimp only;rw[zW];by_cases z:((i:Int),t)∈qs.take k
     .rw[Qu z,Qu (Q0 _ z)]
     .rw[QH z,QH]
      intro y;rcases QG.mp y with y|y
      .exact z y
      .have y:=Qv.mp y
       rw[←y]at hh;exact hh (by show ws.getD ((i:Int)).toNat zj=zd t;rw[QY];exact hw)
   rw[e];rfl
 case hend=>
  rintro ρ ⟨x4,x5,x6,rfl⟩;refine KI ?_;have aG:qs.take (qs.map (ZF V)).length=qs:=by rw[Qb,Jm]
  rw[aG]
  have bU:∀i,YD V ws qs i=Ko (U4 V) i (ws.getD i zj):=λi=>by
   unfold YD;cases hw:ws.getD i zj with
   |none=>rfl
   |some t=>exact Qu (pos i t hw).2
  have hc:∀y4 y5 y6 y7:Option Sl,K6 (gT 2 (gNC (gN 8) (gNC (gN 9) (gN0)))) (U0 (λd=>!isNon d) (UL 9)) (Kl (UO (UL 9) (UO (UL 0) (UO (ZH (UY 3 (UL 8))) (UO (UL 8) (UN)))))) (Yu 0 (ws.map Kb)) ([zd (.pub (.int (cs.length:Nat))),zd (.pub (.list (qs.map (ZF V)))),zd (.pub (U9 ws)),zd (.pub (.list (((Uw ws.length).map (YD V ws qs)).map int))),y4,y5,y6,y7]++Ux 2 zj) []=zd ((ZJ cs.length (U4 V) ws).map U6):=by
   intro y4 y5 y6 y7
   have em:(ZJ cs.length (U4 V) ws).map U6=((Uw ws.length).map λi=>(match ws.getD i zj with|none=>zj|some t=>zd (U6 ⟨t.toNat,cs.length, -(Ko (U4 V) i (zd t)),zd i⟩):zp)).filterMap id:=by
    unfold ZJ;rw[List.map_filterMap,List.filterMap_map]
    congr 1
    funext i;dsimp only[Function.comp,id];cases ws.getD i zj<;>rfl
   rw[em];refine O7 (λρ=>∃z4 z5 z6 z7 x y,ρ=[zd (.pub (.int (cs.length:Nat))),zd (.pub (.list (qs.map (ZF V)))),zd (.pub (U9 ws)),zd (.pub (.list (((Uw ws.length).map (YD V ws qs)).map int))),z4,z5,z6,z7,x,y]) _ _ _ _ (by rw[Qb,Qs,Yt,Qb]) ?_ ⟨y4,y5,y6,y7,zj,zj,rfl⟩ (by rw[Yt,Qb,Qt];lia);rintro i d e hdd he ρ ⟨z4,z5,z6,z7,x,y,rfl⟩;obtain⟨z,hz,rfl⟩:=Xd hdd;rw[Qd]at hz;cases hw:ws[i]? with
   |none=>rw[hw]at hz;cases hz
   |some o=>
   rw[hw]at hz;cases hz;have zG:i<ws.length:=(Qg.mp hw).1;have hg:=MH hw;rw[Qd,QR zG]at he;have he:zd (match ws.getD i zj with|none=>zj|some t=>zd (U6 ⟨t.toNat,cs.length, -(Ko (U4 V) i (zd t)),zd i⟩):zp)=zd e:=he;rw[hg]at he;cases he;rw[QU];refine⟨_,Km zh (UZ (UT (Qa zh) zh) (UZ (UT (Qa zh) zh) Kn)),?_,?_,_,_,_,_,_,_,rfl⟩
   .cases o with
    |none=>exact Kx (k:=λd=>!isNon d) (x:=PyData.none) (UM zh)
    |some t=>exact Kx (k:=λd=>!isNon d) (x:=int t) (UM zh)
   .intro v hv
    cases o with
    |none=>cases hv
    |some t=>
     cases hv;have hb:=hp.lo _ (pos i t hg).2;have et:((t.toNat:Nat):Int)=t:=by have:=hb.2.2.1;lia
     show _=Res.ok (PyData.tuple [.int ((t.toNat:Nat):Int),.int ((cs.length:Nat):Int),.int (-(Ko (U4 V) i (zd t))),.int (i:Nat)]) _;rw[et,show Ko (U4 V) i (zd t)=YD V ws qs i by rw[bU,hg]];exact Zk (UP (UM zh) (UP (UM zh) (UP (WH (Kr zh (UM zh) (OS zG))) (UP (UM zh) UV)))) (Qa zh)
  have nlS:∀S:List Stp,(S.map U6).all nl0=zk:=λS=>Q2.mpr λd hd=>by obtain⟨s,_,rfl⟩:=Qo.mp hd;obtain⟨a,b,g,w⟩:=s;cases w<;>rfl
  have hcl:∀x4 x5 x6:Option Sl,W8 (Zb (YG (UO (UL 2) (UN))) 2 (gT 2 (gNC (gN 8) (gNC (gN 9) (gN0)))) (U0 (λd=>!isNon d) (UL 9)) (Kl (UO (UL 9) (UO (UL 0) (UO (ZH (UY 3 (UL 8))) (UO (UL 8) (UN))))))) [zd (.pub (.int (cs.length:Nat))),zd (.pub (.list (qs.map (ZF V)))),zd (.pub (U9 ws)),zd (.own (((Uw ws.length).map (YD V ws qs)).map int)),x4,x5,x6,zj]=.ok ((ZJ cs.length (U4 V) ws).map U6) [zd (.pub (.int (cs.length:Nat))),zd (.pub (.list (qs.map (ZF V)))),zd (.pub (U9 ws)),zd (.own (((Uw ws.length).map (YD V ws qs)).map int)),x4,x5,x6,zj]:=λx4 x5 x6=>
   qZ (ρ':=Yn [zd (.pub (.int (cs.length:Nat))),zd (.pub (.list (qs.map (ZF V)))),zd (.pub (U9 ws)),zd (.own (((Uw ws.length).map (YD V ws qs)).map int)),x4,x5,x6,zj]) (Zl (Xc (UP (UM zh) UV) Xe) (hc _ _ _ _)) (nlS _)
  refine Kf (ZT (hcl _ _ _) (Qa zh) zh) ?_;apply KL;apply Zs (λk ρ=>∃x4 x5 x6,ρ=[zd (.pub (.int (cs.length:Nat))),zd (.pub (.list (qs.map (ZF V)))),zd (.pub (U9 ws)),zd (.own (((Uw ws.length).map (YD V ws qs)).map int)),x4,x5,x6,zd (.own ((ZJ cs.length (U4 V) ws++Zw cs.length (U4 V) (qs.take k) ws).map U6))])
  case h1=>exact K7 (UM zh) Zh
  case h0=>exact⟨_,_,_,by rw[List.take_zero];show _=[_,_,_,_,_,_,_,zd (Sl.own ((ZJ cs.length (U4 V) ws++[]).map U6))];rw[Jd];rfl⟩
  case hst=>
   rintro k d ρ hk ⟨x4,x5,x6,rfl⟩;rw[Qd]at hk;cases hq:qs[k]? with
   |none=>rw[hq]at hk;cases hk
   |some q=>
   rw[hq]at hk;cases hk;have hb:=hp.lo q (Qq hq);have zW:qs.take (k+1)=qs.take k++[q]:=by rw[JN,hq];rfl
   have zK:k<qs.length:=(Qg.mp hq).1
   have hsz:((ZJ cs.length (U4 V) ws++Zw cs.length (U4 V) (qs.take k) ws).map U6).length<1000000:=by
    rw[Qb,Qi];have h1:(ZJ cs.length (U4 V) ws).length<=ws.length:=by unfold ZJ;have:=Q7 (λi=>match ws.getD i zj with|none=>zj|some t=>zd (⟨t.toNat,cs.length, -(Ko (U4 V) i (zd t)),zd i⟩:Stp)) (Uw ws.length);rw[Qs]at this;exact this
    have h2:(Zw cs.length (U4 V) (qs.take k) ws).length<=qs.length:=by unfold Zw;refine QP (Q7 _ _) ?_;rw[QT];lia
    lia
   refine⟨_,Km zh (UZ (UT (Qa zh) zh) (UZ (UT (Qa zh) zh) (UZ (UT (Qa zh) zh) Kn))),?_⟩;unfold Ge;have e2:∀r:List Stp,Zw cs.length (U4 V) [q] ws=r->Zw cs.length (U4 V) (qs.take (k+1)) ws=Zw cs.length (U4 V) (qs.take k) ws++r:=λr hr=>by rw[zW];unfold Zw at hr⊢;rw[List.filterMap_append,hr]
   apply Kw
   case h1=>exact U2 (Kr zh (UM zh) (PH hb.1 hb.2.1)) (UM zh) (CY (b:=zd q.2))
   case h2=>
    intro hh;have hh:¬ws.getD q.1.toNat zj=zd q.2:=by simpa using hh
    have hpl:WZ [.int (cs.length:Nat),Kb (ws.getD q.1.toNat zj)]=zd (.int (plF cs.length (ws.getD q.1.toNat zj))):=wV λt e=>by have:=hp.lo _ (pos _ t e).2;exact this.2.2.1
    refine Z7 (WG zh (Zk (UP (Kg (UP (UM zh) (UP (Kr zh (UM zh) (PH hb.1 hb.2.1)) UV)) zh hpl) (UP (UM zh) (UP (U2 (UM zh) (Vk zh (UM zh) zh (show oIx _ (.int q.1)=zd (.int (YD V ws qs q.1.toNat))from by have:=OS (m:=ws.length) (h:=YD V ws qs) (j:=q.1.toNat) (by lia);rw[show((q.1.toNat:Nat):Int)=q.1 by lia]at this;exact this)) YT) (UP (UM zh) UV)))) (Qa zh)) zh hsz zh) (KU ⟨zd (.pub (.int q.1)),zd (.pub (.int q.2)),zd (.pub (.int (V q.1 q.2))),?_⟩);have er:Zw cs.length (U4 V) [q] ws=[⟨plF cs.length (ws.getD q.1.toNat zj),q.2.toNat,U4 V q-Ko (U4 V) q.1.toNat (ws.getD q.1.toNat zj),zd q.1.toNat⟩]:=by unfold Zw;rw[JB,Qu hh];rfl
    rw[e2 _ er,←Q5,QA (l₂:=[_])];show _=[_,_,_,_,_,_,_,zd (Sl.own (_++[PyData.tuple [_,.int ((q.2.toNat:Nat):Int),.int (U4 V q-Ko (U4 V) q.1.toNat (ws.getD q.1.toNat zj)),.int ((q.1.toNat:Nat):Int)]]))];rw[show((q.2.toNat:Nat):Int)=q.2 by lia,show((q.1.toNat:Nat):Int)=q.1 by lia,←bU];rfl
   case h3=>
    intro hh;have hh:ws.getD q.1.toNat zj=zd q.2:=by simpa using hh
    refine KO (KU ⟨zd (.pub (.int q.1)),zd (.pub (.int q.2)),zd (.pub (.int (V q.1 q.2))),?_⟩);have er:Zw cs.length (U4 V) [q] ws=[]:=by unfold Zw;rw[List.filterMap_cons,if_neg (by rw[hh];simp)];rfl
    rw[e2 _ er,Jd];rfl
  case hend=>rintro ρ ⟨x4,x5,x6,rfl⟩;rw[aG];exact KI (Kk (Yi rfl rfl) rfl)
end
section
variable{cs:zo}{ls:L3}{ws:LO}{V:Int->Int->Int}{qs:LP}
def xp(g:Good cs ls)(hm:ws.length=ls.length):V0 [Kq cs ls,U9 ws]=zd (.list ((Yz cs ws++Yp cs.length).map U6)):=by
 refine KY  rfl ?_;unfold SN;have c6:=g.c6;have zU:Ki [.list (cs.map int)]=zd (.int cs.length):=by rw[K8,Qb]
 refine Kf (Kt (Zf (UP (Kr zh UW WB) UV) zU) (Qa zh) zh) ?_;refine Kf (Kt (Kg (UP (UM zh) (UP (UM zh) UV)) zh (Dd g)) (Qa zh) zh) ?_;have zJ:(YF cs ws).length=cs.length:=by unfold YF;rw[Qb,Qs]
 have hc:K6 (gT 2 (gNC (gN 5) (gNC (gN 6) (gN0)))) (Zj (oIB λi j=>decide (j<i)) 6 (UR (.int 0))) (Kl (UO (UL 5) (UO (UL 2) (UO (UR (.int 0)) (UO (UR .none) (UN)))))) (Yu 0 ((YF cs ws).map int)) (KD [zd (.pub (Kq cs ls)),zd (.pub (U9 ws)),zd (.pub (.int cs.length)),zd (.pub (.list ((YF cs ws).map int))),zj]++Ux 2 zj) []=zd ((Yz cs ws).map U6):=by
  have em:(Yz cs ws).map U6=((Uw cs.length).map λt=>(if 0<cs.getD t 0-((ws.count (zd (t:Int)):Nat):Int)then zd (U6 ⟨t,cs.length,0,zj⟩)else none:zp)).filterMap id:=by
   unfold Yz;rw[List.map_filterMap,List.filterMap_map]
   congr 1
   funext i;dsimp only[Function.comp,id]
   split<;>rfl
  rw[em];refine O7 (λρ=>∃x y,ρ=[zd (.pub (Kq cs ls)),zd (.pub (U9 ws)),zd (.pub (.int cs.length)),zd (.pub (.list ((YF cs ws).map int))),zj,x,y]) _ _ _ _ (by rw[Qb,Qs,Yt,Qb,zJ]) ?_ ⟨zj,zj,rfl⟩ (by rw[Yt,Qb,zJ,Qt];lia);rintro i d e hd he ρ ⟨x,y,rfl⟩;obtain⟨z,hz,rfl⟩:=Xd hd;rw[Qd]at hz
  have zG:i<cs.length:=by
   rw[←zJ];cases hw:(YF cs ws)[i]? with
   |none=>rw[hw]at hz;cases hz
   |some v=>exact(Qg.mp hw).1
  have hlv:(YF cs ws)[i]?=zd (cs.getD i 0-((ws.count (zd (i:Int)):Nat):Int)):=by unfold YF;rw[Qd,QR zG];rfl
  rw[hlv]at hz;cases hz;rw[Qd,QR zG]at he;cases he;rw[QU];refine⟨_,Km zh (UZ (UT (Qa zh) zh) (UZ (UT (Qa zh) zh) Kn)),?_,?_,_,_,rfl⟩
  .have e:(if 0<cs.getD i 0-((ws.count (zd (i:Int)):Nat):Int)then zd (U6 ⟨i,cs.length,0,zj⟩)else none:zp).isSome=decide (0<cs.getD i 0-((ws.count (zd (i:Int)):Nat):Int)):=by
    by_cases h:0<cs.getD i 0-((ws.count (zd (i:Int)):Nat):Int)
    .rw[Qu h,QW h];rfl
    .rw[QH h,QZ h];rfl
   rw[e];exact ZS zh UW zh
  .intro v hv
   dsimp only at hv;split at hv
   .cases hv
    exact Zk (UP (UM zh) (UP (UM zh) (UP UW (UP UW UV)))) (Qa zh)
   .cases hv
 refine Kf (ZT (Zl (Xc (UP (UM zh) UV) Xe) hc) (Qa zh) zh) ?_;have am:(YM 0 (cs.length:Int)).length=cs.length:=by rw[YX];lia
 have hc2:∀x4:Option Sl,K6 (gN 5) (UR zk) (Kl (UO (UL 2) (UO (UL 5) (UO (UR (.int 0)) (UO (UR .none) (UN)))))) (YM 0 (cs.length:Int)) (KD [zd (.pub (Kq cs ls)),zd (.pub (U9 ws)),zd (.pub (.int cs.length)),zd (.pub (.list ((YF cs ws).map int))),x4]++Ux 1 zj) []=zd ((Yp cs.length).map U6):=λx4=>by refine XG (λρ=>∃z x,ρ=[zd (.pub (Kq cs ls)),zd (.pub (U9 ws)),zd (.pub (.int cs.length)),zd (.pub (.list ((YF cs ws).map int))),z,x]) _ _ _ _ (by unfold Yp;rw[Qb,Qb,Qs,am]) ?_ ⟨_,zj,rfl⟩ (by rw[am,Qt];lia);rintro i d e hd he ρ ⟨z,x,rfl⟩;obtain⟨rfl,hlt⟩:=WK hd;unfold Yp at he;rw[Qd,Qd,QR (by lia)]at he;cases he;rw[Jv];exact⟨_,UT (Qa zh) zh,rfl,Zk (UP (UM zh) (UP (UM zh) (UP UW (UP UW UV)))) (Qa zh),_,_,rfl⟩
 have h1:(Yz cs ws).length<=cs.length:=by unfold Yz;have:=Q7 (λt=>if 0<cs.getD t 0-((ws.count (zd (t:Int)):Nat):Int)then zd (⟨t,cs.length,0,zj⟩:Stp)else zj) (Uw cs.length);rw[Qs]at this;exact this
 have h2:(Yp cs.length).length=cs.length:=by unfold Yp;rw[Qb,Qs]
 refine Kk (U2 (Yi zh zh) (Kx (Zl (X6 (UP (UM zh) UV) (X7 (by lia) (by lia))) (hc2 _))) (Xx (by rw[Qb,Qb];lia))) ?_;rw[QA]
def Le(g:Good cs ls)(hm:ws.length=ls.length)(hp:ZD cs.length ws.length qs)(hd:ZA cs qs ws.length ws)(hq1:qs.length<=1000):YQ [Kq cs ls,.list (qs.map (ZF V)),U9 ws]=zd (.list ((Z9 cs (U4 V) qs ws).map U6)):=by
 refine KY  rfl ?_;have c6:=g.c6;have l7:=g.l7;have zU:Ki [.list (cs.map int)]=zd (.int (cs.length:Nat)):=by rw[K8,Qb]
 have h1:(ZJ cs.length (U4 V) ws).length<=ws.length:=by unfold ZJ;have:=Q7 (λi=>match ws.getD i zj with|none=>zj|some t=>zd (⟨t.toNat,cs.length, -(Ko (U4 V) i (zd t)),zd i⟩:Stp)) (Uw ws.length);rw[Qs]at this;exact this
 have h2:(Zw cs.length (U4 V) qs ws).length<=qs.length:=by unfold Zw;exact Q7 _ _
 have h3:(Yz cs ws).length<=cs.length:=by have:=Q7 (λt=>if 0<cs.getD t 0-((ws.count (zd (t:Int)):Nat):Int)then zd (⟨t,cs.length,0,zj⟩:Stp)else zj) (Uw cs.length);rw[Qs]at this;exact this
 have h4:(Yp cs.length).length=cs.length:=by unfold Yp;rw[Qb,Qs]
 refine Kk (U2 (Kg (UP (Zf (UP (Kr zh UW WB) UV) zU) (UP (UM zh) (UP (UM zh) UV))) zh (xq hp hd (by lia) hq1)) (Kg (UP (UM zh) (UP (UM zh) UV)) zh (xp g hm)) (Xx (by rw[Qb,Qb,Qi,Qi];lia))) ?_;unfold Z9;rw[QA (l₁:=ZJ cs.length (U4 V) ws++Zw cs.length (U4 V) qs ws)]
def xo  : (Z9 cs f qs ws).length<=ws.length+qs.length+2*cs.length:=by
 have h1:(ZJ cs.length f ws).length<=ws.length:=by have:=Q7 (λi=>match ws.getD i zj with|none=>zj|some t=>zd (⟨t.toNat,cs.length, -(Ko f i (zd t)),zd i⟩:Stp)) (Uw ws.length);rw[Qs]at this;exact this
 have h2:(Zw cs.length f qs ws).length<=qs.length:=by exact Q7 _ _
 have h3:(Yz cs ws).length<=cs.length:=by have:=Q7 (λt=>if 0<cs.getD t 0-((ws.count (zd (t:Int))))then zd (⟨t,cs.length,0,zj⟩:Stp)else zj) (Uw cs.length);rw[Qs]at this;exact this
 have h4:(Yp cs.length).length=cs.length:=by unfold Yp;rw[Qb,Qs]
 unfold Z9;rw[Qi,Qi,Qi]
 lia
def Wd{m:Nat}{f:Int×Int->Int}(hp:ZD cs.length m qs)(hd:ZA cs qs m ws):∀s∈Z9 cs f qs ws,IsSt cs f qs ws s:=λs hs=>by
 have gt:∀{i:Nat}{o:zx},i<ws.length->ws.getD i zj=o->ws[i]?=zd o:=λ{i o} hi e=>by rw[Qm,Qe hi]at e;rw[Qe hi];exact J5 zd e
 unfold Z9 at hs;rcases QG.mp hs with hs|hs
 .rcases QG.mp hs with hs|hs
  .unfold ZJ at hs
   obtain⟨i,hi,e⟩:=Jn.mp hs;have hi:=QN.mp hi;cases hw:ws.getD i zj with
   |none=>rw[hw]at e;cases e
   |some t=>
    rw[hw]at e;have e:=Q8 e;subst e;have:=IsSt.mv (cs:=cs) (f:=f) (qs:=qs) (gt hi hw) (o':=zj) (by intro z;cases z) (λt e=>by cases e);have e2:Ko f i zj-Ko f i (zd t) = -(Ko f i (zd t)):=by show 0-_=_;lia
    rw[e2]at this;exact this
  .unfold Zw at hs
   obtain⟨q,hq,e⟩:=Jn.mp hs;have hb:=hp.lo q hq;split at e
   .rename_i hne
    have e:=Q8 e;subst e;have hi:q.1.toNat<ws.length:=by rw[hd.len];lia
    have ei:((q.1.toNat:Nat):Int)=q.1:=by lia
    have:=IsSt.mv (cs:=cs) (f:=f) (qs:=qs) (gt hi zh) (o':=zd q.2) (λz=>hne z.symm) (λt e=>by cases e;rw[ei];exact hq);have e2:Ko f q.1.toNat (zd q.2)=f q:=by show f (((q.1.toNat:Nat):Int),q.2)=_;rw[ei]
    rw[e2]at this;exact this
   .cases e
 .rcases QG.mp hs with hs|hs
  .unfold Yz at hs
   obtain⟨t,ht,e⟩:=Jn.mp hs;have ht:=QN.mp ht;split at e
   .rename_i hl
    have e:=Q8 e;subst e;exact .left (c:=cs.getD t 0) (by rw[Qm,Qe ht];rfl) (by lia)
   .cases e
  .obtain⟨t,ht,rfl⟩:=Qo.mp hs
   exact .give (QN.mp ht)
def R5{m:Nat}{f}(hp:ZD cs.length m qs)(hd:ZA cs qs m ws):∀s,IsSt cs f qs ws s->s∈Z9 cs f qs ws:=λs hs=>by
 unfold Z9;cases hs with
 |@mv i o o' h hne hq=>
  have hi:i<ws.length:=(Qg.mp h).1;have hg:=MH h;refine Q0 _ ?_;cases o' with
  |none=>
   refine Q0 _ ?_;cases o with
   |none=>exact absurd zh hne
   |some t=>refine Jn.mpr ⟨i,QN.mpr hi,?_⟩;rw[hg];show zd (⟨t.toNat,cs.length, -_,zd i⟩:Stp)=zd ⟨t.toNat,cs.length,0-Ko f i (zd t),zd i⟩;rw[show(0:Int)-Ko f i (zd t) = -(Ko f i (zd t))by lia]
  |some t=>refine QI _ ?_;have hqt:=hq t zh;refine Jn.mpr ⟨((i:Int),t),hqt,?_⟩;dsimp only;rw[QY,hg,Qu (λz=>hne z.symm)];rfl
 |@left t c h hl=>
  refine QI _ (Q0 _ ?_);have ht:t<cs.length:=(Qg.mp h).1;unfold Yz;refine Jn.mpr ⟨t,QN.mpr ht,?_⟩;have e:cs.getD t 0=c:=by rw[Qm,h];rfl
  rw[e,Qu (by lia)]
 |@give t h=>refine QI _ (QI _ ?_);unfold Yp;exact Qo.mpr ⟨t,QN.mpr h,rfl⟩
end
def HL  {p:Nat}(h:p<W.length):oIx (.list (W.map YE)) (.int (p:Int))=zd (YE (ent W p)):=by refine Zq ?_;unfold ent;rw[Qd,Qm,Qe h];rfl
def xn{W:Tab}{S:List Stp}(hS:∀s∈S,s.a<W.length/\s.b<W.length)(hW:∀p,(ent W p).2.length<=1000)(hl:W.length<=1000):VZ [.list (W.map YE),.list (S.map U6)]=zd (.list ((Ov W S).map YE)):=by
 refine KY  rfl ?_;unfold SL;refine Kf (ZT (Mw zh (show TM [.list (W.map YE)]=zd (W.map YE)from rfl)) (Qa zh) zh) ?_;apply KL;apply Zs (λk ρ=>∃x3 x4 x5 x6 x7 x8 x9,ρ=[zd (.pub (.list (W.map YE))),zd (.pub (.list (S.map U6))),zd (.own (((S.take k).foldl (Xb W) W).map YE)),x3,x4,x5,x6,x7,x8,x9])
 case h1=>exact K7 (UM zh) Zh
 case h0=>exact⟨_,_,_,_,_,_,_,rfl⟩
 case hst=>
  rintro k d ρ hk ⟨x3,x4,x5,x6,x7,x8,x9,rfl⟩;rw[Qd]at hk;cases hq:S[k]? with
  |none=>rw[hq]at hk;cases hk
  |some s=>
  rw[hq]at hk;cases hk;have hs:=hS s (Qq hq);have zW:S.take (k+1)=S.take k++[s]:=by rw[JN,hq];rfl
  have hfl:(S.take (k+1)).foldl (Xb W) W=Xb W ((S.take k).foldl (Xb W) W) s:=by rw[zW,List.foldl_append];rfl
  have au:∀(R:List Stp)(T:Tab),(R.foldl (Xb W) T).length=T.length:=λR=>by
   induction R with
   |nil=>intro T;rfl
   |cons x R ih=>intro T;rw[Ju,ih,xx]
  generalize hT:(S.take k).foldl (Xb W) W=T at hfl⊢;have aC:T.length=W.length:=by rw[←hT,au]
  refine⟨_,UT (Qa zh) zh,?_⟩;unfold GF;refine Kf (YW (UM zh) (Km zh (UZ (UT (Qa zh) zh) (UZ (UT (Qa zh) zh) (UZ (UT (Qa zh) zh) (UZ (UT (Qa zh) zh) Kn)))))) ?_;refine Kf (YW (Kr zh (UM zh) (HL hs.1)) (Km zh (UZ (UT (Qa zh) zh) (UZ (UT (Qa zh) zh) Kn)))) ?_;have i0:oIx (YE (ent T s.b)) (.int 0)=zd (.int (ent T s.b).1):=Zq (j:=0) zh;apply Kw
  case h1=>exact U2 (U2 (UM zh) (UM zh) KW) (U2 (Vk zh (UM zh) zh (HL (by rw[aC];exact hs.2))) UW i0) zh
  case h2=>
   intro hh;have hh:(ent T s.b).1<(ent W s.a).1+s.g:=Qa hh;have hadd:U1 (.list ((ent W s.a).2.map U6)) (.list [U6 s])=zd (.list (((ent W s.a).2++[s]).map U6)):=by rw[Xx (by rw[Qb];have:=hW s.a;show _+1<=_;lia),QA];rfl
   refine Z7 (ON (Zk (UP (U2 (UM zh) (UM zh) KW) (UP (U2 (UM zh) (KZ (UP (UM zh) UV) (Qa zh)) hadd) UV)) (Qa zh)) zh (UM zh) zh ⟨Int.natCast_nonneg _,by rw[Qb,aC];have:=hs.2;lia⟩ zh) (KU ⟨zd (.pub (U6 s)),zd (.pub (.int s.a)),zd (.pub (.int s.b)),zd (.pub (.int s.g)),zd (.pub (Y6 s.w)),zd (.pub (.int (ent W s.a).1)),zd (.pub (.list ((ent W s.a).2.map U6))),?_⟩);rw[hfl];unfold Xb;rw[Qu hh,List.map_set];rw[QY];rfl
  case h3=>intro hh;have hh:¬(ent T s.b).1<(ent W s.a).1+s.g:=Q9 hh;refine KO (KU ⟨zd (.pub (U6 s)),zd (.pub (.int s.a)),zd (.pub (.int s.b)),zd (.pub (.int s.g)),zd (.pub (Y6 s.w)),zd (.pub (.int (ent W s.a).1)),zd (.pub (.list ((ent W s.a).2.map U6))),?_⟩);rw[hfl];unfold Xb;rw[QH hh];rfl
 case hend=>rintro ρ ⟨x3,x4,x5,x6,x7,x8,x9,rfl⟩;refine KI (Kk (Yi rfl rfl) ?_);rw[Qb,Jm];rfl
def F1{n:Nat}{S:List Stp}(hS:∀s∈S,s.a<n/\s.b<n)(hn:n<=100):Wu [.int (n:Nat),.list (S.map U6)]=zd (.list ((Ze n S n).map YE)):=by
 refine KY  rfl ?_;unfold SK;have hmul:Ks (.list [.tuple [.int 0,.list []]]) (.int (n:Nat))=zd (.list ((Ze n S 0).map YE)):=by rw[OQ (by lia)];unfold Ze;rw[JM];rfl
 refine Kf (Kt (U2 (KZ (UP (Zk (UP UW (UP (KZ UV (Qa zh)) UV)) (Qa zh)) UV) (Qa zh)) (UM zh) hmul) (Qa zh) zh) ?_;apply KL;apply Zs (λk ρ=>k<=n/\∃x3,ρ=[zd (.pub (.int (n:Nat))),zd _,zd (.pub (.list ((Ze n S k).map YE))),x3])
 case h1=>exact X6 (UP (UM zh) UV) (X7 (by lia) (by lia))
 case h0=>exact⟨JS _,_,rfl⟩
 case hst=>rintro k d ρ hk ⟨_,x3,rfl⟩;obtain⟨rfl,hlt⟩:=WK hk;refine⟨_,UT (Qa zh) zh,?_⟩;have hl:=R1 hS k;have hlo:=xn (W:=Ze n S k) (S:=S) (by rw[hl];exact hS) (λp=>QP ((O3 hS k).1 p) (by lia)) (by rw[hl];lia);exact Z7 (Kt (Kg (UP (UM zh) (UP (UM zh) UV)) zh hlo) (Qa zh) zh) (KU ⟨by lia,_,rfl⟩)
 case hend=>rintro ρ ⟨_,x3,rfl⟩;refine KI (Kk (UM rfl) ?_);rw[YX,show((n:Int)-0).toNat=n by lia]
def Bo  {i j:Nat}(hij:i<=j)(hj:j<=xs.length):DL.cutD xs (zd (i:Int)) (zd (j:Int))=(xs.take j).drop i:=by unfold DL.cutD HT.sIx;dsimp only;rw[QH (by lia),QH (by lia),QY,QY,Nat.min_eq_left hj,Nat.min_eq_left (show i<=xs.length by lia),List.drop_take]
def yU{w:List Stp}(hl:w.length<=1000):∃d,VY [.list (w.map U6)]=zd d/\∃r,d=.list (r.map U6)/\((HN w/\r=[]) ∨ ∃i j,Mm w i j/\r=(w.take (j+1)).drop i):=by
 refine XB (ρ:=[zd (.pub (.list (w.map U6))),zj,zj,zj]) zh ?_;unfold SJ;apply KL;apply Zs (λk ρ=>(∃x1 x2 x3,ρ=[zd (.pub (.list (w.map U6))),x1,x2,x3])/\∀j'<k,∀i' ≤ j',∀s t,w[i']?=zd s->w[j']?=zd t->s.a≠t.b)
 case h1=>exact Xc (UP (UM zh) UV) Xe
 case h0=>exact⟨⟨_,_,_,rfl⟩,λj' h=>absurd h (Je _)⟩
 case hst=>
  rintro k d ρ hk ⟨⟨x1,x2,x3,rfl⟩,hb⟩;obtain⟨z,hz,rfl⟩:=Xd hk;rw[Qd]at hz;cases ht:w[k]? with
  |none=>rw[ht]at hz;cases hz
  |some t=>
  rw[ht]at hz;cases hz;have zK:k<w.length:=(Qg.mp ht).1;rw[QU];refine⟨_,Km zh (UZ (UT (Qa zh) zh) (UZ (UT (Qa zh) zh) Kn)),?_⟩;unfold GD;apply Zs (λl ρ=>(∃x3,ρ=[zd (.pub (.list (w.map U6))),zd (.pub (.int (k:Nat))),zd (.pub (U6 t)),x3])/\∀i'<l,∀s,w[i']?=zd s->s.a≠t.b)
  case h1=>exact X6 (UP (U2 (UM zh) UW KW) UV) (X7 (by lia) (by lia))
  case h0=>exact⟨⟨_,rfl⟩,λi' h=>absurd h (Je _)⟩
  case hst=>
   rintro l d ρ hl2 ⟨⟨x3,rfl⟩,hc⟩;obtain⟨rfl,hlt⟩:=WK hl2;have hlk:l<=k:=by lia
   obtain⟨s,hs⟩:∃s,w[l]?=zd s:=⟨_,Qe (by lia)⟩
   refine⟨_,UT (Qa zh) zh,?_⟩;have zl:(0:Int)+(l:Int)=l:=by lia
   rw[zl];unfold GE;have il:oIx (.list (w.map U6)) (.int (l:Int))=zd (U6 s):=Zq (by rw[Qd,hs];rfl);have i0:oIx (U6 s) (.int 0)=zd (.int s.a):=Zq (j:=0) zh;have i1:oIx (U6 t) (.int 1)=zd (.int t.b):=Zq (j:=1) zh;apply Kw
   case h1=>exact U2 (U2 (Kr zh (UM zh) il) UW i0) (Kr zh UW i1) YI
   case h2=>
    intro hh;have hh:(s.a:Int)=(t.b:Int):=Qa hh;have zQ:Xm (.list (w.map U6)) (zd (l:Int)) (zd ((k:Int)+1))=zd (.list (((w.take (k+1)).drop l).map U6)):=by rw[Yg,show((k:Int)+1)=((k+1:Nat):Int)by lia,Bo (by lia) (by rw[Qb];lia),List.map_drop,List.map_take]
    refine Kk (Ye (UM zh) (ZE (UM zh)) (ZE (U2 (UM zh) UW KW)) zQ) (Vi (Vi (ZK ⟨_,rfl,_,rfl,.inr ⟨l,k,⟨hlk,zK,λs' t' e1 e2=>?_,hb⟩,rfl⟩⟩)));rw[hs]at e1;rw[ht]at e2;cases e1;cases e2
    lia
   case h3=>
    intro hh;refine KO (KU ⟨⟨_,rfl⟩,λi' hi' s' e=>?_⟩);rcases JW.mp hi' with hi'|rfl
    .exact hc i' hi' s' e
    .rw[hs]at e;cases e;lia
  case hend=>
   rintro ρ ⟨⟨x3,rfl⟩,hc⟩;refine KU ⟨⟨_,_,_,rfl⟩,λj' hj' i' hi' s' t' e1 e2=>?_⟩;rcases JW.mp hj' with hj'|rfl
   .exact hb j' hj' i' hi' s' t' e1 e2
   .rw[ht]at e2
    cases e2;exact hc i' (by rw[YX];lia) s' e1
 case hend=>rintro ρ ⟨⟨x1,x2,x3,rfl⟩,hb⟩;refine KI (Kk (KZ UV (Qa rfl)) ⟨_,rfl,[],rfl,.inl ⟨λj hj=>hb j (by rw[Yt,Qb];exact hj),rfl⟩⟩)
def X9(n:Nat)(s:Stp):Option (Nat×zx):=s.w.map λi=>(i,ZN n s.b)
noncomputable def YZ(p:Nat×zx):D:=.tuple [.int (p.1:Nat),Kb p.2]
noncomputable def rot(b:Nat)(r:List Stp):List Stp:=r.drop b++r.take b
def RV(b)(r):(rot b r).Perm r:=by have:=List.perm_append_comm (l₁:=r.drop b) (l₂:=r.take b);rw[J6]at this;exact this
def EZ{n:Nat}{r:List Stp}(hl:r.length<=1000):∃b,b<=r.length/\((∃s,r[b]?=zd s/\s.a=n)∨(b=0/\∀s∈r,s.a≠n))/\XZ [.int (n:Nat),.list (r.map U6)]=zd (.list (((rot b r).filterMap (X9 n)).map YZ)):=by
 have key:∃d,XZ [.int (n:Nat),.list (r.map U6)]=zd d/\∃b,b<=r.length/\((∃s,r[b]?=zd s/\s.a=n)∨(b=0/\∀s∈r,s.a≠n))/\d=.list (((rot b r).filterMap (X9 n)).map YZ):=by
  refine XB  rfl ?_;unfold SI;refine Kf (Kt UW (Qa zh) zh) ?_;apply KL;apply Zs (λk ρ=>∃(b:Nat)(x3 x4:Option Sl),ρ=[zd (.pub (.int (n:Nat))),zd (.pub (.list (r.map U6))),zd (.pub (.int (b:Nat))),x3,x4,zj,zj,zj,zj,zj]/\b<=r.length/\((∃s,r[b]?=zd s/\s.a=n)∨(b=0/\∀s∈r.take k,s.a≠n)))
  case h1=>exact Xc (UP (UM zh) UV) Xe
  case h0=>exact⟨0,_,_,rfl,JS _,.inr ⟨rfl,λs h=>by rw[List.take_zero]at h;cases h⟩⟩
  case hst=>
   rintro k d ρ hk ⟨b,x3,x4,rfl,ar,hb⟩;obtain⟨z,hz,rfl⟩:=Xd hk;rw[Qd]at hz;cases ht:r[k]? with
   |none=>rw[ht]at hz;cases hz
   |some t=>
   rw[ht]at hz;cases hz;have zK:k<r.length:=(Qg.mp ht).1;rw[QU];refine⟨_,Km zh (UZ (UT (Qa zh) zh) (UZ (UT (Qa zh) zh) Kn)),?_⟩;unfold Gm;have i0:oIx (U6 t) (.int 0)=zd (.int t.a):=Zq (j:=0) zh;apply Kw
   case h1=>exact U2 (Kr zh UW i0) (UM zh) YI
   case h2=>intro hh;have hh:(t.a:Int)=(n:Int):=Qa hh;exact Z7 (Kt (UM zh) (Qa zh) zh) (KU ⟨k,_,_,rfl,by lia,.inl ⟨t,ht,by lia⟩⟩)
   case h3=>
    intro hh;have hh:¬(t.a:Int)=(n:Int):=Q9 hh;refine KO (KU ⟨b,_,_,rfl,ar,?_⟩);rcases hb with hb|⟨hb,hc⟩
    .exact .inl hb
    .refine .inr ⟨hb,λs hs=>?_⟩
     rw[JN,ht]at hs;rcases QG.mp hs with hs|hs
     .exact hc s hs
     .rw[Qv.mp hs];lia
  case hend=>
   rintro ρ ⟨b,x3,x4,rfl,ar,hb⟩;refine KI ?_;have hb':(∃s,r[b]?=zd s/\s.a=n)∨(b=0/\∀s∈r,s.a≠n):=by rw[Yt,Qb,Jm]at hb;exact hb
   refine Kf (ZT (WO UV (Qa zh)) (Qa zh) zh) ?_;have c1:Xm (.list (r.map U6)) (zd (b:Int)) zj=zd (.list ((r.drop b).map U6)):=by rw[Yg,Ft (by rw[Qb];exact ar),List.map_drop]
   have c2:Xm (.list (r.map U6)) zj (zd (b:Int))=zd (.list ((r.take b).map U6)):=by rw[Yg,CW (by rw[Qb];exact ar),List.map_take]
   have c3:U1 (.list ((r.drop b).map U6)) (.list ((r.take b).map U6))=zd (.list ((rot b r).map U6)):=by rw[Xx (by rw[Qb,Qb,Ji,QT];lia)];unfold rot;rw[QA]
   apply KL;apply Zs (λk ρ=>∃x6 x7 x8 x9,ρ=[zd (.pub (.int (n:Nat))),zd (.pub (.list (r.map U6))),zd (.pub (.int (b:Nat))),x3,x4,zd (.own ((((rot b r).take k).filterMap (X9 n)).map YZ)),x6,x7,x8,x9])
   case h1=>exact K7 (U2 (Ye (UM zh) (ZE (UM zh)) UW c1) (Ye (UM zh) UW (ZE (UM zh)) c2) c3) Zh
   case h0=>exact⟨_,_,_,_,rfl⟩
   case hst=>
    rintro k d ρ hk ⟨x6,x7,x8,x9,rfl⟩;rw[Qd]at hk;cases hq:(rot b r)[k]? with
    |none=>rw[hq]at hk;cases hk
    |some s=>
    rw[hq]at hk;cases hk;have zK:k<(rot b r).length:=(Qg.mp hq).1;have am:(rot b r).length=r.length:=(RV b r).length_eq;have zW:(rot b r).take (k+1)=(rot b r).take k++[s]:=by rw[JN,hq];rfl
    refine⟨_,Km zh (UZ (UT (Qa zh) zh) (UZ (UT (Qa zh) zh) (UZ (UT (Qa zh) zh) (UZ (UT (Qa zh) zh) Kn)))),?_⟩;unfold Gn
    have hsz:((((rot b r).take k).filterMap (X9 n)).map YZ).length<1000000:=by
     rw[Qb];have:=Q7 (X9 n) ((rot b r).take k);rw[QT]at this
     lia
    cases hw:s.w with
    |none=>
     apply Kw
     case h1=>exact Kx (k:=λd=>!isNon d) (x:=Y6 zj) (UM zh)
     case h2=>intro hh;cases hh
     case h3=>
      intro _;refine KO (KU ⟨zd (.pub (.int s.a)),zd (.pub (.int s.b)),zd (.pub (.int s.g)),zd (.pub (Y6 zj)),?_⟩);rw[zW,List.filterMap_append];have:[s].filterMap (X9 n)=[]:=by unfold X9;rw[JB,hw];rfl
      rw[this,Jd];rfl
    |some i=>
     apply Kw
     case h1=>exact Kx (k:=λd=>!isNon d) (x:=Y6 (zd i)) (UM zh)
     case h3=>intro hh;cases hh
     case h2=>
      intro _
      have htest:∀ρ:UU,ρ[7]?=zd (zd (.pub (.int (s.b:Int))))->ρ[0]?=zd (zd (.pub (.int (n:Int))))->mIf (Zj oEq 7 (UL 0)) (UR .none) (UL 7) ρ=.ok (Kb (ZN n s.b)) ρ:=λρ h7 h0=>by
       unfold ZN;by_cases z:s.b=n
       .rw[Qu z]
        exact Ha (ZS h7 (UM h0) (by rw[YI,QW (by rw[z])])) UW
       .rw[QH z]
        exact NJ (ZS h7 (UM h0) (by rw[YI,QZ (by lia)])) (UM h7)
      refine Z7 (WG zh (Zk (UP (UM zh) (UP (htest _ zh zh) UV)) (Qa zh)) zh hsz zh) (KU ⟨zd (.pub (.int s.a)),zd (.pub (.int s.b)),zd (.pub (.int s.g)),zd (.pub (Y6 (zd i))),?_⟩);rw[zW,List.filterMap_append];have:[s].filterMap (X9 n)=[(i,ZN n s.b)]:=by unfold X9;rw[JB,hw];rfl
      rw[this,QA];rfl
   case hend=>rintro ρ ⟨x6,x7,x8,x9,rfl⟩;refine KI (Kk (Yi rfl rfl) ⟨_,rfl,b,ar,hb',?_⟩);rw[Qb,Jm]
 obtain⟨d,e,b,h1,h2,rfl⟩:=key;exact⟨b,h1,h2,e⟩
theorem Nk(n):∀(R:List Stp)(d),(R.filterMap (X9 n)).foldl (λd p=>d.set p.1 p.2) d=R.foldl (app n) d
 |[],d=>rfl
 |s::R,d=>by
  rw[Ju,JB];unfold X9 app;cases s.w with
  |none=>exact Nk n R d
  |some i=>exact Nk n R _
def F0{ws:LO}{tk:List (Nat×zx)}(h:∀p∈tk,p.1<ws.length):Wv [U9 ws,.list (tk.map YZ)]=zd (U9 (tk.foldl (λd p=>d.set p.1 p.2) ws)):=by
 refine KY  rfl ?_;unfold SQ;refine Kf (ZT (Mw zh (rfl)) (Qa zh) zh) ?_
 have hlen:∀(R:List (Nat×zx))(d:LO),(R.foldl (λd p=>d.set p.1 p.2) d).length=d.length:=λR=>by
  induction R with
  |nil=>intro d;rfl
  |cons p R ih=>intro d;rw[Ju,ih,Jc]
 apply KL;apply Zs (λk ρ=>∃x3 x4,ρ=[zd (.pub (U9 ws)),zd _,zd (.own (((tk.take k).foldl (λd p=>d.set p.1 p.2) ws).map Kb)),x3,x4])
 case h1=>exact K7 (UM zh) Zh
 case h0=>exact⟨_,_,rfl⟩
 case hst=>
  rintro k d ρ hk ⟨x3,x4,rfl⟩;rw[Qd]at hk;cases hq:tk[k]? with
  |none=>rw[hq]at hk;cases hk
  |some p=>
  rw[hq]at hk;cases hk;have hpl:=h p (Qq hq);have zW:tk.take (k+1)=tk.take k++[p]:=by rw[JN,hq];rfl
  refine⟨_,Km zh (UZ (UT (Qa zh) zh) (UZ (UT (Qa zh) zh) Kn)),?_⟩;unfold Gk;refine Z7 (ON (UM zh) zh (UM zh) zh ⟨Int.natCast_nonneg _,by rw[Qb,hlen];lia⟩ zh) (KU ⟨zd (.pub (.int (p.1:Nat))),zd (.pub (Kb p.2)),?_⟩);rw[zW,List.foldl_append];show [_,_,zd _,_,_]=[_,_,zd (Sl.own ((((tk.take k).foldl (λd p=>d.set p.1 p.2) ws).set p.1 p.2).map Kb)),_,_];rw[QY,List.map_set]
 case hend=>rintro ρ ⟨x3,x4,rfl⟩;refine KI (Kk (Yi rfl rfl) ?_);rw[Qb,Jm];rfl
def RN(cs:zo)(f:Int×Int->Int)(qs:LP)(ws:LO):Prop:=∀p,p<cs.length+1->(ent (Ze (cs.length+1) (Z9 cs f qs ws) (cs.length+1)) p).2.length≠cs.length+1
structure Oe(cs:zo)(f:Int×Int->Int)(qs:LP)(ws:LO)(r:List Stp)(b:Nat):Prop where
 rnd:∃x,Path (Z9 cs f qs ws) x r x
 nd:(r.map Stp.a).Nodup
 pos:0<KE r
 bl:b<=r.length
 bat:(∃s,r[b]?=zd s/\s.a=cs.length)∨(b=0/\∀s∈r,s.a≠cs.length)
def Yy(n b:Nat)(r:List Stp):List (Nat×zx):=(rot b r).filterMap (X9 n)
def T8(s)(R):KE (s::R)=s.g+KE R:=by show KE ([s]++R)=_;rw[Vr,RW]
def FZ  (h:u.Perm v):KE u=KE v:=by
 induction h with
 |nil=>rfl
 |cons x _ ih=>rw[T8,T8,ih]
 |swap x y l=>rw[T8,T8,T8,T8];lia
 |trans _ _ ih1 bq=>simp_all
def xm  (h:∀s∈R,s.g=0):KE R=0:=by
 induction R with
 |nil=>rfl
 |cons s R ih=>
  have e:KE (s::R)=s.g+KE R:=by show KE ([s]++R)=_;rw[Vr,RW]
  rw[e,h s Ql,ih λx hx=>h x (Qj _ hx)];rfl
section
variable{cs:zo}{ls:L3}{ws:LO}{V:Int->Int->Int}{qs:LP}{f:Int×Int->Int}{m:Nat}
def Oe.does(hp:ZD cs.length m qs)(hd:ZA cs qs m ws){r}{b:Nat}(h:Oe cs f qs ws r b):ZA cs qs m ((Yy cs.length b r).foldl (λd p=>d.set p.1 p.2) ws)/\Kc f 0 ((Yy cs.length b r).foldl (λd p=>d.set p.1 p.2) ws)=Kc f 0 ws+KE r/\Yy cs.length b r≠[]/\∀p∈Yy cs.length b r,p.1<ws.length:=by
 obtain⟨x,hx⟩:=h.rnd;have hin   :=λs hs=>Wd hp hd s (hx.mem s hs);have pr:=RV b r;have bG   :=λs hs=>hin s (pr.mem_iff.mp hs);have ndR   :=(pr.map Stp.a).nodup_iff.mpr h.nd;have pbR   :=((pr.map Stp.b).trans (MY hx)).trans (pr.map Stp.a).symm
 obtain⟨h1,h2⟩:=Fi hp hd bG ndR pbR;unfold Yy;rw[Nk];refine⟨h1,by rw[h2,FZ pr],λz=>?_,λp hpm=>?_⟩
 .have   :=xm λs hs=>by
   have hw   :=by have:=List.filterMap_eq_nil_iff.mp z s (pr.mem_iff.mpr hs);exact this
   cases hin s hs with
   |mv _ _ _=>cases hw
   |left _ _=>rfl
   |give _=>rfl
  have:=h.pos
  lia
 .obtain⟨s,hs,e⟩:=Jn.mp hpm
  cases bG s hs with
  |@mv i o o' hw _ _=>cases e;exact(Qg.mp hw).1
  |left _ _=>cases e
  |give _=>cases e
def EX(g:Good cs ls)(hm:ws.length=ls.length)(hp:ZD cs.length ws.length qs)(hd:ZA cs qs ws.length ws)(hq1:qs.length<=500):∃d,WY [Kq cs ls,.list (qs.map (ZF V)),U9 ws]=zd d/\((d=.list []/\RN cs (U4 V) qs ws) ∨ ∃r b,d=.list ((Yy cs.length b r).map YZ)/\Oe cs (U4 V) qs ws r b):=by
 refine XB  rfl ?_;unfold SH;have c6:=g.c6;have l7:=g.l7;have zU:Ki [.list (cs.map int)]=zd (.int cs.length):=by rw[K8,Qb]
 have hS:∀s∈Z9 cs (U4 V) qs ws,s.a<cs.length+1/\s.b<cs.length+1:=λs hs=>(Wd hp hd s hs).lt hp hd;have hwd:=F1 hS (by lia)
 have aH:=Le (V:=V) g hm hp hd (by lia);refine Kf (Kt (Zf (UP (Kr zh UW WB) UV) zU) (Qa zh) zh) ?_;have hadd:U1 (.int (cs.length:Int)) (.int 1)=zd (.int ((cs.length+1:Nat):Int)):=by rw[KW];rfl
 apply KL;apply Zs (λk ρ=>(∃x4 x5,ρ=[zd (.pub (Kq cs ls)),zd (.pub (.list (qs.map (ZF V)))),zd (.pub (U9 ws)),zd (.pub (.int cs.length)),x4,x5])/\∀p<k,(ent (Ze (cs.length+1) (Z9 cs (U4 V) qs ws) (cs.length+1)) p).2.length≠cs.length+1)
 case h1=>exact K7 (Kg (UP (U2 (UM zh) UW hadd) (UP (Kg (UP (UM zh) (UP (UM zh) (UP (UM zh) UV))) zh aH) UV)) zh hwd) Zh
 case h0=>exact⟨⟨_,_,rfl⟩,λp h=>absurd h (Je _)⟩
 case hst=>
  rintro k d ρ hk ⟨⟨x4,x5,rfl⟩,hb⟩;rw[Qd]at hk;cases hq:(Ze (cs.length+1) (Z9 cs (U4 V) qs ws) (cs.length+1))[k]? with
  |none=>rw[hq]at hk;cases hk
  |some e=>
  rw[hq]at hk;cases hk;have he:ent (Ze (cs.length+1) (Z9 cs (U4 V) qs ws) (cs.length+1)) k=e:=by unfold ent;rw[Qm,hq];rfl
  refine⟨_,Km zh (UZ (UT (Qa zh) zh) (UZ (UT (Qa zh) zh) Kn)),?_⟩;unfold GC;have bB:Ki [.list (e.2.map U6)]=zd (.int e.2.length):=by rw[K8,Qb]
  apply Kw
  case h1=>exact U2 (Zg zh bB) (U2 (UM zh) UW hadd) YI
  case h2=>
   intro hh;have hh:((e.2.length:Nat):Int)=((cs.length+1:Nat):Int):=Qa hh;have hlen:e.2.length=cs.length+1:=by lia
   obtain⟨d,hrw,r,rfl,hr⟩:=yU (w:=e.2) (by lia);have br:=PP hS (cs.length+1) k;rw[he]at br;obtain⟨q,az⟩:=br.1.path;rcases hr with ⟨hno,rfl⟩|⟨i,j,hra,rfl⟩
   .exact absurd hno (Fk hS az (by lia) (Jk _))
   .have hlr:((e.2.take (j+1)).drop i).length<=1000:=by rw[Ji,QT];lia
    obtain⟨b,ar,bR,aE⟩:=EZ (n:=cs.length) hlr;have hrg:=wC hS (Jk _) (p:=k) (by rw[he];exact hlen) (by rw[he];exact hra);rw[he]at hrg;obtain⟨x,hx,hgp⟩:=hrg;exact Kk (Kg (UP (UM zh) (UP (Kg (UP (UM zh) UV) zh hrw) UV)) zh aE) (Vi (ZK ⟨_,rfl,.inr ⟨_,b,rfl,⟨⟨x,hx⟩,wW az hra,hgp,ar,bR⟩⟩⟩))
  case h3=>
   intro hh;refine KO (KU ⟨⟨_,_,rfl⟩,λp bx=>?_⟩);rcases JW.mp bx with bx|rfl
   .exact hb p bx
   .rw[he];lia
 case hend=>rintro ρ ⟨⟨x4,x5,rfl⟩,hb⟩;refine KI (Kk (KZ UV (Qa rfl)) ⟨_,rfl,.inl ⟨rfl,λp hpn=>hb p ?_⟩⟩);rw[Qb,R1 hS];exact hpn
theorem NY{M:Int}(av:0<=M)(hM:∀q∈qs,f q<=M):∀(ws)(k:Nat),(∀(i:Nat) t,ws[i]?=zd (zd t)->(((k+i:Nat):Int),t)∈qs)->Kc f k ws<=ws.length*M
 |[],k,_=>by show(0)<=((0:Nat))*M;rw[show(((0:Nat)):Int)=0 from rfl,Int.zero_mul];exact Jb _
 |o::ws,k,h=>by
  have ih:=NY av hM ws (k+1) λi t e=>by have:=h (i+1) t (by simpa using e);rw[show k+1+i=k+(i+1)by lia];exact this
  have h0:Ko f k o<=M:=by
   cases o with
   |none=>exact av
   |some t=>exact hM _ (by have:=h 0 t zh;exact this)
  rw[QL];show Ko f k o+Kc f (k+1) ws<=_
  lia
theorem Ep(g:Good cs ls)(hm:m=ls.length)(hp:ZD cs.length m qs)(hq1:qs.length<=500){M:Int}(av:0<=M)(hM:∀q∈qs,U4 V q<=M):∀(N:Nat)(ws:LO)(d:D),ZA cs qs m ws->((d=.list []/\RN cs (U4 V) qs ws) ∨ ∃r b,d=.list ((Yy cs.length b r).map YZ)/\Oe cs (U4 V) qs ws r b) ->
  (m*M-Kc (U4 V) 0 ws<N)->∃ah,ZA cs qs m ah/\RN cs (U4 V) qs ah/\Wa (OK (UL 3)) OI N [zd (.pub (Kq cs ls)),zd (.pub (.list (qs.map (ZF V)))),zd (.pub (U9 ws)),zd (.pub d)]=.nx [zd (.pub (Kq cs ls)),zd (.pub (.list (qs.map (ZF V)))),zd (.pub (U9 ah)),zd (.pub (.list []))]
 |0,ws,d,hd,_,hN=>by have:=NY av hM ws 0 (λi t e=>by rw[QU];exact hd.wish i t e);rw[hd.len]at this;exact absurd hN (by lia)
 |N+1,ws,d,hd,hg,hN=>by
  rcases hg with ⟨rfl,hst⟩|⟨r,b,rfl,hgr⟩
  .refine⟨ws,hd,hst,?_⟩
   unfold Wa;rfl
  .obtain⟨h1,h2,h3,h4⟩:=hgr.does hp hd
   generalize hws':(Yy cs.length b r).foldl (λd p=>d.set p.1 p.2) ws=ah at h1 h2;have zM:=F0 h4;rw[hws']at zM;obtain⟨d',hgw,hg'⟩:=EX (V:=V) (ws:=ah) g (by rw[h1.len,hm]) (by rw[h1.len];exact hp) (by rw[h1.len];exact h1) hq1;obtain⟨ws2,k1,k2,k3⟩:=Ep g hm hp hq1 av hM N ah d' h1 hg' (by have:=hgr.pos;lia);refine⟨ws2,k1,k2,?_⟩;unfold Wa;rw[xY  (UM zh)]
   have hne:(!((Yy cs.length b r).map YZ).isEmpty)=zk:=by
    cases hw:Yy cs.length b r with
    |nil=>exact absurd hw h3
    |cons _ _=>rfl
   dsimp only;rw[Qu hne];have hb:Ho OI [zd (.pub (Kq cs ls)),zd (.pub (.list (qs.map (ZF V)))),zd (.pub (U9 ws)),zd (.pub (.list ((Yy cs.length b r).map YZ)))] (λo=>o=.nx [zd (.pub (Kq cs ls)),zd (.pub (.list (qs.map (ZF V)))),zd (.pub (U9 ah)),zd (.pub d')]):=by unfold OI;refine Kf (Kt (Kg (UP (UM zh) (UP (UM zh) UV)) zh zM) (Qa zh) zh) ?_;exact Z7 (Kt (Kg (UP (UM zh) (UP (UM zh) (UP (UM zh) UV))) zh hgw) (Qa zh) zh) zh
   rw[hb.out];exact k3
def wB(g:Good cs ls)(hp:ZD cs.length ls.length qs)(hq1:qs.length<=500){M:Int}(av:0<=M)(hM:∀q∈qs,U4 V q<=M)(hF:ls.length*M<10 ^ 60):∃d,VX [Kq cs ls,.list (qs.map (ZF V))]=zd d/\∃ws,d=U9 ws/\ZA cs qs ls.length ws/\RN cs (U4 V) qs ws:=by
 refine XB  rfl ?_;unfold SG;have l7:=g.l7;have zJ:Ki [.list (ls.map K9)]=zd (.int (ls.length:Nat)):=by rw[K8,Qb]
 let ws0:LO:=Ux ls.length zj
 have hmul:Ks (.list [.none]) (.int (ls.length:Nat))=zd (U9 ws0):=by rw[OQ (by lia)];show _=zd (Uy _);rw[JM];rfl
 have hd0:ZA cs qs ls.length ws0:=⟨by show(Ux _ _).length=_;rw[QF],(λi t h=>by
  rw[Qz]at h;split at h
  .cases h
  .cases h),λk c e=>by
  have h0:ws0.count (zd (k:Int))=0:=List.count_eq_zero.mpr λh=>by cases (List.mem_replicate.mp h).2
  rw[h0];have:=g.c7 c (Qq e)
  show(0:Int)<=c
  lia⟩
 refine Kf (Kt (U2 (KZ (UP UW UV) (Qa zh)) (Zf (UP (Kr zh UW WA) UV) zJ) hmul) (Qa zh) zh) ?_;obtain⟨d',hgw,hg'⟩:=EX (V:=V) (ws:=ws0) g hd0.len (by rw[hd0.len];exact hp) (by rw[hd0.len];exact hd0) hq1;refine Kf (Kt (Kg (UP (UM zh) (UP (UM zh) (UP (UM zh) UV))) zh hgw) (Qa zh) zh) ?_
 have h0:∀(n k:Nat),Kc (U4 V) k (Ux n zj)=0:=λn=>by
  induction n with
  |zero=>intro k;rfl
  |succ n ih=>intro k;rw[List.replicate_succ];show 0+Kc (U4 V) (k+1) (Ux n zj)=0;rw[ih];rfl
 have hfu:ls.length*M-Kc (U4 V) 0 ws0<(W6:Nat):=by
  have e:Kc (U4 V) 0 ws0=0:=h0 _ _;have e2:((W6:Nat):Int)=10 ^ 60:=by unfold W6;rfl
  rw[e,e2]
  lia
 obtain⟨ah,k1,k2,k3⟩:=Ep g zh hp hq1 av hM W6 ws0 d' hd0 hg' hfu;refine Kf k3 ?_;exact Kk (UM zh) ⟨_,rfl,ah,rfl,k1,k2⟩
end
section
variable{cs:zo}{ls:L3}
def xk{xs:zn}:DL.cutD xs (zd 1) zj=xs.drop 1:=by
 cases xs with
 |nil=>rfl
 |cons x r=>exact Ft (a:=1) (by simp)
end
section
variable{cs:zo}{ls:L3}{as ps:zo}
def BL(g:Good cs ls):(U7 0 ls).length<=42:=by rw[(T9 ls 0).length_eq];exact PK g
end
section
variable{cs:zo}{ls:L3}
def Pe(cs:zo)(ls:L3)(j:Nat)(d:D):Prop:=∃ws:LO,d=U9 ws/\ws.length=j/\(∀(i:Nat) t rs,ws[i]?=zd (zd t)->ls[i]?=zd rs->t∈rs.flatten)/\∀(k:Nat) c,cs[k]?=zd c->((ws.count (zd (k:Int)):Nat):Int)<=c
def Eo{ws:LO}{o}{rs}(hi:ls[ws.length]?=zd rs)(h1:∀(i:Nat) t rs,ws[i]?=zd (zd t)->ls[i]?=zd rs->t∈rs.flatten)(h2:∀(k:Nat) c,cs[k]?=zd c->((ws.count (zd (k:Int)):Nat):Int)<=c)(ho:∀t,o=zd t->t∈rs.flatten)(hc:∀(k:Nat) c,o=zd (k:Int)->cs[k]?=zd c->((ws.count (zd (k:Int)):Nat):Int)<c):Pe cs ls (ws.length+1) (.list (ws.map Kb++[Kb o])):=by
 refine⟨ws++[o],by unfold U9;rw[QA];rfl,by rw[Qi];rfl,kZ h1 hi ho,λk c e=>?_⟩;rw[List.count_append,List.count_singleton];split
 .rename_i z
  have:=hc k c (by simpa using z) e
  lia
 .have:=h2 k c e
  lia
end
section
variable{cs:zo}{ls:L3}
theorem MG:∀{a b:LO},a.map Kb=b.map Kb->a=b
 |[],[],_=>rfl
 |[],_::_,h=>by cases h
 |_::_,[],h=>by cases h
 |x::a,y::b,h=>by
  rw[QC,QC,List.cons.injEq]at h;rw[MG h.2];cases x with
  |none=>cases y with
   |none=>rfl
   |some _=>cases h.1
  |some _=>cases y with
   |none=>cases h.1
   |some _=>cases h.1;rfl
abbrev Pd(cs:zo)(ls:L3)(j:Nat)(ws:LO):Prop:=ws.length=j/\(∀(i:Nat) t rs,ws[i]?=zd (zd t)->ls[i]?=zd rs->t∈rs.flatten)/\∀(k:Nat) c,cs[k]?=zd c->((ws.count (zd (k:Int)):Nat):Int)<=c
abbrev LV(cs:zo)(ls:L3)(j:Nat)(ds:zn)(a:Nat)(es:zn):Prop:=∀a'<a,∀ws,ds[a']?=zd (U9 ws)->∀o,Pd cs ls (j+1) (ws++[o])->U9 (ws++[o])∈es
abbrev Dp(cs:zo)(ls:L3)(j:Nat)(ρ:UU):Prop:=∃(s1 x2 x3 x4 x5:Option Sl)(ds:zn),ρ=[zd (.pub (Kq cs ls)),s1,x2,x3,x4,x5]/\(s1=zd (.pub (.list ds))∨s1=zd (.own ds))/\ds.length<=4 ^ j/\(∀d∈ds,Pe cs ls j d)/\∀ws,Pd cs ls j ws->U9 ws∈ds
abbrev LB(cs:zo)(ls:L3)(j:Nat)(ds:zn)(a:Nat)(ρ:UU):Prop:=∃(es:zn)(y4 y5:Option Sl),ρ=[zd (.pub (Kq cs ls)),zd (.pub (.list ds)),zd (.pub (.int j)),zd (.own es),y4,y5]/\es.length<=4*a/\(∀d∈es,Pe cs ls (j+1) d)/\LV cs ls j ds a es
abbrev LA(cs:zo)(ls:L3)(j:Nat)(ds:zn)(ws th:LO)(a b:Nat)(ρ:UU):Prop:=∃(es:zn)(y5:Option Sl),ρ=[zd (.pub (Kq cs ls)),zd (.pub (.list ds)),zd (.pub (.int j)),zd (.own es),zd (.pub (U9 ws)),y5]/\es.length<=4*a+b/\(∀d∈es,Pe cs ls (j+1) d)/\LV cs ls j ds a es/\∀b'<b,∀u,th[b']?=zd u->Pd cs ls (j+1) (ws++[u])->U9 (ws++[u])∈es
def xj   {j}(h:Pd cs ls (j+1) (ws++[o])):Pd cs ls j ws:=by
 obtain⟨h1,h2,h3⟩:=h;refine⟨by simpa using h1,λi t rs e er=>?_,λk c e=>?_⟩
 .have hi:=(Qg.mp e).1
  exact h2 i t rs (by rw[Qw hi];exact e) er
 .have:=h3 k c e
  rw[List.count_append]at this
  lia
def jq(g:Good cs ls)(hn:cs.length<4)(hm:ls.length<=4):∃r,VL [Kq cs ls]=zd r/\∃ds,r=.list ds/\ds.length<=256/\(∀d∈ds,∃ws,d=U9 ws/\Deal cs ls ws)/\∀ws,Deal cs ls ws->U9 ws∈ds:=by
 refine XB (ρ:=[zd (.pub (Kq cs ls)),zj,zj,zj,zj,zj]) zh ?_;unfold Sr;refine Kf (ZT (WO (UP (KZ UV (Qa zh)) UV) (Qa zh)) (Qa zh) zh) ?_
 let S0:Option Sl:=zd (.pub (Kq cs ls))
 apply KL;apply Zs (Dp cs ls)
 case h1=>exact X6 (UP (Zf (UP (Kr zh UW WA) UV) K8) UV) (X7 (by rw[Qb];lia) (by lia))
 case h0=>
  refine⟨_,zj,zj,zj,zj,[.list []],rfl,.inr zh,Qp _,λd hd=>?_,λws hw=>?_⟩
  .rw[Qv.mp hd]
   exact⟨[],rfl,rfl,λi t rs e=>by simp at e,λk c e=>by have:=g.c7 c (List.mem_of_getElem? e);simp;lia⟩
  .rw[List.length_eq_zero_iff.mp hw.1]
   exact Qv.mpr zh
 case hst=>
  rintro j d ρ hj ⟨s1,x2,x3,x4,x5,ds,rfl,hs1,h4,hp,hall⟩;obtain⟨rfl,zL⟩:=WK hj;rw[Qb]at zL;have bE:j<ls.length:=by lia
  have h16:4 ^ j<=64:=by
   have:j=0∨j=1∨j=2∨j=3:=by lia
   rcases this with rfl|rfl|rfl|rfl<;>decide
  have hls:ls[j]?=zd ls[j]:=Qe bE;have gr:=g.rk _ (Jp bE);have hfl:=PV gr;refine⟨_,UT (Qa zh) zh,?_⟩;unfold HC;rw[Jv]
  let S2:Option Sl:=zd (.pub (.int j))
  refine Kf (ρ1:=[S0,s1,S2,zd (.own []),x4,x5]) (ZT (WO UV (Qa zh)) (Qa zh) zh) ?_
  let S1:Option Sl:=zd (.pub (.list ds))
  have hv:UL 1 [S0,s1,S2,zd (.own []),x4,x5]=.ok (.list ds) [S0,S1,S2,zd (.own []),x4,x5]:=by
   rcases hs1 with rfl|rfl
   .exact UM zh
   .exact Yi zh zh
  apply KL;apply Zs (LB cs ls j ds)
  case h1=>exact K7 hv Zh
  case h0=>exact⟨[],x4,x5,rfl,Qp _,(λd h=>by cases h),λa' h=>absurd h (Je _)⟩
  case hst=>
   rintro a d ρ ha ⟨es,y4,y5,rfl,he4,hep,aL⟩;have hal:a<ds.length:=(Qg.mp ha).1;obtain⟨ws,rfl,ak,aZ,aF⟩:=hp d (Qq ha);refine⟨_,UT (Qa zh) zh,?_⟩;unfold HD
   let S4:Option Sl:=zd (.pub (U9 ws))
   obtain⟨th,al⟩:∃th:LO,th=none::(YR ls[j].flatten).map zd:=⟨_,rfl⟩
   have aG:th.length<=4:=by rw[al,QL,Qb,(Wc _).length_eq];lia
   have hit:U1 (.list [.none]) (.list ((YR ls[j].flatten).map int))=zd (.list (th.map Kb)):=by rw[Xx (by rw[Qb,(Wc _).length_eq];show 1+_<=_;lia),al];show _=zd (Uy (.none::((YR ls[j].flatten).map zd).map Kb));rw[QO];rfl
   have hw:=Eb (cs:=cs) hls (by lia);apply Zs (LA cs ls j ds ws th a)
   case h1=>exact K7 (U2 (KZ (UP UW UV) (Qa zh)) (Kg (UP (UM zh) (UP (UM zh) UV)) zh hw) hit) Zh
   case h0=>exact⟨es,y5,rfl,he4,hep,aL,λb' h=>absurd h (Je _)⟩
   case hst=>
    rintro b d ρ hb ⟨fs,z5,rfl,hf4,hfp,hfh,bJ⟩;rw[Qd]at hb;cases hz:th[b]? with
    |none=>rw[hz]at hb;cases hb
    |some u=>
    rw[hz]at hb;cases hb;have ar:b<th.length:=(Qg.mp hz).1;refine⟨_,UT (Qa zh) zh,?_⟩;unfold HE;generalize hQ:To (LB cs ls j ds (a+1)) _=Q
    have bT:∀hg:Pe cs ls (j+1) (.list (ws.map Kb++[Kb u])),Ho (ZG 3 (UQ U1 (UL 4) (Kh (UO (UL 5) (UN))))) [S0,S1,S2,zd (.own fs),S4,zd (.pub (Kb u))] (To (LA cs ls j ds ws th a (b+1)) Q):=by
     intro hg;refine Z7 (WG zh (U2 (UM zh) (KZ (UP (UM zh) UV) (Qa zh)) (Xx (x:=ws.map Kb) (by rw[Qb];show _+1<=_;lia))) zh (by lia) zh) (KU ⟨fs++[.list (ws.map Kb++[Kb u])],zd (.pub (Kb u)),rfl,by rw[Qi];show _+1<=_;lia,λx hx=>?_,λa' h vs hv o ho=>Q0 _ (hfh a' h vs hv o ho),λb' h v hv hpv=>?_⟩)
     .rcases QG.mp hx with h|h
      .exact hfp x h
      .rw[Qv.mp h];exact hg
     .by_cases aN:b'=b
      .subst aN
       rw[hz]at hv;cases hv;refine QI _ (Qv.mpr ?_);unfold U9;rw[QA];rfl
      .exact Q0 _ (bJ b' (by lia) v hv hpv)
    cases u with
    |none=>
     refine Kw (b:=zk) (ρ1:=[S0,S1,S2,zd (.own fs),S4,zd (.pub .none)]) (WF (Kx (k:=isNon) (x:=PyData.none) (UM zh))) (λ_=>bT ?_) λz=>by cases z
     have:=Eo (o:=zj) (rs:=ls[j]) (by rw[ak];exact hls) aZ aF (λt e=>by cases e) (λk c e=>by cases e);rw[ak]at this;exact this
    |some t=>
     have htm:t∈ls[j].flatten:=by
      have hm:=Qq hz;rw[al]at hm;rcases QB.mp hm with h|h
      .cases h
      .obtain⟨t',ht',e⟩:=Qo.mp h
       cases e;exact(Wc _).mem_iff.mp ht'
     have htn:=gr.flat t htm;obtain⟨k,rfl⟩:∃k:Nat,t=k:=⟨t.toNat,by lia⟩
     have zK:k<cs.length:=by lia
     have hct:oIx (.list (cs.map int)) (.int (k:Int))=zd (.int (cs.getD k 0)):=OF zK;have hcg:cs[k]?=zd (cs.getD k 0):=by rw[Qm,Qe zK];rfl
     refine Kw (b:=decide (((ws.count (zd (k:Int)):Nat):Int)<cs.getD k 0)) (ρ1:=[S0,S1,S2,zd (.own fs),S4,zd (.pub (.int k))]) (Yk (Kx (k:=isNon) (x:=int k) (UM zh)) (U2 (OW (UM zh) (UP (UM zh) UV) O4) (U2 (Kr zh UW WB) (UM zh) hct) zh)) (λhh=>bT ?_) λhh=>?_
     .have hlt:((ws.count (zd (k:Int)):Nat):Int)<cs.getD k 0:=Qa hh
      have:=Eo (cs:=cs) (o:=zd (k:Int)) (rs:=ls[j]) (by rw[ak];exact hls) aZ aF (λt' e=>by cases e;exact htm) (λk' c e ec=>by
       have e2:k=k':=by injection e with e;lia
       subst e2;rw[hcg]at ec;cases ec;exact hlt)
      rw[ak]at this;exact this
     .refine KO (KU ⟨fs,zd (.pub (.int k)),rfl,by lia,hfp,hfh,λb' h v hv hpv=>?_⟩)
      by_cases aN:b'=b
      .subst aN
       rw[hz]at hv;cases hv;have h1:=hpv.2.2 k _ hcg;rw[List.count_append,List.count_singleton]at h1;have h2:=Q9 hh;rw[if_pos (by simp)]at h1
       lia
      .exact bJ b' (by lia) v hv hpv
   case hend=>
    rintro ρ ⟨fs,z5,rfl,hf4,hfp,hfh,bJ⟩;rw[Qb]at hf4 bJ;refine KU ⟨fs,_,_,rfl,by lia,hfp,λa' h vs hv o ho=>?_⟩;by_cases haa:a'=a
    .subst haa
     rw[ha]at hv;have e:ws=vs:=MG (by injection hv with hv;exact(PyData.list.injEq _ _).mp hv);subst e
     have bA:o∈th:=by
      rw[al];cases o with
      |none=>exact Ql
      |some t=>have:=ho.2.1 ws.length t ls[j] (by rw[Qx (Qp _),Nat.sub_self];rfl) (by rw[ak];exact hls);exact Qj _ (List.mem_map_of_mem ((Wc _).mem_iff.mpr this))
     obtain⟨b',hb',e⟩:=List.mem_iff_getElem.mp bA;exact bJ b' hb' o (by rw[Qe hb',e]) ho
    .exact hfh a' (by lia) vs hv o ho
  case hend=>
   rintro ρ ⟨es,y4,y5,rfl,he4,hep,aL⟩;refine KI (Z7 (Kt (Yi rfl rfl) (Qa rfl) rfl) (KU ⟨_,_,_,_,_,es,rfl,.inl rfl,?_,hep,λvs hv=>?_⟩))
   .rw[Nat.pow_succ]
    lia
   .rcases List.eq_nil_or_concat vs with rfl|⟨ws,o,rfl⟩
    .have:=hv.1;cases this
    .rw[List.concat_eq_append]at hv⊢
     obtain⟨a',ha',e⟩:=List.mem_iff_getElem.mp (hall ws (xj hv));exact aL a' ha' ws (by rw[Qe ha',e]) o hv
 case hend=>
  rintro ρ ⟨s1,x2,x3,x4,x5,ds,rfl,hs1,h4,hp,hall⟩;rw[YX,Qb,show((ls.length:Int)-0).toNat=ls.length by lia]at h4 hp hall
  have h64:4 ^ ls.length<=256:=by
   have:=g.l1;have:ls.length=1∨ls.length=2∨ls.length=3∨ls.length=4:=by lia
   rcases this with e|e|e|e<;>rw[e]<;>decide
  have fin:∃d,(Out.rt (.list ds))=.rt d/\∃ds,d=.list ds/\ds.length<=256/\(∀d∈ds,∃ws,d=U9 ws/\Deal cs ls ws)/\∀ws,Deal cs ls ws->U9 ws∈ds:=⟨_,rfl,ds,rfl,by lia,(λd hd=>by obtain⟨ws,e,h1,h2,h3⟩:=hp d hd;exact⟨ws,e,⟨h1,h2,h3⟩⟩),λws dw=>hall ws ⟨dw.len,dw.wish,dw.cop⟩⟩
  rcases hs1 with rfl|rfl
  .exact KI (Kk (UM zh) fin)
  .exact KI (Kk (Yi zh zh) fin)
end
section
variable{cs:zo}{ls:L3}{ws:LO}{qs:LP}{V:Int->Int->Int}
def prW(cs:zo)(f:Int×Int->Int)(qs:LP)(ws:LO)(p:Nat):Int:=(ent (Ze (cs.length+1) (Z9 cs f qs ws) (cs.length+1)) p).1
def xi(g:Good cs ls)(hp:ZD cs.length ls.length qs)(hd:ZA cs qs ls.length ws)(hq1:qs.length<=500):VW [Kq cs ls,.list (qs.map (ZF V)),U9 ws]=zd (.list (((Uw cs.length).map (prW cs (U4 V) qs ws)).map int)):=by
 refine KY  rfl ?_;unfold SF;have c6:=g.c6;have hS:∀s∈Z9 cs (U4 V) qs ws,s.a<cs.length+1/\s.b<cs.length+1:=λs hs=>(Wd hp hd s hs).lt hp hd;have zU:Ki [.list (cs.map int)]=zd (.int cs.length):=by rw[K8,Qb]
 have has:YQ [Kq cs ls,.list (qs.map (ZF V)),U9 ws]=zd (.list ((Z9 cs (U4 V) qs ws).map U6)):=Le g hd.len (by rw[hd.len];exact hp) (by rw[hd.len];exact hd) (by lia);have hwd:=F1 hS (by lia);generalize hT:Ze (cs.length+1) (Z9 cs (U4 V) qs ws) (cs.length+1)=T at hwd;have au:T.length=cs.length+1:=by rw[←hT];exact R1 hS _
 refine Kf (Kt (Zf (UP (Kr zh UW WB) UV) zU) (Qa zh) zh) ?_;refine Kf (Kt (Kg (UP (U2 (UM zh) UW KW) (UP (Kg (UP (UM zh) (UP (UM zh) (UP (UM zh) UV))) zh has) UV)) zh hwd) (Qa zh) zh) ?_
 have hcd:DL.cutD (T.map YE) zj (zd (cs.length:Int))=(T.take cs.length).map YE:=by
  have h2:HT.sIx (T.map YE).length (T.map YE).length (zd (cs.length:Int))=cs.length:=by
   rw[Qb,au];unfold HT.sIx;simp
   lia
  unfold DL.cutD;rw[h2,show HT.sIx (T.map YE).length 0 zj=0 from rfl,List.drop_zero,Nat.sub_zero,List.map_take]
 have zQ:Xm (.list (T.map YE)) zj (zd (cs.length:Int))=zd (.list ((T.take cs.length).map YE)):=by rw[Yg,hcd]
 have hc:K6 (gT 2 (gNC (gN 5) (gNC (gN 6) (gN0)))) (UR zk) (UL 5) ((T.take cs.length).map YE) (KD [zd (.pub (Kq cs ls)),zd (.pub (.list (qs.map (ZF V)))),zd (.pub (U9 ws)),zd (.pub (.int cs.length)),zd (.pub (.list (T.map YE)))]++Ux 2 zj) []=zd ([]++((Uw cs.length).map (prW cs (U4 V) qs ws)).map int):=by
  refine XG (λρ=>∃x y,ρ=[zd (.pub (Kq cs ls)),zd (.pub (.list (qs.map (ZF V)))),zd (.pub (U9 ws)),zd (.pub (.int cs.length)),zd (.pub (.list (T.map YE))),x,y]) _ _ _ _ ?_ ?_ ⟨zj,zj,rfl⟩ ?_
  .rw[Qb,Qb,Qb,QT,Qs];lia
  .rintro i d e hd' he ρ ⟨x,y,rfl⟩
   rw[Qd,Qd]at he
   have zG:i<cs.length:=by
    have:=(Qg.mp hd').1;rw[Qb,QT]at this
    lia
   rw[QR zG]at he;cases he;rw[Qd,List.getElem?_take_of_lt zG,Qe (by lia)]at hd';cases hd';have hv:prW cs (U4 V) qs ws i=T[i].1:=by unfold prW ent;rw[hT,Qm,Qe (by lia)];rfl
   rw[hv];exact⟨_,Km zh (UZ (UT (Qa zh) zh) (UZ (UT (Qa zh) zh) Kn)),rfl,UM zh,_,_,rfl⟩
  .rw[Qt,Qb,QT];lia
 exact Kk (Kx (Zl (K7 (Ye (UM zh) UW (ZE (UM zh)) zQ) Zh) hc)) zh
def BK{n m:Nat}(hp:ZD n m qs)(hm:m<=1000)(P:Nat->Int):VU [.int (m:Nat),.list (qs.map (ZF V)),.list (((Uw n).map P).map int)]=zd (.list (((Uw m).map λi:Nat=>Z0 (U4 V) P qs (i:Int)).map int)):=by
 refine KY  rfl ?_;unfold SE;refine Kf (ZT (Mk (n:=m) (KZ (UP UW UV) (Qa zh)) (UM zh) hm) (Qa zh) zh) ?_;apply KL;apply Zs (λk ρ=>∃x4 x5 x6,ρ=[zd (.pub (.int (m:Nat))),zd (.pub (.list (qs.map (ZF V)))),zd (.pub (.list (((Uw n).map P).map int))),zd (.own (((Uw m).map λi:Nat=>Z0 (U4 V) P (qs.take k) (i:Int)).map int)),x4,x5,x6])
 case h1=>exact K7 (UM zh) Zh
 case h0=>
  refine⟨zj,zj,zj,?_⟩
  have e:(Ux m (int 0))=((Uw m).map λi:Nat=>Z0 (U4 V) P (qs.take 0) (i:Int)).map int:=by
   rw[QO];apply List.ext_getElem
   .rw[QF,Qb,Qs]
   .intro i h1 h2
    rw[List.getElem_replicate,JZ];rfl
  rw[←e];rfl
 case hst=>
  rintro k d ρ hk ⟨x4,x5,x6,rfl⟩;rw[Qd]at hk;cases hq:qs[k]? with
  |none=>rw[hq]at hk;cases hk
  |some q=>
  rw[hq]at hk;cases hk;have hb:=hp.lo q (Qq hq);obtain⟨⟨a,ha⟩,⟨t,ht⟩⟩:(∃a:Nat,q.1=a)/\∃t:Nat,q.2=t:=⟨⟨q.1.toNat,by lia⟩,⟨q.2.toNat,by lia⟩⟩
  have ham:a<m:=by lia
  have htn:t<n:=by lia
  refine⟨_,Km zh (UZ (UT (Qa zh) zh) (UZ (UT (Qa zh) zh) (UZ (UT (Qa zh) zh) Kn))),?_⟩;unfold Gi;have h1:oIx (.list (((Uw m).map λi:Nat=>Z0 (U4 V) P (qs.take k) (i:Int)).map int)) (.int q.1)=zd (.int (Z0 (U4 V) P (qs.take k) (a:Int))):=by rw[ha];exact Zq (by rw[Qd,Qd,QR ham];rfl)
  have h2:oIx (.list (((Uw n).map P).map int)) (.int q.2)=zd (.int (P t)):=by rw[ht];exact Zq (by rw[Qd,Qd,QR htn];rfl)
  refine Z7 (ON (Zf (UP (Vk zh (UM zh) zh h1) (UP (U2 (UM zh) (Kr zh (UM zh) h2) YT) UV)) Ml) zh (UM zh) zh ⟨hb.1,by rw[Qb,Qb,Qs];exact hb.2.1⟩ zh) (KU ⟨zd (.pub (.int q.1)),zd (.pub (.int q.2)),zd (.pub (.int (V q.1 q.2))),?_⟩);have e:∀i:Nat,Z0 (U4 V) P (qs.take (k+1)) (i:Int)=if q.1=(i:Int)then max (Z0 (U4 V) P (qs.take k) (i:Int)) (U4 V q-P q.2.toNat)else Z0 (U4 V) P (qs.take k) (i:Int):=λi=>by unfold Z0;rw[List.take_add_one,hq,List.foldl_append];rfl
  have e2:((((Uw m).map λi:Nat=>Z0 (U4 V) P (qs.take k) (i:Int)).map int).set q.1.toNat (.int (if V q.1 q.2-P t > Z0 (U4 V) P (qs.take k) (a:Int)then V q.1 q.2-P t else Z0 (U4 V) P (qs.take k) (a:Int))))=((Uw m).map λi:Nat=>Z0 (U4 V) P (qs.take (k+1)) (i:Int)).map int:=by
   apply List.ext_getElem
   .rw[Jc,Qb,Qb,Qb,Qb]
   .intro i h1 h2
    rw[List.getElem_set,JZ,JZ,JZ,JZ,List.getElem_range,e];by_cases bH:a=i
    .subst bH
     rw[Qu (by lia),Qu ha,show q.2.toNat=t by lia]
     congr 1
     show _=max _ (V q.1 q.2-P t)
     split<;>lia
    .rw[QH (by lia),QH (by lia)]
  rw[←e2];rfl
 case hend=>rintro ρ ⟨x4,x5,x6,rfl⟩;refine KI (Kk (Yi rfl rfl) ?_);rw[Qb,Jm]
abbrev askL(m:Nat)(f:Int×Int->Int)(P:Nat->Int)(qs:LP):zo:=(Uw m).map λi:Nat=>Z0 f P qs (i:Int)
def P4(g:Good cs ls):ZD cs.length ls.length (U7 0 ls) where
 nd:=EF ls 0 λrs hr=>(g.rk rs hr).once
 lo:=λq hq=>by have:=HR g q hq;simp_all
end
section
variable{cs:zo}{ls:L3}{ws:LO}{o:Ord}{old:zC}{ts:zo}
def Nj(h:ZA cs (U7 0 ls) ls.length ws):Deal cs ls ws where
 len:=h.len
 wish:=λi t rs hw hrs=>by
  obtain⟨i',rs',h1,h2,h3⟩:=TB (h.wish i t hw);have hii:i=i':=by lia
  subst hii;rw[hrs]at h1;cases h1;exact h3
 cop:=h.cop
theorem NX(ls):∀(ws)(l2)(k:Nat),(∀(j:Nat) rs,l2[j]?=zd rs->ls.getD (k+j) []=rs)->ws.length=l2.length->Kc (U4 (Kj ls o old ts)) k ws=ZI (YC (Zu ls o old ts) k l2 ws)
 |[],[],_,_,_=>rfl
 |[],_::_,_,_,h=>by cases h
 |_::_,[],_,_,h=>by cases h
 |x::ws,rs::l2,k,hj,hl=>by
  have ih:=NX ls ws l2 _ (λj r h=>by rw[show k+1+j=k+(j+1)by lia];exact hj _ r h) (by simpa using hl);show Ko _ k x+Kc _ _ ws=ZI (x.map _::YC _ _ l2 ws);rw[F6,ih]
  congr 1
  cases x with
  |none=>rfl
  |some t=>show Kj ls o old ts (k) t=Zu ls o old ts k rs t;unfold Kj;rw[QY,show ls.getD k []=rs from hj 0 rs zh]
end
section
variable{cs:zo}{ls:L3}{o:Ord}{old:zC}{ts:zo}{ws:LO}
def RU(du:Deal cs ls ws):ZA cs (U7 0 ls) ls.length ws:=⟨du.len,λi t h=>by
 have zG:i<ls.length:=by have:=(Qg.mp h).1;have:=du.len;lia
 have hrs   :=Qe zG;have:=MN (k:=0) hrs (du.wish i t _ h hrs);simp_all,du.cop⟩
end
theorem HK  : ∀(n),(∀k,k<n->f k<=h k)->(Zn n f=Zn n h ↔ ∀k,k<n->f k=h k)
 |0,_=>⟨λ_ k hk=>absurd hk (Je _),λ_=>rfl⟩
 |n+1,h0=>by
  have ih:=HK n λk hk=>h0 k (by lia)
  have l:=PJ n λk hk=>h0 k (JU hk);have ln:=h0 n (JJ _);rw[Vt,Vt]
  refine⟨λe k hk=>?_,λe=>?_⟩
  .by_cases z:k=n
   .lia
   .exact ih.mp (by lia) k (by lia)
  .rw[ih.mpr λk hk=>e k (by lia),e n (JJ _)]
theorem Fh{f:Int×Int->Int}{ps:zo}{tm:Int}:∀(ws:LO)(as:zo)(k:Nat),as.length=ws.length->(∀a∈as,0<=a)->(∀(i:Nat) t,ws[i]?=zd (zd t)->tm*f (((k+i:Nat):Int),t)<=as.getD i 0+ps.getD t.toNat 0) ->
  tm*Kc f k ws<=as.sum+pz ps ws/\(tm*Kc f k ws=as.sum+pz ps ws ↔ (∀(i:Nat) t,ws[i]?=zd (zd t)->tm*f (((k+i:Nat):Int),t)=as.getD i 0+ps.getD t.toNat 0)/\∀i:Nat,ws[i]?=zd zj->as.getD i 0=0)
 |[],[],k,_,_,_=>⟨by show tm*0<=0+0;lia,λ_=>⟨λi t h=>by simp at h,λi h=>by simp at h⟩,λ_=>by show tm*0=0+0;lia⟩
 |[],_::_,_,h,_,_=>by cases h
 |_::_,[],_,h,_,_=>by cases h
 |o::ws,a::as,k,hl,ha,h=>by
  obtain⟨ih1,bq⟩:=Fh (f:=f) (ps:=ps) (tm:=tm) ws as (k+1) (by simpa using hl) (λx hx=>ha x (List.mem_cons_of_mem _ hx)) λi t e=>by have:=h (i+1) t (by simpa using e);rw[show k+(i+1)=k+1+i by lia]at this;simpa using this
  have e2:(a::as).sum=a+as.sum:=by simp
  have ga:∀i:Nat,(a::as).getD (i+1) 0=as.getD i 0:=λi=>by simp
  have a0:=ha a Ql;rw[e2];cases o with
  |none=>
   have e1:Kc f k (none::ws)=0+Kc f (k+1) ws:=rfl;have e3:pz ps (none::ws)=0+pz ps ws:=rfl;rw[e1,e3,Jv,Jv];refine⟨by lia,λe=>?_,λ⟨e4,e5⟩=>?_⟩
   .obtain⟨c1,c2⟩:=bq.mp (by lia)
    refine⟨λi t hi=>?_,λi hi=>?_⟩
    .cases i with
     |zero=>cases hi
     |succ i=>have:=c1 i t (by simpa using hi);rw[show k+(i+1)=k+1+i by lia,ga];exact this
    .cases i with
     |zero=>show a=0;lia
     |succ i=>rw[ga];exact c2 i (by simpa using hi)
   .have h0:a=0:=e5 0 zh
    have:=bq.mpr ⟨λi t hi=>by have:=e4 (i+1) t (by simpa using hi);rw[show k+(i+1)=k+1+i by lia,ga]at this;exact this,λi hi=>by have:=e5 (i+1) (by simpa using hi);rwa[ga]at this⟩
    lia
  |some t=>
   have e1:Kc f k (zd t::ws)=f ((k:Int),t)+Kc f (k+1) ws:=rfl;have e3:pz ps (zd t::ws)=ps.getD t.toNat 0+pz ps ws:=rfl;have h0:=h 0 t zh;have h0:tm*f ((k:Int),t)<=a+ps.getD t.toNat 0:=h0;rw[e1,e3,Int.mul_add];refine⟨by lia,λe=>?_,λ⟨e4,e5⟩=>?_⟩
   .obtain⟨c1,c2⟩:=bq.mp (by lia)
    refine⟨λi u hi=>?_,λi hi=>?_⟩
    .cases i with
     |zero=>cases hi;show tm*f ((k:Int),t)=a+ps.getD t.toNat 0;lia
     |succ i=>have:=c1 i u (by simpa using hi);rw[show k+(i+1)=k+1+i by lia,ga];exact this
    .cases i with
     |zero=>cases hi
     |succ i=>rw[ga];exact c2 i (by simpa using hi)
   .have h0:tm*f ((k:Int),t)=a+ps.getD t.toNat 0:=e4 0 t zh
    have:=bq.mpr ⟨λi t hi=>by have:=e4 (i+1) t (by simpa using hi);rw[show k+(i+1)=k+1+i by lia,ga]at this;exact this,λi hi=>by have:=e5 (i+1) (by simpa using hi);rwa[ga]at this⟩
    lia
structure RM(cs:zo)(f:Int×Int->Int)(tm:Int)(as ps:zo)(ws:LO):Prop where
 got:∀(i:Nat) t,ws[i]?=zd (zd t)->tm*f ((i:Int),t)=as.getD i 0+ps.getD t.toNat 0
 non:∀i:Nat,ws[i]?=zd zj->as.getD i 0=0
 all:∀k,k<cs.length->ps.getD k 0=0∨((ws.count (zd (k:Int)):Nat):Int)=cs.getD k 0
section
variable{cs:zo}{f:Int×Int->Int}{qs:LP}{m:Nat}{ws:LO}{tm:Int}{as ps:zo}
def Ni(hp:ZD cs.length m qs)(hd:ZA cs qs m ws)(ok:OkP cs.length m (λa b=>f (a,b)) qs tm as ps):tm*Kc f 0 ws<=Xk cs as ps/\(tm*Kc f 0 ws=Xk cs as ps ↔ RM cs f tm as ps ws):=by
 obtain⟨h1,h2⟩:=Fh (f:=f) (ps:=ps) (tm:=tm) ws as 0 (by rw[ok.la,hd.len]) ok.aa λi t e=>by rw[QU];exact ok.le _ (hd.wish i t e)
 simp only[QU]at h2;have aG:∀t,zd t∈ws->0<=t/\t<cs.length:=λt ht=>by obtain⟨i,hi⟩:=List.mem_iff_getElem?.mp ht;have:=hp.lo _ (hd.wish i t hi);exact⟨this.2.2.1,this.2.2.2⟩
 have bx:∀k,k<cs.length->0<=ps.getD k 0:=λk hk=>by rw[Qm,Qe (by rw[ok.lp];exact hk)];exact ok.pp _ (Jp _)
 have bN:∀k,k<cs.length->((ws.count (zd (k:Int)):Nat):Int)<=cs.getD k 0:=λk hk=>hd.cop k _ (by rw[Qm,Qe hk];rfl)
 have hle   :=λk hk=>Int.mul_le_mul_of_nonneg_right (bN k hk) (bx k hk);have s1:=PJ cs.length hle;have s2:=HK cs.length hle;have ec:Xk cs as ps=as.sum+Zn cs.length λk=>cs.getD k 0*ps.getD k 0:=by unfold Xk;rw[EE _ _ ok.lp]
 rw[ec];rw[MQ ws aG]at h1 h2;refine⟨by lia,λe=>?_,λh=>?_⟩
 .obtain⟨c1,c2⟩:=h2.mp (by lia)
  refine⟨c1,c2,λk hk=>?_⟩;have e3:=s2.mp (by lia) k hk;by_cases z:ps.getD k 0=0
  .exact .inl z
  .exact .inr (Int.eq_of_mul_eq_mul_right z e3)
 .have e1:=h2.mpr ⟨h.got,h.non⟩
  have e3:=s2.mpr λk hk=>by
   rcases h.all k hk with z|z
   .rw[z,Ub,Ub]
   .rw[z]
  lia
end
abbrev Y7:=List (Nat×List Stp)
noncomputable def Ky(R:Y7)(p:Nat):Bool:=R.any λx=>x.1==p
noncomputable def WJ(R:Y7)(p:Nat):List Stp:=((R.find? λx=>x.1==p).map (·.2)).getD []
noncomputable def Zz(R:Y7)(s:Stp):Y7:=if Ky R s.a && !Ky R s.b then R++[(s.b,WJ R s.a++[s])]else R
noncomputable def Yb(T:List Stp)(q:Nat):Nat->Y7
 |0=>[(q,[])]
 |t+1=>T.foldl Zz (Yb T q t)
def P0   : Ky R p=zk ↔ ∃w,(p,w)∈R:=by
 unfold Ky;constructor
 .simp_all
 simp_all
def O1   (h:Ky R p=zk):(p,WJ R p)∈R:=by
 obtain⟨w,hw⟩:=P0.mp h;unfold WJ;cases e:R.find? λx=>x.1==p with
 |none=>have:=Ug.mp e _ hw;simp at this
 |some x=>
  have h1:=List.mem_of_find?_eq_some e;have h2:=List.find?_some e;have h2   :=by simpa using h2
  subst h2;exact h1
structure RdOk(T:List Stp)(q:Nat)(R:Y7):Prop where
 pth:∀x∈R,Path T q x.2 x.1
 nd:∀x∈R,(q::x.2.map Stp.b).Nodup
 cl:∀x∈R,∀y∈q::x.2.map Stp.b,Ky R y=zk
def MF    : Ky (R++[x]) p=(Ky R p || x.1==p):=by unfold Ky;simp
def BJ  {q:Nat}{R:Y7}{s:Stp}(hs:s∈T)(k:RdOk T q R):RdOk T q (Zz R s)/\(∀p,Ky R p=zk->Ky (Zz R s) p=zk)/\(Ky R s.a=zk->Ky (Zz R s) s.b=zk):=by
 unfold Zz;by_cases c:(Ky R s.a && !Ky R s.b)=zk
 .rw[Qu c]
  obtain⟨c1,c2⟩:=JV.mp c;have c2   :=by simpa using c2
  have hm:=O1 c1;have k1:=k.pth _ hm;have k2:=k.nd _ hm;have k3:=k.cl _ hm;have up:∀p,Ky R p=zk->Ky (R++[(s.b,WJ R s.a++[s])]) p=zk:=λp h=>by rw[MF,h];rfl
  have e:q::((WJ R s.a++[s]).map Stp.b)=(q::(WJ R s.a).map Stp.b)++[s.b]:=by rw[QA];rfl
  refine⟨⟨λx hx=>?_,λx hx=>?_,λx hx y hy=>?_⟩,up,λ_=>by rw[MF];simp⟩
  .rcases QG.mp hx with h|h
   .exact k.pth x h
   .cases Qv.mp h
    exact k1.append (.cons hs (.nil _))
  .rcases QG.mp hx with h|h
   .exact k.nd x h
   .cases Qv.mp h
    rw[e];refine List.nodup_append.mpr ⟨k2,by simp,λa ha b hb z=>?_⟩;rw[Qv.mp hb]at z;rw[z]at ha;have:=k3 _ ha;rw[c2]at this;cases this
  .rcases QG.mp hx with h|h
   .exact up y (k.cl x h y hy)
   .cases Qv.mp h
    rw[e]at hy;rcases QG.mp hy with hy|hy
    .exact up y (k3 y hy)
    .rw[MF,List.mem_singleton.mp hy];simp
 .rw[QH c]
  refine⟨k,λ_ h=>h,λh=>?_⟩;cases z:Ky R s.b with
  |true=>rfl
  |false=>rw[h,z]at c;exact absurd zh c
theorem NW   : ∀(X:List Stp)(R),(∀s∈X,s∈T)->RdOk T q R->RdOk T q (X.foldl Zz R)/\(∀p,Ky R p=zk->Ky (X.foldl Zz R) p=zk)/\∀s∈X,Ky R s.a=zk->Ky (X.foldl Zz R) s.b=zk
 |[],R,_,k=>⟨k,λ_ h=>h,λs hs=>by simp_all⟩
 |s::X,R,h,k=>by
  obtain⟨k1,k2,k3⟩:=BJ (h s Ql) k;obtain⟨f1,f2,f3⟩:=NW X _ (λx hx=>h x (Qj _ hx)) k1;refine⟨f1,λp hp=>f2 p (k2 p hp),λx hx ha=>?_⟩;rcases QB.mp hx with rfl|hx
  .exact f2 _ (k3 ha)
  .exact f3 x hx (k2 _ ha)
theorem Nh(T)(q:Nat):∀t,RdOk T q (Yb T q t)/\∀w p,Path T q w p->w.length<=t->Ky (Yb T q t) p=zk
 |0=>by
  refine⟨⟨λx hx=>?_,λx hx=>?_,λx hx y hy=>?_⟩,λw p h hl=>?_⟩
  .cases Qv.mp hx;exact .nil q
  .cases List.mem_singleton.mp hx;simp
  .cases Qv.mp hx
   cases Qv.mp hy;exact P0.mpr ⟨[],Qv.mpr zh⟩
  .have:w=[]:=List.eq_nil_of_length_eq_zero (by lia)
   subst this;cases h;exact P0.mpr ⟨[],Qv.mpr zh⟩
 |t+1=>by
  obtain⟨k,ih⟩:=Nh T q t;obtain⟨f1,f2,f3⟩:=NW T _ (λ_ h=>h) k;refine⟨f1,λw p h hl=>?_⟩;by_cases c:w.length<=t
  .exact f2 p (ih w p h c)
  .obtain⟨u,s,rfl⟩:∃u s,w=u++[s]:=⟨w.dropLast,w.getLast (by intro z;rw[z]at c;simp at c),(List.dropLast_concat_getLast _).symm⟩
   obtain⟨mm,h1,h2⟩:=h.split;have hs:=h2.step.1;have ha:=h2.head;have hb   :=h2.step.2;have hp:p=s.b:=by generalize s.b=x at hb;cases hb;rfl
   subst ha;rw[hp];exact f3 s hs (ih u s.a h1 (by rw[Qi,QX]at hl;lia))
theorem EA   (hT:∀s∈T,s.a<n/\s.b<n)(h0:0<n){q p}:∀(N)(w),w.length<=N->Path T q w p->∃w',Path T q w' p/\w'.length<n
 |0,w,hl,h=>⟨w,h,by lia⟩
 |N+1,w,hl,h=>by
  by_cases c:w.length<n
  .exact⟨w,h,c⟩
  .have hr:=Fk hT h (by lia) h0
   have:∃j,j<w.length/\∃i,i<=j/\∃s t,w[i]?=zd s/\w[j]?=zd t/\s.a=t.b:=by refine Classical.byContradiction λz=>hr λj hj i hi s t e1 e2 e3=>z ⟨j,hj,i,hi,s,t,e1,e2,e3⟩
   obtain⟨j,hj,i,hi,s,t,e1,e2,e3⟩:=this;have p1:=(h.at e1).1;have p2:=(h.at e2).2.2;rw[←e3]at p2;refine EA hT h0 N _ ?_ (p1.append p2);rw[Qi,QT,Ji]
   lia
def Tt(T:List Stp)(q p:Nat):Prop:=∃w,Path T q w p
def T6   (hT:∀s∈T,s.a<n/\s.b<n)(h0:0<n){q p}:Ky (Yb T q n) p=zk ↔ Tt T q p:=by
 obtain⟨k,c⟩:=Nh T q n;constructor
 .intro h
  exact⟨_,k.pth _ (O1 h)⟩
 .rintro⟨w,h⟩
  obtain⟨w',h',hl⟩:=EA hT h0 w.length w (Qp _) h;exact c w' p h' (by lia)
noncomputable def ZQ(T:List Stp)(n p:Nat):Nat:=(Uw n).countP λq=>Ky (Yb T q n) p
def LU(T)(n p):ZQ T n p<=n:=by have:=List.countP_le_length (p:=λq=>Ky (Yb T q n) p) (l:=Uw n);rwa[Qs]at this
def jp   (hT:∀s∈T,s.a<n/\s.b<n){s}(hs:s∈T):ZQ T n s.a<=ZQ T n s.b:=by
 have h0:0<n:=by have:=(hT s hs).1;lia
 refine List.countP_mono_left λq _ h=>?_
 obtain⟨w,hw⟩:=(T6 hT h0).mp h;exact(T6 hT h0).mpr ⟨_,hw.append (.cons hs (.nil _))⟩
noncomputable def YJ(S:List Stp)(V:Nat->Int):List Stp:=S.filter λs=>decide (V s.a+s.g=V s.b)
noncomputable def KN(T:List Stp)(V:Nat->Int)(n:Nat)(p:Nat):Int:=((n+1:Nat):Int)*V p+(ZQ T (n+1) p:Int)-(ZQ T (n+1) n:Int)
def xE  {V}{n:Nat}(hS:∀s∈S,s.a<n+1/\s.b<n+1)(st:∀s∈S,V s.a+s.g<=V s.b)(s:Stp)(hs:s∈S):KN (YJ S V) V n s.a+((n+1:Nat):Int)*s.g<=KN (YJ S V) V n s.b:=by
 have hT:∀s∈YJ S V,s.a<n+1/\s.b<n+1:=λs h=>hS s (Jl.mp h).1;have h1:=st s hs;unfold KN
 by_cases c:V s.a+s.g=V s.b
 .have:=jp hT (Jl.mpr ⟨hs,QW c⟩)
  rw[←c,Int.mul_add]
  lia
 .have l1:=LU (YJ S V) (n+1) s.a
  have h2:_*(V s.a+s.g+1)<=((n+1:Nat):Int)*V s.b:=Int.mul_le_mul_of_nonneg_left (by lia) (by lia)
  lia
section
variable{cs:zo}{f:Int×Int->Int}{qs:LP}{m:Nat}{ws:LO}
theorem FI(c):∀(ws)(k),Kc (λq=>c*f q) k ws=c*Kc f k ws
 |[],k=>by show(0)=c*0;lia
 |o::ws,k=>by
  show Ko _ k o+Kc _ _ ws=c*(Ko f k o+Kc f _ ws);rw[FI c ws _,Int.mul_add];cases o with
  |none=>show 0+_=c*0+_;lia
  |some t=>rfl
def IsSt.mul   (h:IsSt cs (λq=>c*f q) qs ws s):∃s',IsSt cs f qs ws s'/\s.a=s'.a/\s.b=s'.b/\s.g=c*s'.g:=by
 cases h with
 |@mv i o o' h hne hq=>
  refine⟨_,.mv h hne hq,rfl,rfl,?_⟩
  have e:∀o , Ko (λq=>c*f q) i o=c*Ko f i o:=λo=>by
   cases o with
   |none=>show(0)=c*0;lia
   |some t=>rfl
  rw[e,e,Int.mul_sub]
 |left h hl=>exact⟨_,.left h hl,rfl,rfl,by simp_all⟩
 |give h=>exact⟨_,.give h,rfl,rfl,by simp_all⟩
def xD(hp:ZD cs.length m qs)(hd:ZA cs qs m ws)(sw:RN cs f qs ws){T:List Stp}(hT:T=YJ (Z9 cs f qs ws) (prW cs f qs ws)) :
  OkP cs.length m (λa b=>f (a,b)) qs ((cs.length+1:Nat):Int) ((Uw m).map λi:Nat=>Z0 (λq=>((cs.length+1:Nat):Int)*f q) (KN T (prW cs f qs ws) cs.length) qs (i:Int)) ((Uw cs.length).map (KN T (prW cs f qs ws) cs.length)) /\
  Xk cs ((Uw m).map λi:Nat=>Z0 (λq=>((cs.length+1:Nat):Int)*f q) (KN T (prW cs f qs ws) cs.length) qs (i:Int)) ((Uw cs.length).map (KN T (prW cs f qs ws) cs.length))=((cs.length+1:Nat):Int)*Kc f 0 ws:=by
 obtain⟨st,vn⟩:=OT (V:=prW cs f qs ws) hp hd (Wd hp hd) (R5 hp hd) (λp=>rfl) sw;have hS:∀s∈Z9 cs f qs ws,s.a<cs.length+1/\s.b<cs.length+1:=λs hs=>(Wd hp hd s hs).lt hp hd
 obtain⟨ok,cl⟩:=xu  (V:=KN T _ cs.length) hp hd (λs hs=>by obtain⟨s',h1,h2,h3,h4⟩:=hs.mul;rw[h2,h3,h4,hT];exact xE hS st s' (R5 hp hd s' h1)) (by unfold KN;rw[vn,Ub];lia);refine⟨⟨by lia,ok.la,ok.lp,ok.aa,ok.pp,λq hq=>?_⟩,by rw[cl,FI]⟩;have:=ok.le q hq;rwa[Int.one_mul]at this
end
noncomputable def X3(R:Y7):D:=.dict (R.map λx=>(.int (x.1:Nat),.list (x.2.map U6)))
def NV{p:Nat}:Ys (.int (p:Nat))=zd (.inl (p:Int)):=rfl
def NU(a p:Nat):decide (Ys (.int (a:Nat))=zd (.inl (p:Int)))=(a==p):=by
 rw[NV];by_cases h:a=p
 .subst h;simp
 lia
def Vn  {p}:ZX (.int (p:Nat)) (X3 R)=zd (Ky R p):=by
 unfold ZX X3;rw[NV];dsimp only;rw[Qu (Q2.mpr λx hx=>by obtain⟨y,_,rfl⟩:=Qo.mp hx;rfl)]
 congr 1
 rw[J9]
 congr 1
 funext x;exact NU x.1 p
def FH   (h:Ky R p=zk):Tr (X3 R) (.int (p:Nat))=zd (.list ((WJ R p).map U6)):=by
 unfold Tr X3;rw[NV];dsimp only;rw[List.find?_map];have e:((λx:D×D=>decide (Ys x.1=zd (.inl (p)))) ∘ λx:Nat×List Stp=>((.int (x.1),.list (x.2.map U6))))=λx=>x.1==p:=by funext x;exact NU x.1 p
 rw[e];unfold WJ;cases z:R.find? λx=>x.1==p with
 |none=>obtain⟨w,hw⟩:=P0.mp h;have:=Ug.mp z _ hw;simp at this
 |some x=>rfl
def jo   {w:List Stp}(h:Ky R p=zm):Wi (R.map λx=>((.int (x.1:Nat),.list (x.2.map U6)):D×D)) (.inl (p:Int)) (.list (w.map U6))=(R++[(p,w)]).map λx=>(.int (x.1:Nat),.list (x.2.map U6)):=by
 unfold Wi
 have e:((R.map λx=>((.int (x.1:Nat),.list (x.2.map U6)):D×D)).any λx=>decide (Ys x.1=zd (.inl (p:Int))))=zm:=by
  rw[J9];have:((λx:D×D=>decide (Ys x.1=zd (.inl (p)))) ∘ λx:Nat×List Stp=>((.int (x.1:Nat),.list (x.2.map U6))))=λx=>x.1==p:=by funext x;exact NU x.1 p
  rw[this];exact h
 rw[if_neg (by rw[e];simp),List.map_append];rfl
def En  {l:List Nat}(h:l.Nodup)(hl:∀x∈l,x<n):l.length<=n:=by
 have:=RX n (l.map λk:Nat=>(k)) (EG (λa b e=>by lia) h) λx hx=>by
  obtain⟨k,hk,rfl⟩:=Qo.mp hx;have:=hl k hk
  lia
 simp_all
structure RdK(n:Nat)(R:Y7):Prop where
 nd:(R.map Prod.fst).Nodup
 lt:∀x∈R,x.1<n
def Bm    (hs:s.b<n)(k:RdK n R):RdK n (Zz R s):=by
 unfold Zz;by_cases c:(Ky R s.a && !Ky R s.b)=zk
 .rw[Qu c]
  refine⟨?_,λx hx=>?_⟩
  .rw[QA]
   refine List.nodup_append.mpr ⟨k.nd,by simp,λa ha b hb z=>?_⟩;have hb   :=by simpa using hb
   obtain⟨x,hx,rfl⟩:=Qo.mp ha;have:Ky R s.b=zk:=P0.mpr ⟨x.2,by rw[←hb,←z];exact hx⟩;simp_all
  .rcases QG.mp hx with h|h
   .exact k.lt x h
   simp_all
 .rw[QH c];exact k
theorem NI  : ∀(X:List Stp)(R),(∀s∈X,s.b<n)->RdK n R->RdK n (X.foldl Zz R)
 |[],R,_,k=>k
 |s::X,R,h,k=>NI X _ (λx hx=>h x (Qj _ hx)) (Bm (h s Ql) k)
theorem FG   (hT:∀s∈T,s.a<n/\s.b<n)(hq:q<n):∀t,RdK n (Yb T q t)
 |0=>⟨by show [q].Nodup;simp,λx hx=>by cases List.mem_singleton.mp hx;simp_all⟩
 |t+1=>NI T _ (λs hs=>(hT s hs).2) (FG hT hq t)
def FF    (hT:∀s∈T,s.a<n/\s.b<n)(hq:q<n)(k:RdOk T q R):∀x∈R,x.2.length<n:=λx hx=>by
 have h:=En  (k.nd x hx) λy hy=>by
  rcases QB.mp hy with rfl|hy
  .exact hq
  .obtain⟨s,hs,rfl⟩:=Qo.mp hy
   exact(hT s ((k.pth x hx).mem s hs)).2
 rw[QL,Qb]at h
 lia
def Pg(s:Stp):oIx (U6 s) (.int 0)=zd (.int (s.a:Nat)):=Zq (j:=0) zh
def Od(s:Stp):oIx (U6 s) (.int 1)=zd (.int (s.b:Nat)):=Zq (j:=1) zh
def Do(s:Stp):oIx (U6 s) (.int 2)=zd (.int s.g):=Zq (j:=2) zh
section
variable{n:Nat}{T:List Stp}{q:Nat}
def jn(hT:∀s∈T,s.a<n/\s.b<n)(hn:n<=100)(hq:q<n):VS [.int (q:Nat),.int (n:Nat),.list (T.map U6)]=zd (X3 (Yb T q n)):=by
 refine KY  rfl ?_;unfold SB
 let S0:Option Sl:=zd (.pub (.int (q:Nat)))
 let S1:Option Sl:=zd (.pub (.int (n:Nat)))
 let S2:Option Sl:=zd (.pub (.list (T.map U6)))
 refine Kf  (AN (d:=X3 (Yb T q 0)) (Za (x:=[(.int (q:Nat),.list [])]) zh (YK zh)) (Qa zh) zh) ?_;apply KL;apply Zs (λt ρ=>∃x4 x5,ρ=[S0,S1,S2,zd (.deep .dic (X3 (Yb T q t))),x4,x5])
 case h1=>exact X6 (UP (UM zh) UV) (X7 (by lia) (by lia))
 case h0=>exact⟨_,_,rfl⟩
 case hst=>
  rintro t d ρ ht ⟨x4,x5,rfl⟩;refine⟨_,UT (Qa zh) zh,?_⟩;unfold Gg;apply Zs (λj ρ=>∃x4 x5,ρ=[S0,S1,S2,zd (.deep .dic (X3 ((T.take j).foldl Zz (Yb T q t)))),x4,x5])
  case h1=>exact K7 (UM zh) Zh
  case h0=>exact⟨_,_,rfl⟩
  case hst=>
   rintro j d ρ hj ⟨x4,x5,rfl⟩;rw[Qd]at hj;cases hs:T[j]? with
   |none=>rw[hs]at hj;cases hj
   |some s=>
   rw[hs]at hj;cases hj;have hsT:=Qq hs;have hsub:∀x∈T.take j,x∈T:=λx hx=>JG hx;have kR:=(NW (T.take j) (Yb T q t) hsub (Nh T q t).1).1;have kK:=NI (n:=n) (T.take j) (Yb T q t) (λx hx=>(hT x (hsub x hx)).2) (FG hT hq t)
   have eT:(T.take (j+1)).foldl Zz (Yb T q t)=Zz ((T.take j).foldl Zz (Yb T q t)) s:=by rw[List.take_add_one,hs,List.foldl_append];rfl
   generalize (T.take j).foldl Zz (Yb T q t)=R at kR kK eT;refine⟨_,UT (Qa zh) zh,?_⟩;unfold Gh
   have hlen:R.length<=n:=by
    have:=En (n:=n) kK.nd λx hx=>by obtain⟨y,hy,rfl⟩:=Qo.mp hx;exact kK.lt y hy
    rwa[Qb]at this
   by_cases ca:Ky R s.a=zk
   .by_cases cb:Ky R s.b=zk
    .refine Kw (b:=zm) (Vg (PL (t:=zk) (Kr zh UW (Pg s)) zh (Vn.trans (J5 zd ca))) (PL (t:=zk) (Kr zh UW (Od s)) zh (Vn.trans (J5 zd cb)))) (λz=>by cases z) λ_=>KO (KU ⟨x4,zd (.pub (U6 s)),?_⟩)
     rw[eT];unfold Zz;rw[if_neg (by rw[ca,cb];simp)];rfl
    .have cb:Ky R s.b=zm:=by simpa using cb
     refine Kw (b:=zk) (Vg (PL (t:=zk) (Kr zh UW (Pg s)) zh (Vn.trans (J5 zd ca))) (PL (t:=zm) (Kr zh UW (Od s)) zh (Vn.trans (J5 zd cb)))) (λ_=>?_) λz=>by cases z
     have hl:=FF hT hq kR _ (O1 ca);have hl:(WJ R s.a).length<n:=hl;have hadd:U1 (.list ((WJ R s.a).map U6)) (.list [U6 s])=zd (.list ((WJ R s.a++[s]).map U6)):=by rw[Xx (by rw[Qb,QX];lia),QA];rfl
     refine Z7 (C5 (k:=.inl ((s.b:Nat):Int)) (kvs:=R.map λx=>(.int (x.1:Nat),.list (x.2.map U6))) (U2 (AG zh (Kr zh UW (Pg s)) zh (FH ca)) (KZ (UP (UM zh) UV) (Qa zh)) hadd) zh (Kr zh UW (Od s)) zh zh (by rw[Qb];lia) zh) (KU ⟨x4,zd (.pub (U6 s)),?_⟩);rw[jo cb,eT];unfold Zz;rw[Qu (by rw[ca,cb];rfl)];rfl
   .have ca:Ky R s.a=zm:=by simpa using ca
    refine Kw (b:=zm) (TF (PL (t:=zm) (Kr zh UW (Pg s)) zh (Vn.trans (J5 zd ca)))) (λz=>by cases z) λ_=>KO (KU ⟨x4,zd (.pub (U6 s)),?_⟩)
    rw[eT];unfold Zz;rw[if_neg (by rw[ca];simp)];rfl
  case hend=>rintro ρ ⟨x4,x5,rfl⟩;refine KU ⟨x4,x5,?_⟩;rw[Qb,Jm];rfl
 case hend=>rintro ρ ⟨x4,x5,rfl⟩;refine KI (Kk (qb rfl rfl) ?_);rw[YX];simp
noncomputable abbrev X4(T:List Stp)(n:Nat):zn:=(Uw n).map λq=>X3 (Yb T q n)
def yA(hT:∀s∈T,s.a<n/\s.b<n)(hn:n<=100):VR [.int (n:Nat),.list (T.map U6)]=zd (.list (X4 T n)):=by
 refine KY  rfl ?_;refine Kk (Kx (Zl (X6 (UP (UM zh) UV) (X7 (by lia) (by lia))) (XG (λρ=>∃x,ρ=[zd _,zd _,x]) _ (X4 T n) _ [] ?_ ?_ ⟨zj,rfl⟩ ?_))) zh
 .rw[YX];simp
 .rintro i d e hd he ρ ⟨x,rfl⟩
  obtain⟨rfl,hi⟩:=WK hd;have hin:i<n:=by lia
  rw[Qd,QR hin]at he;cases he;rw[Jv];exact⟨_,UT (Qa zh) zh,rfl,Kg (UP (UM zh) (UP (UM zh) (UP (UM zh) UV))) zh (jn hT hn hin),_,rfl⟩
 .rw[Qt,YX];lia
end
theorem Xf{α:Type}{s}{t:M Bool}{g:M D}(f)(p)(e)(I:UU->Prop):∀(xs:List α)(ρ:UU)(es:zn),(∀a∈xs,∀ρ,I ρ->∃ρ1,s (f a) ρ=zd ρ1/\t ρ1=.ok (p a) ρ1/\(p a=zk->g ρ1=.ok (e a) ρ1)/\I (KD ρ1))->I ρ->es.length+xs.length<=1000000->K6 s t g (xs.map f) ρ es=zd (es++(xs.filter p).map e)
 |[],ρ,es,_,_,_=>by rw[List.map_nil,K6];simp
 |a::xs,ρ,es,h,h0,hl=>by
  rw[QL]at hl;obtain⟨ρ1,h1,h2,h3,h4⟩:=h a Ql ρ h0;have h':=λb hb=>h b (Qj _ hb);rw[QC,K6,h1];dsimp only;rw[h2];dsimp only
  cases c:p a with
  |true=>rw[Qu zh,h3 c];dsimp only;rw[Qu (by lia),Xf f p e I xs _ _ h' h4 (by rw[Qi,QX];lia),List.filter_cons_of_pos c,Q5];rfl
  |false=>rw[if_neg (by decide),Xf f p e I xs _ _ h' h4 (by lia),List.filter_cons_of_neg (by rw[c];simp)]
def jm{S:List Stp}{n:Nat}{V:Nat->Int}(hS:∀s∈S,s.a<n+1/\s.b<n+1)(vn:V n=0)(hn:n<=100)(hl:S.length<=1000):VT [.list (S.map U6),.list (((Uw n).map V).map int)]=zd (.list ((YJ S V).map U6)):=by
 refine KY  rfl ?_;unfold SD;have hadd:U1 (.list (((Uw n).map V).map int)) (.list [.int 0])=zd (.list (((Uw (n+1)).map V).map int)):=by rw[Xx (by rw[Qb,Qb,Qs,QX];lia),List.range_succ,QA,QA];show _=zd (Uy (_++[int (V n)]));rw[vn]
 refine Kf (Kt (U2 (UM zh) (KZ (UP UW UV) (Qa zh)) hadd) (Qa zh) zh) ?_;have hix:∀p,p<n+1->oIx _ (.int (p:Nat))=zd (.int (V p)):=λp hp=>OS hp
 let R:UU:=[zd (.pub (.list (S.map U6))),zd (.pub (.list (((Uw n).map V).map int))),zd (.pub (.list (((Uw (n+1)).map V).map int)))]
 have hc:K6 (gN 3) (UQ oEq (UQ U1 (UY 2 (UY 3 (UR (.int 0)))) (UY 3 (UR (.int 2)))) (UY 2 (UY 3 (UR (.int 1))))) (UL 3) (S.map U6) (KD R++Ux 1 zj) []=zd ((YJ S V).map U6):=by refine(Xf U6 _ U6 (λρ=>∃x,ρ=R++[x]) S _ [] ?_ ⟨zj,rfl⟩ (by rw[Qt];lia)).trans (by rw[Qy];rfl);rintro s hs ρ ⟨x,rfl⟩;have hs:=hS s hs;exact⟨R++[zd (.pub (U6 s))],UT (Qa zh) zh,U2 (U2 (Kr zh (Kr zh UW (Pg s)) (hix _ hs.1)) (Kr zh UW (Do s)) KW) (Kr zh (Kr zh UW (Od s)) (hix _ hs.2)) YI,λ_=>UM zh,_,rfl⟩
 exact Kk (Kx (Zl (K7 (UM zh) Zh) hc)) zh
section
variable{cs:zo}{ls:L3}{ws:LO}{qs:LP}{V:Int->Int->Int}{T:List Stp}{n m:Nat}{P:Nat->Int}
def yZ(hn:n<=100):VQ [.list (((Uw n).map P).map int),.list (X4 T (n+1))]=zd (.list (((Uw n).map (KN T P n)).map int)):=by
 refine KY  rfl ?_;unfold SA
 let S0:Option Sl:=zd (.pub (.list (((Uw n).map P).map int)))
 let S1:Option Sl:=zd (.pub (.list (X4 T (n+1))))
 let S2:Option Sl:=zd (.pub (.int ((n+1:Nat):Int)))
 have hlen:Ki [.list (X4 T (n+1))]=zd (.int ((n+1:Nat):Int)):=by rw[K8,Qb,Qs]
 refine Kf (ρ1:=[S0,S1,S2,zj]) (Kt (Zg zh hlen) (Qa zh) zh) ?_
 let L:zn:=((Uw (n+1)).map λp=>((ZQ T (n+1) p:Nat):Int)).map int
 have hc1:K6 (gN 4) (UR zk) (K4 Ki (UO (U0 Uy (Zb (KJ (UL 1)) 1 (gN 5) (Zj ZX 4 (UL 5)) (UL 5))) UN)) (YM 0 ((n+1:Nat):Int)) (KD [S0,S1,S2,zj]++Ux 1 zj) []=zd L:=by
  refine(XG (λρ=>∃x,ρ=[S0,S1,S2,zj,x]) _ L _ [] ?_ ?_ ⟨zj,rfl⟩ ?_).trans (by rw[Qy])
  .rw[YX];show(List.map _ _).length=_;rw[List.length_map,List.length_map,List.length_range];simp
  .rintro i d e hd he ρ ⟨x,rfl⟩
   obtain⟨rfl,hi⟩:=WK hd;have hin:i<n+1:=by lia
   rw[Qd,Qd,QR hin]at he;cases he;rw[Jv];refine⟨_,UT (Qa zh) zh,rfl,?_,_,rfl⟩;have hin2:K6 (gN 5) (Zj ZX 4 (UL 5)) (UL 5) (X4 T (n+1)) (KD [S0,S1,S2,zj,zd (.pub (.int (i:Nat)))]++Ux 1 zj) []=zd (((Uw (n+1)).filter λq=>Ky (Yb T q (n+1)) i).map λq=>X3 (Yb T q (n+1))):=by refine(Xf (λq=>X3 (Yb T q (n+1))) (λq=>Ky (Yb T q (n+1)) i) (λq=>X3 (Yb T q (n+1))) (λρ=>∃x,ρ=[S0,S1,S2,zj,zd (.pub (.int (i:Nat))),x]) (Uw (n+1)) _ [] ?_ ⟨zj,rfl⟩ (by rw[Qt,Qs];lia)).trans (by rw[Qy]);rintro q hq ρ ⟨x,rfl⟩;exact⟨[S0,S1,S2,zj,zd (.pub (.int (i:Nat))),zd (.pub (X3 (Yb T q (n+1))))],UT (Qa zh) zh,ZS zh (UM zh) Vn,λ_=>UM zh,_,rfl⟩
   refine Zf (UP (Kx (Zl (K7 (UM zh) Zh) hin2)) UV) ?_;rw[K8,Qb];show _=zd (int ((ZQ T (n+1) i:Nat):Int));unfold ZQ;rw[List.countP_eq_length_filter]
  .rw[Qt,YX];lia
 refine Kf (ρ1:=[S0,S1,S2,zd (.own L)]) (ZT (Zl (X6 (UP (UM zh) UV) (X7 (by lia) (by lia))) hc1) (Qa zh) zh) ?_;have hixL:∀p,p<n+1->oIx (.list L) (.int (p:Nat))=zd (.int (ZQ T (n+1) p:Nat)):=λp hp=>OS (h:=λp=>((ZQ T (n+1) p:Nat):Int)) hp
 have zI:oIx (.list L) (.int (-1))=zd (.int (ZQ T (n+1) n:Nat)):=by
  refine Mf ?_
  show(((Uw (n+1)).map λp=>((ZQ T (n+1) p:Nat):Int)).map int).getLast?=_
  rw[List.range_succ,QA,QA];simp
 let R:UU:=[S0,S1,S2,zd (.pub (.list L))]
 have hc2:K6 (gT 2 (gNC (gN 4) (gNC (gN 5) gN0))) (UR zk) (UQ K0 (UQ U1 (UQ Ks (UL 2) (UL 5)) (UY 3 (UL 4))) (UY 3 (ZH (UR (.int 1))))) (Yu 0 (((Uw n).map P).map int)) (Yn [S0,S1,S2,zd (.own L)]++Ux 2 zj) []=zd (((Uw n).map (KN T P n)).map int):=by
  refine(XG (λρ=>∃x y,ρ=[S0,S1,S2,zd (.pub (.list L)),x,y]) _ (((Uw n).map (KN T P n)).map int) _ [] ?_ ?_ ⟨zj,zj,rfl⟩ ?_).trans (by rw[Qy])
  .rw[Yt,Qb,Qb,Qb,Qb]
  .rintro i d e hd he ρ ⟨x,y,rfl⟩
   obtain⟨z,hz,rfl⟩:=Xd hd;have hin:i<n:=by have:=(Qg.mp hz).1;rwa[Qb,Qb,Qs]at this
   rw[Qd,Qd,QR hin]at he hz;cases he;cases hz;rw[QU];exact⟨_,Km zh (UZ (UT (Qa zh) zh) (UZ (UT (Qa zh) zh) Kn)),rfl,U2 (U2 (U2 (UM zh) (UM zh) (WP (by lia) (by lia))) (Kr zh (UM zh) (hixL i (by lia))) KW) (Kr zh (WH UW) zI) YT,_,_,rfl⟩
  .rw[Qt,Yt,Qb,Qb,Qs];lia
 exact Kk (Kx (Fu (Xc (UP (UM zh) UV) Xe) hc2 (xy _))) zh
def yT(hp:ZD n m qs)(hn:n<=100)(hm:m<=1000)(hq1:qs.length<=500):VP [.int (m:Nat),.list (qs.map (ZF V)),.list (((Uw n).map P).map int),.list (X4 T (n+1))]=zd (KM ((n+1:Nat):Int) (askL m (λq=>((n+1:Nat):Int)*U4 V q) (KN T P n) qs) ((Uw n).map (KN T P n))):=by
 refine KY  rfl ?_;unfold Sz
 let S0:Option Sl:=zd (.pub (.int (m:Nat)))
 let S1:Option Sl:=zd (.pub (.list (qs.map (ZF V))))
 let S2:Option Sl:=zd (.pub (.list (((Uw n).map P).map int)))
 let S3:Option Sl:=zd (.pub (.list (X4 T (n+1))))
 let S4:Option Sl:=zd (.pub (.int ((n+1:Nat):Int)))
 let S5:Option Sl:=zd (.pub (.list (((Uw n).map (KN T P n)).map int)))
 have hlen:Ki [.list (X4 T (n+1))]=zd (.int ((n+1:Nat):Int)):=by rw[K8,Qb,Qs]
 refine Kf  (Kt (Zg zh hlen) (Qa zh) zh) ?_;refine Kf (ρ1:=[S0,S1,S2,S3,S4,S5,zj]) (Kt (Kg (UP (UM zh) (UP (UM zh) UV)) zh (yZ hn)) (Qa zh) zh) ?_
 have hc:K6 (gT 3 (gNC (gN 7) (gNC (gN 8) (gNC (gN 9) gN0)))) (UR zk) (Kl (UO (UL 7) (UO (UL 8) (UO (UQ Ks (UL 4) (UL 9)) UN)))) (qs.map (ZF V)) (KD [S0,S1,S2,S3,S4,S5,zj]++Ux 3 zj) []=zd (qs.map (ZF λa b=>((n+1:Nat):Int)*V a b)):=by
  refine(XG (λρ=>∃x y z,ρ=[S0,S1,S2,S3,S4,S5,zj,x,y,z]) _ _ _ [] ?_ ?_ ⟨zj,zj,zj,rfl⟩ ?_).trans (by rw[Qy])
  .rw[Qb,Qb]
  .rintro i d e hd he ρ ⟨x,y,z,rfl⟩
   rw[Qd]at hd he;cases hq:qs[i]? with
   |none=>rw[hq]at hd;cases hd
   |some q=>
   rw[hq]at hd he;cases hd;cases he;exact⟨_,Km zh (UZ (UT (Qa zh) zh) (UZ (UT (Qa zh) zh) (UZ (UT (Qa zh) zh) Kn))),rfl,Zk (UP (UM zh) (UP (UM zh) (UP (U2 (UM zh) (UM zh) (WP (by lia) (by lia))) UV))) (Qa zh),_,_,_,rfl⟩
  .rw[Qt,Qb];lia
 refine Kf (Kt (Kg (UP (UM zh) (UP (Kx (Zl (K7 (UM zh) Zh) hc)) (UP (UM zh) UV))) zh (BK hp hm _)) (Qa zh) zh) ?_;exact Kk (Zk (UP (UM zh) (UP (UM zh) (UP (UM zh) UV))) (Qa zh)) zh
theorem ME:∀(us vs:LO),PyData.eqvAll (us.map Kb) (vs.map Kb)=decide (us=vs)
 |[],[]=>rfl
 |[],_::_=>by simp[PyData.eqvAll]
 |_::_,[]=>by simp[PyData.eqvAll]
 |u::us,v::vs=>by
  show(UE _ _&&PyData.eqvAll _ _)=_
  have e:UE (Kb u) (Kb v)=decide (u=v):=by
   cases u with
   |none=>cases v<;>simp[Kb,UE]
   |some a=>
    cases v with
    |none=>simp[Kb,UE]
    |some b=>by_cases h:a=b<;>simp[Kb,UE,h]
  rw[ME us vs,e];simp_all
def FE(us)(L:zA):oIn (U9 us) (.list (L.map U9))=zd (decide (us∈L)):=by
 have hlay:UC (L.map U9)=zk:=TK λx hx=>by obtain⟨y,_,rfl⟩:=Qo.mp hx;exact OV y
 have hd:=jJ us
 show(if(U9 us).canLay0=zk/\UC _=zk/\(U9 us).depth<=60 then zd _ else zj)=_
 rw[Qu ⟨OV us,hlay,by lia⟩]
 congr 1
 rw[JO,JK,Jg];constructor
 .rintro⟨y,hy,e⟩
  obtain⟨v,hv,rfl⟩:=Qo.mp hy;have e:PyData.eqvAll (v.map Kb) _=zk:=e;rw[ME]at e;rw[←Qa e];exact hv
 .intro h
  refine⟨U9 us,Qo.mpr ⟨us,h,rfl⟩,?_⟩;show PyData.eqvAll _ _=zk;rw[ME];simp
def xC(us)(L:zA):∃b,ZW (U9 us) (.list (L.map U9))=zd b/\(b=zm->us∈L):=by refine⟨!decide _,?_,λh=>by simpa using h⟩;unfold ZW;rw[FE];rfl
def WL(n:Nat)(ws:LO)(r:List Stp)(us:LO):Prop:=∃b,us=(rot b r).foldl (app n) ws
def xB(hp:ZD cs.length m qs){f}(hd:ZA cs qs m ws){U}(hT:T=YJ (Z9 cs f qs ws) U){x:Nat}{r}(hr:Path T x r x)(hn:(r.map Stp.a).Nodup){us}(h:WL cs.length ws r us):ZA cs qs m us/\Kc f 0 us=Kc f 0 ws:=by
 obtain⟨b,rfl⟩:=h;have hin   :=λs hs=>by have:=hr.mem s hs;rw[hT]at this;exact Wd hp hd s (Jl.mp this).1
 have pr:=RV b r;obtain⟨h1,h2⟩:=Fi hp hd (λs hs=>hin s (pr.mem_iff.mp hs)) ((pr.map Stp.a).nodup_iff.mpr hn) (((pr.map Stp.b).trans (MY hr)).trans (pr.map Stp.a).symm);refine⟨h1,?_⟩
 have hg:∀{q p:Nat}{w:List Stp},Path T q w p->U q+KE w=U p:=λh=>by
  induction h with
  |nil p=>rw[MI];lia
  |@cons s w p hs h ih=>
   rw[hT]at hs;have e1:=Qa (Jl.mp hs).2;rw[T8]
   lia
 have:=hg hr;rw[h2,FZ pr]
 lia
def EY   (hs:s∈T)(h:Path T s.b w s.a)(hn:(s.b::w.map Stp.b).Nodup):Path T s.a (s::w) s.a/\((s::w).map Stp.a).Nodup:=by
 refine⟨.cons hs h,?_⟩;have e:=HM h;have p:((s::w).map Stp.a).Perm (s.b::w.map Stp.b):=by rw[←e];exact(List.perm_append_comm (l₁:=[s.a]))
 exact p.nodup_iff.mpr hn
def jk(g:Good cs ls)(hp:ZD cs.length ls.length qs){f:Int×Int->Int}(hd:ZA cs qs ls.length ws){U:Nat->Int}(hT:T=YJ (Z9 cs f qs ws) U)(hl:T.length<=1000):∃L:zA,WX [U9 ws,.list (T.map U6),.list (X4 T (cs.length+1))]=zd (.list (L.map U9)) /\
  ws∈L/\L.length<=1+T.length/\(∀us∈L,ZA cs qs ls.length us/\Kc f 0 us=Kc f 0 ws)/\∀s∈T,Tt T s.b s.a->¬(s.w=zj/\s.b=cs.length)->∃us∈L,∃w,Path T s.b w s.a/\(s.b::w.map Stp.b).Nodup/\WL cs.length ws (s::w) us:=by
 have c6:=g.c6;have l7:=g.l7;have hTs:∀s∈T,IsSt cs f qs ws s:=λs hs=>by rw[hT]at hs;exact Wd hp hd s (Jl.mp hs).1
 have au:∀s∈T,s.a<cs.length+1/\s.b<cs.length+1:=λs hs=>(hTs s hs).lt hp hd
 have main:∃d,WX [U9 ws,.list (T.map U6),.list (X4 T (cs.length+1))]=zd d/\∃L:zA,d=.list (L.map U9)/\ws∈L/\L.length<=1+T.length/\(∀us∈L,ZA cs qs ls.length us/\Kc f 0 us=Kc f 0 ws)/\∀s∈T,Tt T s.b s.a->¬(s.w=zj/\s.b=cs.length)->∃us∈L,∃w,Path T s.b w s.a/\(s.b::w.map Stp.b).Nodup/\WL cs.length ws (s::w) us:=by
  refine XB  rfl ?_;unfold Sy
  let S0:Option Sl:=zd (.pub (U9 ws))
  let S1:Option Sl:=zd (.pub (.list (T.map U6)))
  let S2:Option Sl:=zd (.pub (.list (X4 T (cs.length+1))))
  let S3:Option Sl:=zd (.pub (.int (cs.length:Nat)))
  have hlen:Ki [.list (X4 T (cs.length+1))]=zd (.int ((cs.length+1:Nat):Int)):=by rw[K8,Qb,Qs]
  have hsub:K0 (.int ((cs.length+1:Nat):Int)) (.int 1)=zd (.int (cs.length:Nat)):=by rw[YT];congr 2;lia
  refine Kf (ρ1:=[S0,S1,S2,S3,zj,zj,zj,zj,zj,zj,zj,zj]) (Kt (U2 (Zg zh hlen) UW hsub) (Qa zh) zh) ?_;have hls:TM [U9 ws]=zd (ws.map Kb):=rfl;refine Kf (ρ1:=[S0,S1,S2,S3,zd (.own ([ws].map U9)),zj,zj,zj,zj,zj,zj,zj]) (ZT (WO (UP (Kx (Mw zh hls)) UV) (Qa zh)) (Qa zh) zh) ?_;apply KL;apply Zs (λj ρ=>∃(L:zA)(x5 x6 x7 x8 x9 ag zH:Option Sl),ρ=[S0,S1,S2,S3,zd (.own (L.map U9)),x5,x6,x7,x8,x9,ag,zH]/\ws∈L/\L.length<=1+j/\(∀us∈L,ZA cs qs ls.length us/\Kc f 0 us=Kc f 0 ws)/\∀s∈T.take j,Tt T s.b s.a->¬(s.w=zj/\s.b=cs.length)->∃us∈L,∃w,Path T s.b w s.a/\(s.b::w.map Stp.b).Nodup/\WL cs.length ws (s::w) us)
  case h1=>exact K7 (UM zh) Zh
  case h0=>exact⟨[ws],_,_,_,_,_,_,_,rfl,Qv.mpr zh,Qp _,λus hu=>by cases Qv.mp hu;exact⟨hd,rfl⟩,λs hs=>by rw[List.take_zero]at hs;cases hs⟩
  case hst=>
   rintro j d ρ hj ⟨L,x5,x6,x7,x8,x9,ag,zH,rfl,hw,hL,hb,hsh⟩;have zL:j<T.length:=by have:=(Qg.mp hj).1;rwa[Qb]at this
   rw[Qd]at hj;cases hs:T[j]? with
   |none=>rw[hs]at hj;cases hj
   |some s=>
   rw[hs]at hj;cases hj;have hsT:=Qq hs;have hab:=au s hsT;refine⟨_,UT (Qa zh) zh,?_⟩;unfold Gj
   let S5:Option Sl:=zd (.pub (U6 s))
   let S6:Option Sl:=zd (.pub (.int (s.a:Nat)))
   let S7:Option Sl:=zd (.pub (.int (s.b:Nat)))
   let S8:Option Sl:=zd (.pub (.int s.g))
   let S9:Option Sl:=zd (.pub (Y6 s.w))
   refine Kf (ρ1:=[S0,S1,S2,S3,zd (.own (L.map U9)),S5,S6,S7,S8,S9,ag,zH]) (YW (UM zh) (Km zh (UZ (UT (Qa zh) zh) (UZ (UT (Qa zh) zh) (UZ (UT (Qa zh) zh) (UZ (UT (Qa zh) zh) Kn)))))) ?_;have hnon:isNon (Y6 s.w)=s.w.isNone:=by cases s.w<;>rfl
   let c10:Bool:=s.w.isNone&&decide ((s.b:Int)=(cs.length:Nat))
   refine Kf (ρ1:=[S0,S1,S2,S3,zd (.own (L.map U9)),S5,S6,S7,S8,S9,zd (.pub (.bool c10)),zH]) (Kt (Wf (t:=s.w.isNone) (u:=decide ((s.b:Int)=(cs.length:Nat))) (by rw[←hnon];exact Kx (UM zh)) λ_=>Kx (ZS zh (UM zh) YI)) (Qa zh) zh) ?_;have hrd:oIx (.list (X4 T (cs.length+1))) (.int (s.b:Nat))=zd (X3 (Yb T s.b (cs.length+1))):=Zq (by rw[Qd,QR hab.2];rfl)
   have hnext:∀(L':zA),(∀us∈L,us∈L')->(Tt T s.b s.a->¬(s.w=zj/\s.b=cs.length)->∃us∈L',∃w,Path T s.b w s.a/\(s.b::w.map Stp.b).Nodup/\WL cs.length ws (s::w) us)->∀x∈T.take (j+1),Tt T x.b x.a->¬(x.w=zj/\x.b=cs.length)->∃us∈L',∃w,Path T x.b w x.a/\(x.b::w.map Stp.b).Nodup/\WL cs.length ws (x::w) us:=λL' hsub hn x hx=>by
    rw[List.take_add_one,hs]at hx;rcases QG.mp hx with hx|hx
    .intro h1 h2
     obtain⟨us,h3,h4⟩:=hsh x hx h1 h2;exact⟨us,hsub us h3,h4⟩
    .have:x=s:=by simpa using hx
     subst this;exact hn
   have hkey:=T6 (q:=s.b) (p:=s.a) au (Jk _);by_cases c:Ky (Yb T s.b (cs.length+1)) s.a=zk/\c10=zm
   .obtain⟨c1,c2⟩:=c
    have kR:=(Nh T s.b (cs.length+1)).1;have hm:=O1 c1;have ba:=kR.pth _ hm;have hnw:=kR.nd _ hm;have bB:=FF au hab.2 kR _ hm;generalize hw0:WJ (Yb T s.b (cs.length+1)) s.a=w at hm ba hnw bB;have ba:Path T s.b w s.a:=ba;have hnw:(s.b::w.map Stp.b).Nodup:=hnw;have bB:w.length<cs.length+1:=bB;obtain⟨r1,r2⟩:=EY hsT ba hnw;have hadd:U1 (.list [U6 s]) (.list (w.map U6))=zd (.list ((s::w).map U6)):=by rw[Xx (by rw[Qb,QX];lia)];rfl
    have hget:=FH c1;rw[hw0]at hget;obtain⟨b,ar,bR,aE⟩:=EZ (n:=cs.length) (r:=s::w) (by rw[QL];lia)
    have hall:∀p∈(rot b (s::w)).filterMap (X9 cs.length),p.1<ws.length:=λp hpm=>by
     obtain⟨x,hx,e⟩:=Jn.mp hpm;have hxr:x∈s::w:=(RV b (s::w)).mem_iff.mp hx;cases hTs x (r1.mem x hxr)with
     |@mv i o o' hw' _ _=>cases e;exact(Qg.mp hw').1
     |left _ _=>cases e
     |give _=>cases e
    have aM:=F0 hall;rw[Nk]at aM;generalize hus:(rot b (s::w)).foldl (app cs.length) ws=us at aM;have z9:WL cs.length ws (s::w) us:=⟨b,hus.symm⟩;have bQ:=xB hp hd hT r1 r2 z9;refine Kw (b:=zk) (Vg (by rw[←c1];exact ZS zh (Kr zh (UM zh) hrd) Vn) ((Yl (t:=c10) (Yh (UM zh))).trans (J5 (λb=>Res.ok b _) (by rw[c2];rfl)))) (λ_=>?_) λz=>by cases z
    refine Kf (ρ1:=[S0,S1,S2,S3,zd (.own (L.map U9)),S5,S6,S7,S8,S9,zd (.pub (.bool c10)),zd (.pub (U9 us))]) (Kt (Kg (UP (UM zh) (UP (Kg (UP (UM zh) (UP (U2 (KZ (UP (UM zh) UV) (Qa zh)) (U2 (Kr zh (UM zh) hrd) (UM zh) hget) hadd) UV)) zh aE) UV)) zh aM) (Qa zh) zh) ?_;obtain⟨bb,aJ,hnb⟩:=xC us L;refine Kw (b:=bb) (Mq (UM zh) zh aJ) (λ_=>?_) λhb0=>?_
    .have e:(L++[us]).map U9=L.map U9++[U9 us]:=by rw[QA];rfl
     refine Z7 (WG zh (UM zh) zh (by rw[Qb];lia) zh) (KU ⟨L++[us],S5,S6,S7,S8,S9,_,_,by rw[e];rfl,Q0 _ hw,by rw[Qi,QX];lia,λv hv=>?_,?_⟩)
     .rcases QG.mp hv with hv|hv
      .exact hb v hv
      .cases Qv.mp hv;exact bQ
     .exact hnext _ (λv hv=>Q0 _ hv) λ_ _=>⟨us,QI _ (Qv.mpr zh),w,ba,hnw,z9⟩
    .exact KO (KU ⟨L,S5,S6,S7,S8,S9,_,_,rfl,hw,by lia,hb,hnext _ (λv hv=>hv) λ_ _=>⟨us,hnb hb0,w,ba,hnw,z9⟩⟩)
   .have hf:(Zi (Zj ZX 6 (UY 2 (UL 7))) (KB (Zt (UL 10)))) [S0,S1,S2,S3,zd (.own (L.map U9)),S5,S6,S7,S8,S9,zd (.pub (.bool c10)),zH]=.ok zm [S0,S1,S2,S3,zd (.own (L.map U9)),S5,S6,S7,S8,S9,zd (.pub (.bool c10)),zH]:=by
     cases c1:Ky (Yb T s.b (cs.length+1)) s.a with
     |false=>exact TF (by rw[←c1];exact ZS zh (Kr zh (UM zh) hrd) Vn)
     |true=>
      have c2:c10=zk:=by
       cases c2:c10 with
       |true=>rfl
       |false=>exact absurd ⟨c1,c2⟩ c
      exact Vg (by rw[←c1];exact ZS zh (Kr zh (UM zh) hrd) Vn) ((Yl (t:=c10) (Yh (UM zh))).trans (J5 (λb=>Res.ok b _) (by rw[c2];rfl)))
    refine Kw (b:=zm) hf (λz=>by cases z) λ_=>KO (KU ⟨L,S5,S6,S7,S8,S9,_,_,rfl,hw,by lia,hb,hnext _ (λv hv=>hv) λh1 h2=>?_⟩)
    refine absurd ⟨hkey.mpr h1,?_⟩ c;cases c2:c10 with
    |false=>rfl
    |true=>obtain⟨d1,d2⟩:=JV.mp c2;exact absurd ⟨by simpa using d1,by have:=of_decide_eq_true d2;lia⟩ h2
  case hend=>rintro ρ ⟨L,x5,x6,x7,x8,x9,ag,zH,rfl,hw,hL,hb,hsh⟩;rw[Qb]at hL hsh;rw[Jm]at hsh;exact KI (Kk (Yi rfl rfl) ⟨_,rfl,L,rfl,hw,hL,hb,hsh⟩)
 obtain⟨d,h1,L,rfl,h2,h3,h4,h5⟩:=main;exact⟨L,h1,h2,h3,h4,h5⟩
structure WebQ(cs:zo)(f:Int×Int->Int)(qs:LP)(m:Nat)(ws:LO)(T:List Stp)(as ps:zo)(L:zA):Prop where
 dl:ZA cs qs m ws
 st:RN cs f qs ws
 tt:T=YJ (Z9 cs f qs ws) (prW cs f qs ws)
 ea:as=askL m (λq=>((cs.length+1:Nat):Int)*f q) (KN T (prW cs f qs ws) cs.length) qs
 ep:ps=(Uw cs.length).map (KN T (prW cs f qs ws) cs.length)
 ok:OkP cs.length m (λa b=>f (a,b)) qs ((cs.length+1:Nat):Int) as ps
 cl:Xk cs as ps=((cs.length+1:Nat):Int)*Kc f 0 ws
 len:L.length<=62
 fst:ws∈L
 best:∀us∈L,ZA cs qs m us/\Kc f 0 us=Kc f 0 ws
 shw:∀s∈T,Tt T s.b s.a->¬(s.w=zj/\s.b=cs.length)->∃us∈L,∃w,Path T s.b w s.a/\(s.b::w.map Stp.b).Nodup/\WL cs.length ws (s::w) us
def Ng{o:Ord}{old:zC}{ts:zo}(g:Good cs ls)(ga:Ym cs.length ls.length old ts):∃ws T as ps L,XY [Kq cs ls,KF o old ts]=zd (.tuple [KM ((cs.length+1:Nat):Int) as ps,.list (L.map U9)])/\WebQ cs (U4 (Kj ls o old ts)) (U7 0 ls) ls.length ws T as ps L:=by
 have c6:=g.c6;have l7:=g.l7;have hp:=P4 g;have hq:=BL g;obtain⟨M,av,hM,hF⟩:∃M:Int,0<=M/\(∀q∈U7 0 ls,U4 (Kj ls o old ts) q<=M)/\ls.length*M<10 ^ 60:=⟨18446744073709551616,by decide,λq hq=>by have:=OU (o:=o) g ga hq;show Kj ls o old ts q.1 q.2<=_;lia,by lia⟩
 obtain⟨d,aN,ws,rfl,hd,st⟩:=wB (V:=Kj ls o old ts) g hp (by lia) av hM hF;have hS:∀s∈Z9 cs (U4 (Kj ls o old ts)) (U7 0 ls) ws,s.a<cs.length+1/\s.b<cs.length+1:=λs hs=>(Wd hp hd s hs).lt hp hd;have vn:=(OT (V:=prW cs (U4 (Kj ls o old ts)) (U7 0 ls) ws) hp hd (Wd hp hd) (R5 hp hd) (λp=>rfl) st).2;have has:YQ [Kq cs ls,.list ((U7 0 ls).map (ZF (Kj ls o old ts))),U9 ws]=zd (.list ((Z9 cs (U4 (Kj ls o old ts)) (U7 0 ls) ws).map U6)):=Le g hd.len (by rw[hd.len];exact hp) (by rw[hd.len];exact hd) (by lia)
 have hdl:=hd.len;have hal:=xo (f:=U4 (Kj ls o old ts)) (ws:=ws) (cs:=cs) (qs:=U7 0 ls);have hti:=jm hS vn (by lia) (by lia);generalize hT:YJ (Z9 cs (U4 (Kj ls o old ts)) (U7 0 ls) ws) (prW cs (U4 (Kj ls o old ts)) (U7 0 ls) ws)=T at hti;have au:T.length<=61:=by rw[←hT];exact QP (J7 _ _) (by lia)
 have hTs:∀s∈T,s.a<cs.length+1/\s.b<cs.length+1:=λs hs=>by rw[←hT]at hs;exact hS s (Jl.mp hs).1
 obtain⟨L,hsh,h1,h2,h3,h4⟩:=jk g hp hd hT.symm (by lia);obtain⟨ok,cl⟩:=xD hp hd st hT.symm;have aI:=yA (n:=cs.length+1) hTs (by lia);refine⟨ws,T,_,_,L,?_,hd,st,hT.symm,rfl,rfl,ok,cl,by lia,h1,h3,h4⟩;refine KY  rfl ?_;unfold Sx;refine Kf (Kt (Kg (UP (UM zh) (UP (UM zh) UV)) zh (Lj g ga)) (Qa zh) zh) ?_;refine Kf (Kt (Kg (UP (UM zh) (UP (UM zh) UV)) zh aN) (Qa zh) zh) ?_;refine Kf (Kt (Kg (UP (UM zh) (UP (UM zh) (UP (UM zh) UV))) zh (xi g hp hd (by lia))) (Qa zh) zh) ?_;refine Kf (Kt (Kg (UP (Kg (UP (UM zh) (UP (UM zh) (UP (UM zh) UV))) zh has) (UP (UM zh) UV)) zh hti) (Qa zh) zh) ?_;have ao:Ki [.list (((Uw cs.length).map (prW cs (U4 (Kj ls o old ts)) (U7 0 ls) ws)).map int)]=zd (.int (cs.length:Nat)):=by rw[K8,Qb,Qb,Qs]
 have hld:Ki [U9 ws]=zd (.int (ls.length:Nat)):=by unfold U9;rw[K8,Qb,hd.len]
 refine Kf (Kt (Kg (UP (U2 (Zg zh ao) UW KW) (UP (UM zh) UV)) zh aI) (Qa zh) zh) ?_;exact Kk (Zk (UP (Kg (UP (Zg zh hld) (UP (UM zh) (UP (UM zh) (UP (UM zh) UV)))) zh (yT hp (by lia) (by lia) (by lia))) (UP (Kg (UP (UM zh) (UP (UM zh) (UP (UM zh) UV))) zh hsh) UV)) (Qa zh)) zh
end
noncomputable def Z8(f:Int×Int->Int)(qs:LP)(tm:Int)(as ps:zo):LP:=qs.filter λq=>decide (as.getD q.1.toNat 0+ps.getD q.2.toNat 0=tm*f q)
section
variable{cs:zo}{ls:L3}{o:Ord}{old:zC}{ts:zo}{tm:Int}{as ps:zo}{ws:LO}
def wA(g:Good cs ls)(ga:Ym cs.length ls.length old ts)(hla:as.length=ls.length)(ao:ps.length=cs.length):VJ [Kq cs ls,KF o old ts,KM tm as ps]=zd (.list ((Z8 (U4 (Kj ls o old ts)) (U7 0 ls) tm as ps).map Kp)):=by
 have l7:=g.l7;have c6:=g.c6
 let F:=U4 (Kj ls o old ts)
 refine KY (ρ:=[zd (.pub (Kq cs ls)),zd (.pub (KF o old ts)),zd (.pub (KM tm as ps)),zj,zj,zj]) zh ?_;unfold Sq
 let S0:Option Sl:=zd (.pub (Kq cs ls))
 let S1:Option Sl:=zd (.pub (KF o old ts))
 let S2:Option Sl:=zd (.pub (KM tm as ps))
 refine Kf (ρ1:=[S0,S1,S2,zd (.own []),zj,zj]) (ZT (WO UV (Qa zh)) (Qa zh) zh) ?_;apply KL;apply Zs (λi ρ=>∃x4 x5,ρ=[S0,S1,S2,zd (.own ((Z8 F (U7 0 (ls.take i)) tm as ps).map Kp)),x4,x5])
 case h1=>exact X6 (UP (Zf (UP (Kr zh UW WA) UV) K8) UV) (X7 (by rw[Qb];omega) (by omega))
 case h0=>exact⟨_,_,rfl⟩
 case hst=>
  rintro i d ρ hi ⟨x4,x5,rfl⟩;obtain⟨rfl,hlt⟩:=WK hi;rw[Qb]at hlt;have zG:i<ls.length:=by omega
  have hls:ls[i]?=zd ls[i]:=Qe zG;have gr:=g.rk _ (Qq hls);have hfl:=PV gr;refine⟨_,UT (Qa zh) zh,?_⟩;unfold HI;rw[Jv];have hw:=Eb (cs:=cs) hls (by omega)
  let W:=YR ls[i].flatten
  have hWl:W.length<=6:=by show(YR _).length<=6;rw[(Wc _).length_eq];omega
  have ha:(Z8 F (U7 0 (ls.take i)) tm as ps).length<=42:=by
   have h1:=jB (n:=6) (ls.take i) 0 λrs hrs=>by have:=PV (g.rk rs (JG hrs));omega
   rw[QT]at h1;have h2:(Z8 F (U7 0 (ls.take i)) tm as ps).length<=(U7 0 (ls.take i)).length:=J7 _ _;have:min i ls.length<=7:=by omega
   omega
  apply Zs (λj ρ=>∃x5,ρ=[S0,S1,S2,zd (.own (((Z8 F (U7 0 (ls.take i)) tm as ps)++Z8 F ((W.take j).map λt=>((i:Int),t)) tm as ps).map Kp)),zd (.pub (.int (i:Nat))),x5])
  case h1=>exact K7 (Kg (UP (UM zh) (UP (UM zh) UV)) zh hw) Zh
  case h0=>exact⟨x5,by show _=[S0,S1,S2,zd (.own (((Z8 F (U7 0 (ls.take i)) tm as ps)++[]).map Kp)),_,_];rw[Jd];rfl⟩
  case hst=>
   rintro j d ρ hj ⟨x5,rfl⟩;rw[Qd]at hj;cases hz:W[j]? with
   |none=>rw[show(YR ls[i].flatten)[j]?=zj from hz]at hj;cases hj
   |some t=>
   rw[show(YR ls[i].flatten)[j]?=zd t from hz]at hj;cases hj;have htf:t∈ls[i].flatten:=(Wc _).mem_iff.mp (Qq hz);obtain⟨r,hr,htr⟩:=JY.mp htf;have htb:=gr.there r hr t htr;have hwo:=E1 (o:=o) g ga hls htf;have hF:F ((i:Int),t)=Zu ls o old ts i ls[i] t:=by show Zu ls o old ts (i:Int).toNat (ls.getD (i:Int).toNat []) t=_;rw[QY,Qm,hls];rfl
   rw[←hF]at hwo;have hwb:=OU (o:=o) g ga (MN (k:=0) hls htf);rw[QU]at hwb;have hwb:0<=F ((i:Int),t)/\F ((i:Int),t)<18446744073709551616:=hwb;have bH:oIx (.list (as.map int)) (.int (i:Nat))=zd (.int (as.getD i 0)):=Vf (k:=(i:Int)) (by omega) (by omega);have hip:oIx (.list (ps.map int)) (.int t)=zd (.int (ps.getD t.toNat 0)):=Vf htb.1 (by omega);have eT:Z8 F ((W.take (j+1)).map λt=>((i:Int),t)) tm as ps=Z8 F ((W.take j).map λt=>((i:Int),t)) tm as ps++Z8 F [((i:Int),t)] tm as ps:=by unfold Z8;rw[List.take_add_one,hz,QA,List.filter_append];rfl
   have hlen:((Z8 F (U7 0 (ls.take i)) tm as ps++Z8 F ((W.take j).map λt=>((i:Int),t)) tm as ps).map Kp).length<1000000:=by rw[Qb,Qi];have h2:(Z8 F ((W.take j).map λt=>((i:Int),t)) tm as ps).length<=((W.take j).map λt=>((i:Int),t)).length:=J7 _ _;rw[Qb,QT]at h2;omega
   refine⟨_,UT (Qa zh) zh,?_⟩;unfold HJ;refine Kw (b:=decide (as.getD i 0+ps.getD t.toNat 0=tm*F ((i:Int),t))) (ρ1:=[S0,S1,S2,zd (.own (((Z8 F (U7 0 (ls.take i)) tm as ps)++Z8 F ((W.take j).map λt=>((i:Int),t)) tm as ps).map Kp)),zd (.pub (.int (i:Nat))),zd (.pub (.int t))]) (U2 (U2 (U2 (Kr zh UW LD) (UM zh) bH) (U2 (Kr zh UW LC) (UM zh) hip) KW) (U2 (Kr zh UW Lx) (Kg (UP (UM zh) (UP (UM zh) (UP (UM zh) (UP (UM zh) UV)))) zh hwo) (XE (by omega) hwb.2)) YI) (λh=>?_) λh=>?_
   .have h:as.getD i 0+ps.getD t.toNat 0=tm*F ((i:Int),t):=Qa h
    refine Z7 (WG zh (Zk (UP (UM zh) (UP (UM zh) UV)) (Qa zh)) zh hlen zh) (KU ⟨zd (.pub (.int t)),?_⟩);rw[eT,show Z8 F [((i:Int),t)] tm as ps=[((i:Int),t)]from List.filter_cons_of_pos (by rw[QY];exact QW h),←Q5,QA (l₂:=[((i:Int),t)])];rfl
   .have h:¬as.getD i 0+ps.getD t.toNat 0=tm*F ((i:Int),t):=Q9 h
    refine KO (KU ⟨zd (.pub (.int t)),?_⟩);rw[eT,show Z8 F [((i:Int),t)] tm as ps=[]from List.filter_cons_of_neg (by rw[Int.toNat_natCast];simpa using h),List.append_nil]
  case hend=>
   rintro ρ ⟨x5,rfl⟩;refine KU ⟨zd (.pub (.int (i:Nat))),x5,?_⟩;have e:U7 0 (ls.take (i+1))=U7 0 (ls.take i)++W.map λt=>((i:Int),t):=by rw[List.take_succ_eq_append_getElem (by omega),Fq,QT,Nat.min_eq_left (by omega),QU];show _++((YR ls[i].flatten).map (λt=>((i:Int),t))++[])=_;rw[Jd]
   have e2:Z8 F (U7 0 (ls.take (i+1))) tm as ps=Z8 F (U7 0 (ls.take i)) tm as ps++Z8 F (W.map λt=>((i:Int),t)) tm as ps:=by rw[e];exact List.filter_append ..
   rw[e2,Qb,Jm]
 case hend=>rintro ρ ⟨x4,x5,rfl⟩;rw[YX,Qb];refine KI (Kk (Yi rfl rfl) ?_);rw[show((ls.length:Int)-0).toNat=ls.length by omega,Jm]
def BI  {L:LP}:oIn (Kp q) (.list (L.map Kp))=zd (decide (q∈L)):=by
 have hlay:UC (L.map Kp)=zk:=TK λx hx=>by obtain⟨y,_,rfl⟩:=Qo.mp hx;rfl
 show(if(Kp q).canLay0=zk/\UC (L.map Kp)=zk/\(Kp q).depth<=60 then zd _ else zj)=_
 rw[if_pos ⟨rfl,hlay,by show(PyData.tuple [.int q.1,.int q.2]).depth<=60;simp[UD,PyData.depthAll]⟩]
 congr 1
 have e:∀p , UE (Kp p) (Kp q)=decide (p=q):=λp=>by
  show(p.1==q.1&&(p.2==q.2&&zk))=_
  obtain⟨a,b⟩:=p;obtain⟨c,d⟩:=q;by_cases h1:a=c<;>by_cases h2:b=d<;>simp[h1,h2]
 rw[JO,JK,Jg];constructor
 .rintro⟨y,hy,h⟩
  obtain⟨p,hp,rfl⟩:=Qo.mp hy;rw[e]at h;rw[←Qa h];exact hp
 .intro h
  exact⟨Kp q,List.mem_map.mpr ⟨q,h,rfl⟩,by rw[e];simp⟩
def xA(g:Good cs ls)(ok:OkP cs.length ls.length (Kj ls o old ts) (U7 0 ls) tm as ps)(dl:Deal cs ls ws):∃b,WU [Kq cs ls,KM tm as ps,.list ((Z8 (U4 (Kj ls o old ts)) (U7 0 ls) tm as ps).map Kp),U9 ws]=zd (.bool b)/\(b=zk ↔ RM cs (U4 (Kj ls o old ts)) tm as ps ws):=by
 have l7:=g.l7;have c6:=g.c6;have hla:=ok.la;have ao:=ok.lp;have hdl:=dl.len
 let F:=U4 (Kj ls o old ts)
 let TW:=Z8 F (U7 0 ls) tm as ps
 have hqs:=RU dl
 have main:∃d,WU [Kq cs ls,KM tm as ps,.list (TW.map Kp),U9 ws]=zd d/\∃b,d=.bool b/\(b=zk ↔ RM cs F tm as ps ws):=by
  refine XB (ρ:=[zd (.pub (Kq cs ls)),zd (.pub (KM tm as ps)),zd (.pub (.list (TW.map Kp))),zd (.pub (U9 ws)),zj,zj]) zh ?_;unfold Sk
  let S0:Option Sl:=zd (.pub (Kq cs ls))
  let S1:Option Sl:=zd (.pub (KM tm as ps))
  let S2:Option Sl:=zd (.pub (.list (TW.map Kp)))
  let S3:Option Sl:=zd (.pub (U9 ws))
  apply KL;apply Zs (λi ρ=>(∃x4 x5,ρ=[S0,S1,S2,S3,x4,x5])/\(∀(j:Nat) t,j<i->ws[j]?=zd (zd t)->tm*F ((j:Int),t)=as.getD j 0+ps.getD t.toNat 0)/\∀j:Nat,j<i->ws[j]?=zd zj->as.getD j 0=0)
  case h1=>exact Xc (UP (UM zh) UV) Xe
  case h0=>exact⟨⟨_,_,rfl⟩,λj t h=>absurd h (Je _),λj h=>absurd h (Je _)⟩
  case hst=>
   rintro i d ρ hi ⟨⟨x4,x5,rfl⟩,k1,k2⟩;obtain⟨x,hx,rfl⟩:=Xd hi;rw[Qd]at hx;cases hw:ws[i]? with
   |none=>rw[hw]at hx;cases hx
   |some ot=>
   rw[hw]at hx;cases hx;have zG:i<ws.length:=(Qg.mp hw).1;refine⟨_,Km zh (UZ (UT (Qa zh) zh) (UZ (UT (Qa zh) zh) Kn)),?_⟩;rw[QU];unfold Gw;have bH:oIx (.list (as.map int)) (.int (i:Nat))=zd (.int (as.getD i 0)):=Vf (k:=(i:Int)) (by omega) (by omega);cases ot with
   |none=>
    refine Kw (b:=decide (0<as.getD i 0)) (ρ1:=[S0,S1,S2,S3,zd (.pub (.int (i:Nat))),zd (.pub .none)]) (Yk (TF (Ry (UM zh) zh)) (Vg (ρ1:=[S0,S1,S2,S3,zd (.pub (.int (i:Nat))),zd (.pub .none)]) zh (U2 (U2 (Kr zh UW LD) (UM zh) bH) UW TZ))) (λh=>?_) λh=>?_
    .refine Kk UW (Vi (ZK ⟨_,rfl,zm,rfl,λz=>(by cases z),λz=>?_⟩))
     have:=z.non i hw;have h:=Qa h;omega
    .have h:=Q9 h
     have h0:0<=as.getD i 0:=by rw[Qm,Qe (by omega)];exact ok.aa _ (Jp _)
     refine KO (KU ⟨⟨_,_,rfl⟩,λj t hj e=>?_,λj hj e=>?_⟩)
     .by_cases z:j=i
      .subst z;rw[hw]at e;cases e
      .exact k1 j t (by omega) e
     .by_cases z:j=i
      .subst z;omega
      .exact k2 j (by omega) e
   |some t=>
    have hq:=hqs.wish i t hw
    have hin:decide (((i:Int),t)∈TW)=decide (as.getD i 0+ps.getD t.toNat 0=tm*F ((i:Int),t)):=by
     rw[JO,Jg,Jg]
     show((i:Int),t)∈List.filter _ _ ↔ _
     rw[List.mem_filter,Jg,QY];exact⟨λh=>h.2,λh=>⟨hq,h⟩⟩
    have aJ:ZW (Kp ((i:Int),t)) (.list (TW.map Kp))=zd (!decide (as.getD i 0+ps.getD t.toNat 0=tm*F ((i:Int),t))):=by unfold ZW;rw[BI,hin];rfl
    refine Kw (b:=(!decide (as.getD i 0+ps.getD t.toNat 0=tm*F ((i:Int),t)))) (ρ1:=[S0,S1,S2,S3,zd (.pub (.int (i:Nat))),zd (.pub (.int t))]) ?_ (λh=>?_) λh=>?_
    .have ha:=Vg (g:=UQ ZW (Kl (UO (UL 4) (UO (UL 5) UN))) (UL 2)) (f:=U0 (λd=>!isNon d) (UL 5)) (ρ:=[S0,S1,S2,S3,zd (.pub (.int (i:Nat))),zd (.pub (.int t))]) (Ry (UM zh) zh) (U2 (Zk (UP (UM zh) (UP (UM zh) UV)) (Qa zh)) (UM zh) aJ)
     generalize (!decide (as.getD i 0+ps.getD t.toNat 0=tm*F ((i:Int),t)))=bb at ha;cases bb with
     |true=>exact WF ha
     |false=>exact Yk ha (TF zh)
    .refine Kk UW (Vi (ZK ⟨_,rfl,zm,rfl,λz=>(by cases z),λz=>?_⟩))
     have h:¬as.getD i 0+ps.getD t.toNat 0=tm*F ((i:Int),t):=by simpa using h
     exact absurd (z.got i t hw).symm h
    .have h:as.getD i 0+ps.getD t.toNat 0=tm*F ((i:Int),t):=by simpa using h
     refine KO (KU ⟨⟨_,_,rfl⟩,λj u hj e=>?_,λj hj e=>?_⟩)
     .by_cases z:j=i
      .subst z;rw[hw]at e;cases e;exact h.symm
      .exact k1 j u (by omega) e
     .by_cases z:j=i
      .subst z;rw[hw]at e;cases e
      .exact k2 j (by omega) e
  case hend=>
  rintro ρ ⟨⟨x4,x5,rfl⟩,k1,k2⟩;rw[Yt,Qb]at k1 k2;refine KI ?_;apply KL;have zU:Ki [.list (cs.map int)]=zd (.int (cs.length:Nat)):=by rw[K8,Qb]
  apply Zs (λk ρ=>(∃x5,ρ=[S0,S1,S2,S3,x4,x5])/\∀j:Nat,j<k->ps.getD j 0=0∨((ws.count (zd (j:Int)):Nat):Int)=cs.getD j 0)
  case h1=>exact X6 (UP (Zf (UP (Kr zh UW WB) UV) zU) UV) (X7 (by omega) (by omega))
  case h0=>exact⟨⟨_,rfl⟩,λj h=>absurd h (Je _)⟩
  case hst=>
   rintro k d ρ hk ⟨⟨x5,rfl⟩,k3⟩;obtain⟨rfl,hlt⟩:=WK hk;have zK:k<cs.length:=by omega
   refine⟨_,UT (Qa zh) zh,?_⟩;rw[Jv];unfold Gx;have hip:oIx (.list (ps.map int)) (.int (k:Nat))=zd (.int (ps.getD k 0)):=Vf (k:=(k:Int)) (by omega) (by omega);have hic:oIx (.list (cs.map int)) (.int (k:Nat))=zd (.int (cs.getD k 0)):=Vf (k:=(k:Int)) (by omega) (by omega);have hp0:0<=ps.getD k 0:=by rw[Qm,Qe (by omega)];exact ok.pp _ (Jp _)
   have bN:=dl.cop k (cs.getD k 0) (by rw[Qm,Qe zK];rfl);refine Kw (b:=decide (0<ps.getD k 0)&&decide (((ws.count (zd (k:Int)):Nat):Int)<cs.getD k 0)) (ρ1:=[S0,S1,S2,S3,x4,zd (.pub (.int (k:Nat)))]) (NK (U2 (U2 (Kr zh UW LC) (UM zh) hip) UW TZ) λ_=>U2 (OW (UM zh) (UP (UM zh) UV) O4) (U2 (Kr zh UW WB) (UM zh) hic) TZ) (λh=>?_) λh=>?_
   .refine Kk UW (Vi (ZK ⟨_,rfl,zm,rfl,λz=>(by cases z),λz=>?_⟩))
    obtain⟨h1,h2⟩:=JV.mp h;have h1:=Qa h1;have h2:=Qa h2;rcases z.all k zK with y|y<;>omega
   .refine KO (KU ⟨⟨_,rfl⟩,λj hj=>?_⟩)
    by_cases z:j=k
    .subst z
     by_cases y:0<ps.getD j 0
     .refine .inr ?_
      rw[QW y,Bool.true_and]at h;have:=Q9 h;omega
     .exact .inl (by omega)
    .exact k3 j (by omega)
  case hend=>rintro ρ ⟨⟨x5,rfl⟩,k3⟩;rw[YX,show((cs.length:Int)-0).toNat=cs.length by omega]at k3;refine KI (Kk UW ⟨_,rfl,zk,rfl,λ_=>⟨λi t e=>k1 i t (Qg.mp e).1 e,λi e=>k2 i (Qg.mp e).1 e,k3⟩,λ_=>rfl⟩)
 obtain⟨d,h1,b,rfl,h2⟩:=main;exact⟨b,h1,h2⟩
end
theorem Lh{α:Type}{p q}:∀{l:List α},(∀x∈l,p x=zk->q x=zk)->l.countP q=l.countP p->∀x∈l,q x=zk->p x=zk
 |[],_,_,x,hx,_=>by simp_all
 |a::l,h,e,x,hx,hq=>by
  have h':=λy hy=>h y (Qj _ hy);have le:=List.countP_mono_left h';rw[List.countP_cons,List.countP_cons]at e;have ha:=h a Ql
  cases cp:p a with
  |true=>
   rw[cp,ha cp]at e;rcases QB.mp hx with rfl|hx
   .exact cp
   .exact Lh h' (by lia) x hx hq
  |false=>
   rw[cp]at e;cases cq:q a with
   |true=>rw[cq]at e;simp at e;lia
   |false=>
    rw[cq]at e;rcases QB.mp hx with rfl|hx
    .lia
    .exact Lh h' (by simpa using e) x hx hq
def xz{S:List Stp}{V:Nat->Int}{n:Nat}(hS:∀s∈S,s.a<n+1/\s.b<n+1)(st:∀s∈S,V s.a+s.g<=V s.b){s:Stp}(hs:s∈S)(e:KN (YJ S V) V n s.a+((n+1:Nat):Int)*s.g=KN (YJ S V) V n s.b):s∈YJ S V/\Tt (YJ S V) s.b s.a:=by
 have hT:∀s∈YJ S V,s.a<n+1/\s.b<n+1:=λs h=>hS s (Jl.mp h).1;have h1:=st s hs;have hab:=hS s hs;have self:Ky _ s.b=zk:=(T6 hT (Jk _)).mpr ⟨[],.nil _⟩;have lb:0<ZQ (YJ S V) (n+1) s.b:=List.countP_pos_iff.mpr ⟨s.b,QN.mpr hab.2,self⟩;unfold KN at e
 by_cases c:V s.a+s.g=V s.b
 .have hm:s∈YJ S V:=Jl.mpr ⟨hs,QW c⟩
  rw[←c,Int.mul_add]at e;have le:ZQ (YJ S V) (n+1) s.b=ZQ (YJ S V) (n+1) s.a:=by lia
  refine⟨hm,?_⟩;have:=Lh   (l:=Uw (n+1)) (λq _ h=>by obtain⟨w,hw⟩:=(T6 hT (Jk _)).mp h;exact(T6 hT (Jk _)).mpr ⟨_,hw.append (.cons hm (.nil _))⟩) le s.b (QN.mpr hab.2) self;exact(T6 hT (Jk _)).mp this
 .have l1:=LU (YJ S V) (n+1) s.a
  have h2:((n+1:Nat):Int)*(V s.a+s.g+1)<=((n+1:Nat):Int)*V s.b:=Int.mul_le_mul_of_nonneg_left (by lia) (by lia)
  lia
section
variable{cs:zo}{f:Int×Int->Int}{qs:LP}{m:Nat}{ws us:LO}{T:List Stp}{as ps:zo}{L:zA}
theorem Em{α β:Type}{f:α->β}:∀{l:List α},(l.map f).Nodup->∀{x y},x∈l->y∈l->f x=f y->x=y
 |a::l,h,x,y,hx,hy,e=>by
  rw[QC,Ud]at h;rcases QB.mp hx with h1|h1<;>rcases QB.mp hy with h2|h2
  .simp_all
  .exact absurd (Qo.mpr ⟨y,h2,by rw[←e,h1]⟩) h.1
  .exact absurd (Qo.mpr ⟨x,h1,by rw[e,h2]⟩) h.1
  .exact Em h.2 h1 h2 e
theorem El  {i}:∀(R:List Stp)(d),(∀s∈R,s.w≠zd i)->(R.foldl (app n) d)[i]?=d[i]?
 |[],d,_=>rfl
 |s::R,d,h=>by
  rw[Ju,El R _ λx hx=>h x (Qj _ hx)];unfold app;cases hw:s.w with
  |none=>rfl
  |some j=>rw[Qr λz=>h s Ql (by rw[hw,z])]
theorem HV  : ∀(R:List Stp)(d),(R.foldl (app n) d).length=d.length
 |[],d=>rfl
 |s::R,d=>by
  rw[Ju,HV R];unfold app;cases s.w with
  |none=>rfl
  |some j=>exact Jc
theorem LS  {i}:∀(R:List Stp)(d)(s),s∈R->s.w=zd i->(∀x∈R,x.w=zd i->x=s)->i<d.length->(R.foldl (app n) d)[i]?=zd (ZN n s.b)
 |x::R,d,s,hs,hw,hu,hi=>by
  rw[Ju];by_cases c:s∈R
  .exact LS R _ s c hw (λy hy=>hu y (Qj _ hy)) (by have:=HV (n:=n) [x] d;rw[Ju,List.foldl_nil]at this;lia)
  .have hx:x=s:=by
    rcases QB.mp hs with h|h
    .exact h.symm
    .exact absurd h c
   subst hx;rw[El R _ λy hy z=>c (by rw[←hu y (Qj _ hy) z];exact hy)];unfold app;rw[hw];exact QQ hi
def HU(hp:ZD cs.length m qs)(hd:ZA cs qs m ws){r}(hr:∀s∈r,IsSt cs f qs ws s)(hn:(r.map Stp.a).Nodup)(h:WL cs.length ws r us){s}(hs:s∈r){i}(hw:s.w=zd i):us[i]?=zd (ZN cs.length s.b):=by
 obtain⟨b,rfl⟩:=h;have pr:=RV b r
 have ai:∀x∈r,∀j,x.w=zd j->j<ws.length/\x.a=plF cs.length (ws.getD j zj):=λx hx j e=>by
  cases hr x hx with
  |@mv i o o' h1 _ _=>cases e;exact⟨(Qg.mp h1).1,by rw[MH h1]⟩
  |left _ _=>cases e
  |give _=>cases e
 refine LS _ ws s (pr.mem_iff.mpr hs) hw (λx hx hxw=>?_) (ai s hs i hw).1;have hx:=pr.mem_iff.mp hx;have e   :=(ai x hx i hxw).2.trans (ai s hs i hw).2.symm;exact Em hn hx hs e
theorem LR   (hw:s.w=zj)(hb:s.b=t):∀R:List Stp,s∈R->nIn t R<(R.map Stp.b).count t
 |x::R,hs=>by
  have le:=NG t R;rw[QC,Uf];by_cases c:s∈R
  .have ih:=LR hw hb R c
   unfold nIn at ih⊢;rw[List.filter_cons];split
   .simp_all
   .lia
  .have hx:x=s:=by
    rcases QB.mp hs with h|h
    .exact h.symm
    .exact absurd h c
   subst hx;unfold nIn at le⊢;rw[List.filter_cons_of_neg (by rw[hw];simp),if_pos (by rw[hb];simp)]
   lia
def ka(hp:ZD cs.length m qs)(hd:ZA cs qs m ws){r:List Stp}(hr:∀s∈r,IsSt cs f qs ws s)(hn:(r.map Stp.a).Nodup)(hb:(r.map Stp.b).Perm (r.map Stp.a))(h:WL cs.length ws r us){s:Stp}(hs:s∈r)(hw:s.w=zj){k:Nat}(hk:k<cs.length)(hsb:s.b=k):((us.count (zd (k:Int)):Nat):Int)<cs.getD k 0:=by
 obtain⟨b,rfl⟩:=h;have pr:=RV b r;have hR   :=λs hs=>hr s (pr.mem_iff.mp hs);have hnR   :=(pr.map Stp.a).nodup_iff.mpr hn;have hbR   :=((pr.map Stp.b).trans hb).trans (pr.map Stp.a).symm
 obtain⟨k1,k2,k3,k4⟩:=P1 hp hd (rot b r) ws hR hnR (λs hs i e=>rfl) zh hd.wish;rw[k4 k hk];have hc:cs[k]?=zd (cs.getD k 0):=by rw[Qm,Qe hk];rfl
 have h0:=hd.cop k _ hc;have h1   :=List.nodup_iff_count.mp hnR k;have h2:=LR hw hsb (rot b r) (pr.mem_iff.mpr hs);rw[hbR.count_eq]at h2;have hmem:k∈(rot b r).map Stp.a:=List.count_pos_iff.mp (by lia);obtain⟨x,hx,hxt⟩:=Qo.mp hmem;cases hR x hx with
 |@mv i o o' h hne zT=>
  have:1<=XH k (rot b r):=by unfold XH;exact List.length_pos_iff.mpr (List.ne_nil_of_mem (List.mem_filter.mpr ⟨hx,by simpa using hxt⟩))
  lia
 |@left u c' h hl=>
  have hxt:u=k:=hxt;subst hxt;rw[h]at hc;cases hc
  lia
 |@give u h=>
  lia
def OE(wq:WebQ cs f qs m ws T as ps L){k}(hk:k<cs.length):ps.getD k 0=KN T (prW cs f qs ws) cs.length k:=by rw[wq.ep,Qm,Qd,QR hk];rfl
def Lg(hp:ZD cs.length m qs)(wq:WebQ cs f qs m ws T as ps L):KN T (prW cs f qs ws) cs.length cs.length=0:=by have vn:=(OT (V:=prW cs f qs ws) hp wq.dl (Wd hp wq.dl) (R5 hp wq.dl) (λp=>rfl) wq.st).2;unfold KN;simp_all
def Ek(hp:ZD cs.length m qs)(wq:WebQ cs f qs m ws T as ps L):RM cs f ((cs.length+1:Nat):Int) as ps ws:=(Ni hp wq.dl wq.ok).2.mp wq.cl.symm
def MD(hp:ZD cs.length m qs)(wq:WebQ cs f qs m ws T as ps L){s:Stp}(hs:IsSt cs f qs ws s)(e:KN T (prW cs f qs ws) cs.length s.a+((cs.length+1:Nat):Int)*s.g=KN T (prW cs f qs ws) cs.length s.b)(hl:¬(s.w=zj/\s.b=cs.length)):∃us∈L,∃r,s∈r/\(∀x∈r,IsSt cs f qs ws x)/\(r.map Stp.a).Nodup/\(r.map Stp.b).Perm (r.map Stp.a)/\WL cs.length ws r us:=by
 obtain⟨st,vn⟩:=OT  hp wq.dl (Wd hp wq.dl) (R5 hp wq.dl) (λp=>rfl) wq.st;have hS:∀s∈Z9 cs f qs ws,s.a<cs.length+1/\s.b<cs.length+1:=λs hs=>(Wd hp wq.dl s hs).lt hp wq.dl;rw[wq.tt]at e
 obtain⟨h1,h2⟩:=xz hS st (R5 hp wq.dl s hs) e;rw[←wq.tt]at h1 h2;obtain⟨us,hu,w,p1,p2,p3⟩:=wq.shw s h1 h2 hl;obtain⟨r1,r2⟩:=EY h1 p1 p2;refine⟨us,hu,s::w,Ql,λx hx=>?_,r2,MY r1,p3⟩;have:=r1.mem x hx;rw[wq.tt]at this;exact Wd hp wq.dl x (Jl.mp this).1
def j9{n:Nat}{t:Int}(h0:0<=t)(h1:t<n):ZN n t.toNat=zd t:=by
 unfold ZN
 grind
def j8(hp:ZD cs.length m qs)(wq:WebQ cs f qs m ws T as ps L){i:Nat}{t:Int}(hq:((i:Int),t)∈qs)(e:((cs.length+1:Nat):Int)*f ((i:Int),t)=as.getD i 0+ps.getD t.toNat 0):∃us∈L,us[i]?=zd (zd t):=by
 have hb:=hp.lo _ hq;have zG:i<ws.length:=by rw[wq.dl.len];have:=hb.2.1;omega
 have hw   :=Qe zG;generalize ws[i]=o at hw;have tw:=Ek hp wq;by_cases c:o=zd t
 .exact⟨ws,wq.fst,by rw[hw,c]⟩
 .have hs:IsSt cs f qs ws ⟨plF cs.length o,plF cs.length (zd t),Ko f i (zd t)-Ko f i o,zd i⟩:=.mv hw (λz=>c z.symm) λu e=>by cases e;exact hq
  have hpt:=OE wq (k:=t.toNat) (by have:=hb.2.2;omega)
  have he:KN T (prW cs f qs ws) cs.length (plF cs.length o)+((cs.length+1:Nat):Int)*(f ((i:Int),t)-Ko f i o)=KN T (prW cs f qs ws) cs.length t.toNat:=by
   rw[←hpt,Int.mul_sub];cases o with
   |none=>have h1:=tw.non i hw;have h2:=Lg hp wq;show KN T (prW cs f qs ws) cs.length cs.length+(_-((cs.length+1:Nat):Int)*0)=_;rw[h2,Ub];omega
   |some u=>have h1:=tw.got i u hw;have hu:=hp.lo _ (wq.dl.wish i u hw);have h2:=OE wq (k:=u.toNat) (by have:=hu.2.2;omega);show KN T (prW cs f qs ws) cs.length u.toNat+(_-((cs.length+1:Nat):Int)*f ((i:Int),u))=_;omega
  obtain⟨us,hu,r,r1,r2,r3,_,r4⟩:=MD hp wq hs he (λz=>by cases z.1);refine⟨us,hu,?_⟩;rw[HU hp wq.dl r2 r3 r4 r1 zh];show zd (ZN cs.length t.toNat)=_;rw[j9 hb.2.2.1 hb.2.2.2]
def wz(hp:ZD cs.length m qs)(wq:WebQ cs f qs m ws T as ps L){i:Nat}(hi:i<m)(e:as.getD i 0=0):∃us∈L,us[i]?=zd zj:=by
 have zG:i<ws.length:=by rw[wq.dl.len];exact hi
 have hw   :=Qe zG;generalize ws[i]=o at hw;have tw:=Ek hp wq;cases o with
 |none=>exact⟨ws,wq.fst,hw⟩
 |some u=>
  have hs:IsSt cs f qs ws ⟨plF cs.length (zd u),plF cs.length zj,Ko f i zj-Ko f i (zd u),zd i⟩:=.mv hw (λz=>by cases z) λu e=>by cases e
  have h1:=tw.got i u hw;have hu:=hp.lo _ (wq.dl.wish i u hw);have h2:=OE wq (k:=u.toNat) (by lia);have h3:=Lg hp wq;have he:KN T (prW cs f qs ws) cs.length u.toNat+((cs.length+1:Nat):Int)*(0-f ((i:Int),u))=KN T (prW cs f qs ws) cs.length cs.length:=by rw[h3,←h2,Int.mul_sub,Ub];omega
  obtain⟨us,hu,r,r1,r2,r3,_,r4⟩:=MD hp wq hs he (λz=>by cases z.1);refine⟨us,hu,?_⟩;rw[HU hp wq.dl r2 r3 r4 r1 zh];show zd (ZN cs.length cs.length)=_;unfold ZN;rw[Qu zh]
def wy(hp:ZD cs.length m qs)(wq:WebQ cs f qs m ws T as ps L){k}(hk:k<cs.length)(e:ps.getD k 0=0):∃us∈L,((us.count (zd (k:Int)):Nat):Int)<cs.getD k 0:=by
 have h2:=OE wq hk;have h3:=Lg hp wq;have he:KN T (prW cs f qs ws) cs.length cs.length+((cs.length+1))*0=KN T (prW cs f qs ws) cs.length k:=by rw[h3,←h2,e];rfl
 obtain⟨us,hu,r,r1,r2,r3,r5,r4⟩:=MD hp wq (.give hk) he (λz=>by lia);exact⟨us,hu,ka hp wq.dl r2 r3 r5 r4 r1 zh hk zh⟩
structure Ts(cs:zo)(f:Int×Int->Int)(qs:LP)(m:Nat)(us:LO):Prop where
 dl:ZA cs qs m us
 mx:∀vs,ZA cs qs m vs->Kc f 0 vs<=Kc f 0 us
end
section
variable{cs:zo}{ls:L3}{ws:LO}{W:List (Nat×zx)}{o:Ord}{old:zC}{ts:zo}
def j7(g:Good cs ls)(ga:Ym cs.length ls.length old ts)(dl:Deal cs ls ws):XX [Kq cs ls,KF o old ts,U9 ws]=zd (.int (ZI (YC (Zu ls o old ts) 0 ls ws))):=by
 let S0:Option Sl:=zd (.pub (Kq cs ls))
 let S1:Option Sl:=zd (.pub (KF o old ts))
 let S2:Option Sl:=zd (.pub (U9 ws))
 have hl:=dl.len
 let G:=YC (Zu ls o old ts) 0 ls ws
 refine KY (ρ:=[S0,S1,S2,zj,zj,zj]) zh ?_;unfold Ss;refine Kf (Kt UW (Qa zh) zh) ?_;apply KL;apply Zs (λk ρ=>∃x4 x5,ρ=[S0,S1,S2,zd (.pub (.int (ZI (G.take k)))),x4,x5])
 case h1=>exact Xc (UP (UM zh) UV) Xe
 case h0=>exact⟨_,_,rfl⟩
 case hst=>
  rintro k d ρ hk ⟨x4,x5,rfl⟩;obtain⟨x,hx,rfl⟩:=Xd hk;rw[QU];rw[Qd]at hx;cases hp:ws[k]? with
  |none=>rw[hp]at hx;cases hx
  |some w=>
  rw[hp]at hx;cases hx;have zK:k<ls.length:=by have:=(Qg.mp hp).1;lia
  have hs:ls[k]?=zd ls[k]:=Qe zK;have hG   :=by have:=MJ (W:=Zu ls o old ts) (k:=0) hs hp;rw[QU]at this;exact this
  have bu:ZI (G.take (k+1))=ZI (G.take k)+(w.map (Zu ls o old ts k ls[k])).getD 0:=by
   rw[JN,hG,yq]
   congr 1
   exact(F6 (l:=[])).trans (Int.add_zero _)
  refine⟨_,Km zh (UZ (UT (Qa zh) zh) (UZ (UT (Qa zh) zh) Kn)),?_⟩;unfold Gy;cases w with
  |none=>
   refine Kw (b:=zm) (Ry (d:=.none) (UM zh) zh) (λz=>by cases z) λ_=>KO (KU ⟨zd (.pub (.int (k:Nat))),zd (.pub .none),?_⟩)
   rw[bu];show _=[S0,S1,S2,zd (.pub (.int (ZI (G.take k)+0))),_,_];rw[Int.add_zero];rfl
  |some t=>
   refine Kw (b:=zk) (Ry (d:=.int t) (UM zh) zh) (λ_=>Z7 (Kt (U2 (UM zh) (Kg (UP (UM zh) (UP (UM zh) (UP (UM zh) (UP (UM zh) UV)))) zh (E1 g ga hs (dl.wish k t _ hp hs))) KW) (Qa zh) zh) (KU ⟨zd (.pub (.int (k:Nat))),zd (.pub (.int t)),?_⟩)) λz=>by cases z
   rw[bu];rfl
 case hend=>rintro ρ ⟨x4,x5,rfl⟩;refine KI (Kk (UM rfl) ?_);rw[Yt,Qb,List.take_of_length_le (by rw[MK hl];lia)]
end
def XJ(n:Nat):D->Bool
 |.list xs=>decide (xs.length=n)&&xs.all (λx=>isNon x || whB x)
 |_=>zm
def OR(n)(xs:zn):XJ n (.list xs)=(decide (xs.length=n)&&xs.all (λx=>isNon x || whB x)):=rfl
theorem FD:∀{xs},xs.all (λx=>isNon x || whB x)=zk->∃ws:LO,xs=ws.map Kb
 |[],_=>⟨[],rfl⟩
 |x::r,h=>by
  rw[Uk,QM]at h;obtain⟨ws,rfl⟩:=FD h.2;cases x with
  |int i=>exact⟨zd i::ws,rfl⟩
  |none=>exact⟨none::ws,rfl⟩
  |_=>have z:=h.1;cases z
def MC   (h:XJ n d=zk):∃ws,d=U9 ws/\ws.length=n:=by
 cases d with
 |list xs=>rw[OR,QM]at h;obtain⟨ws,rfl⟩:=FD h.2;exact⟨ws,rfl,by have:=Qa h.1;rw[Qb]at this;exact this⟩
 |_=>cases h
def yz{d:D}{n:Nat}(hl:∀xs,d=.list xs->xs.length<=1000):W3 [d,.int n]=zd (.bool (XJ n d)):=by
 refine KY  rfl ?_;unfold VE;apply KL;cases d with
 |list xs=>
  have hl:=hl xs zh;refine Kw   (Yk (YU (UM zh) zh) (U2 (Zg zh K8) (UM zh) Vo)) (λhh=>?_) (λhh=>?_)
  .have h3   :=by simpa using hh
   refine Kk UW (ZK ?_);rw[OR,QZ (by omega)];rfl
  .have h3:(xs.length:Int)=(n:Int):=by simpa using hh
   refine KO (KI ?_)
   have hc:K6 (gN 2) (UR zk) (Y4 (U0 (λd=>.bool (isNon d)) (UL 2)) (UX 1 Yd (UO (UL 2) (UN)))) xs (KD [zd (.pub (.list xs)),zd (.pub (.int n))]++Ux 1 zj) []=zd ((xs.map λd=>isNon d || whB d).map Uz):=by
    rw[Vu (λ_=>zk) (λd=>.bool (isNon d || whB d)) (λρ=>∃x,ρ=[zd (.pub (.list xs)),zd (.pub (.int n)),x])]
    .rw[QJ.mpr (λ_ _=>rfl),Qy,QO];rfl
    .rintro d hm ρ ⟨x,rfl⟩
     exact⟨_,UT (Qa zh) zh,rfl,λ_=>T2 (Kx  (UM zh)) (λ_=>Kg (UP (UM zh) UV) zh (PQ d)),_,rfl⟩
    .exact⟨zj,rfl⟩
    .rw[Qt];omega
   refine Kk (Zf (UP (Kx (Zl (K7 (UM zh) Zh) hc)) UV) TD) ?_;rw[OR,QW (by omega),Ua];rfl
 |dict kvs=>exact Kw (b:=zk) (WF (OM (UM zh))) (λ_=>Kk UW (ZK zh)) (λz=>by cases z)
 |_=>exact Kw (b:=zk) (WF (YU (UM zh) zh)) (λ_=>Kk UW (ZK zh)) (λz=>by cases z)
noncomputable def YY(ls:L3)(ws:LO)(i:Nat):Bool:=match ws[i]? with
 |some (zd t)=>decide (Zr t (ls.getD i [])=0)
 |_=>zm
noncomputable def Wp(cs:zo)(ws:LO)(k:Nat):Bool:=decide (cs.getD k 0<((ws.count (zd (k:Int)):Nat):Int))
def Ps(cs:zo)(ws:LO):D:=match (Uw cs.length).find? (Wp cs ws)with
 |some k=>.tuple [.str "copies", .int k]
 |none=>.none
def TX(cs:zo)(ls:L3)(ws:LO):D:=match (Uw ws.length).find? (YY ls ws)with
 |some i=>.tuple [.str "wish", .int i]
 |none=>Ps cs ws
noncomputable def Hv  {n i}(hi:i<n)(h:p i=zk)(hb:∀j,j<i->p j=zm):(Uw n).find? p=zd i:=by simp_all
noncomputable def Hu  {n}(hb:∀j,j<n->p j=zm):(Uw n).find? p=zj:=by simp_all
section
variable{cs:zo}{ls:L3}{ws:LO}
def Ht   {t}(h1:ws[i]?=zd (zd t))(h2:ls[i]?=zd rs):YY ls ws i=decide (Zr t rs=0):=by unfold YY;simp_all
def Hs   (h:cs[k]?=zd c):Wp cs ws k=decide (c<((ws.count (zd (k:Int)):Nat):Int)):=by unfold Wp;simp_all
def j6(g:Good cs ls)(hl:ws.length=ls.length):W2 [Kq cs ls,U9 ws]=zd (TX cs ls ws):=by
 have l7:=g.l7;refine KY  rfl ?_;unfold Rg
 let S0:Option Sl:=zd (.pub (Kq cs ls))
 let S1:Option Sl:=zd (.pub (U9 ws))
 let S2:Option Sl:=zd (.pub (.list (cs.map int)))
 let S3:Option Sl:=zd (.pub (.list (ls.map K9)))
 refine Kf (We (Kg (UP (UM zh) UV) zh (Sa g))) ?_;refine Kf (ρ1:=[S0,S1,S2,S3,zj,zj,zj,zj]) (YW (UM zh) (Km zh (UZ (UT (Qa zh) zh) (UZ (UT (Qa zh) zh) Kn)))) ?_;apply KL;have hlen:Ki [.list (ls.map K9)]=zd (.int ws.length):=by rw[K8,Qb,hl]
 refine Kw (b:=zm) (ρ1:=[S0,S1,S2,S3,zj,zj,zj,zj]) (Yl (Yh (t:=zk) (Kg (UP (UM zh) (UP (Zg zh hlen) UV)) zh (yb (ws:=ws) (by omega))))) (λz=>by cases z) (λ_=>KO (KI ?_));apply KL;apply Zs (λi ρ=>∃x4 x5,ρ=[S0,S1,S2,S3,x4,x5,zj,zj]/\∀j,j<i->YY ls ws j=zm)
 case h1=>exact Xc (UP (UM zh) UV) Xe
 case h0=>exact⟨_,_,rfl,λj h=>absurd h (Je _)⟩
 case hst=>
  rintro i d ρ hi ⟨x4,x5,rfl,hI⟩;obtain⟨x,hx,rfl⟩:=Xd hi;rw[Qd]at hx;obtain⟨w,hw,rfl⟩:=Jz.mp hx;rw[QU];have hiw:i<ws.length:=(Qg.mp hw).1;refine⟨[S0,S1,S2,S3,zd (.pub (.int i)),zd (.pub (Kb w)),zj,zj],Km zh (UZ (UT (Qa zh) zh) (UZ (UT (Qa zh) zh) Kn)),?_⟩;unfold GA
  have nxt:∀j,YY ls ws i=zm->j<i+1->YY ls ws j=zm:=λj h hj=>by
   by_cases e:j=i
   .rw[e];exact h
   .exact hI j (by omega)
  cases w with
  |none=>exact Kw (b:=zm) (TF (Ry (UM zh) zh)) (λz=>by cases z) (λ_=>KO (KU ⟨_,_,rfl,λj hj=>nxt j (by unfold YY;rw[hw]) hj⟩))
  |some t=>
   have hls:ls[i]?=zd (ls[i]'(by omega)):=Qe (by omega);refine Kw (b:=decide (((Zr t (ls[i]'(by omega)):Nat):Int)=0))  (Vg (Ry (UM zh) zh) (U2 (Kg (UP (Kr zh (UM zh) (Nm hls)) (UP (UM zh) UV)) zh (EK t _)) UW YI)) (λh=>?_) (λh=>?_)
   .have h0:Zr t (ls[i]'(by omega))=0:=by have:=Qa h;omega
    refine Kk (Zk (UP UW (UP (UM zh) UV)) (Qa zh)) (Vi (ZK ?_));unfold TX;rw[Hv hiw (by rw[Ht hw hls,h0];rfl) hI]
   .have h0:¬Zr t (ls[i]'(by omega))=0:=by have:=Q9 h;omega
    exact KO (KU ⟨_,_,rfl,λj hj=>nxt j (by rw[Ht hw hls];exact QZ h0) hj⟩)
 case hend=>
  rintro ρ ⟨x4,x5,rfl,hI⟩;rw[Yt,Qb]at hI;have hW:TX cs ls ws=Ps cs ws:=by unfold TX;rw[Hu hI]
  rw[hW];refine KI ?_;apply KL;apply Zs (λi ρ=>∃x4 x5 x6 x7,ρ=[S0,S1,S2,S3,x4,x5,x6,x7]/\∀j,j<i->Wp cs ws j=zm)
  case h1=>exact Xc (UP (UM zh) UV) Xe
  case h0=>exact⟨_,_,_,_,rfl,λj h=>absurd h (Je _)⟩
  case hst=>
   rintro i d ρ hi ⟨x4,x5,x6,x7,rfl,hJ⟩;obtain⟨x,hx,rfl⟩:=Xd hi;rw[Qd]at hx;obtain⟨c,hc,rfl⟩:=Jz.mp hx;rw[QU];have hic:i<cs.length:=(Qg.mp hc).1;refine⟨[S0,S1,S2,S3,x4,x5,zd (.pub (.int i)),zd (.pub (.int c))],Km zh (UZ (UT (Qa zh) zh) (UZ (UT (Qa zh) zh) Kn)),?_⟩;unfold GB;refine Kw (ρ1:=[S0,S1,S2,S3,x4,x5,zd (.pub (.int i)),zd (.pub (.int c))]) (U2 (OW (UM zh) (UP (UM zh) UV) O4) (UM zh) TZ) (λh=>?_) (λh=>?_)
   .refine Kk (Zk (UP UW (UP (UM zh) UV)) (Qa zh)) (Vi (ZK ?_))
    unfold Ps;rw[Hv hic (by rw[Hs hc];exact h) hJ]
   .exact KO (KU ⟨_,_,_,_,rfl,λj hj=>by
     by_cases e:j=i
     .rw[e,Hs hc];exact h
     .exact hJ j (by omega)⟩)
  case hend=>rintro ρ ⟨x4,x5,x6,x7,rfl,hJ⟩;rw[Yt,Qb]at hJ;refine KI (Kk UW ?_);unfold Ps;rw[Hu hJ]
end
noncomputable abbrev ZB(tm:Int)(as ps:zo)(L:zA):D:=.tuple [KM tm as ps,.list (L.map U9)]
def BH(os:LO):oIn .none (.list (os.map Kb))=zd (os.any Option.isNone):=by
 show(if(PyData.none).canLay0=zk/\UC _=zk/\(PyData.none).depth<=60 then zd _ else zj)=_
 rw[if_pos ⟨rfl,OV os,by simp[UD]⟩]
 congr 1
 rw[J9]
 congr 1
 funext o;cases o<;>rfl
def FL(xs:zo):Yu 0 (xs.map int)=(Uw xs.length).map λi=>PyData.tuple [.int (i:Nat),.int (xs.getD i 0)]:=by
 apply J8;intro i;rw[Nf,Qd,Qd,QU];by_cases c:i<xs.length
 .simp_all
 .simp_all
def wx(l:List Bool):(l.map Uz).all flat=zk:=by rw[Q2];intro x hx;obtain⟨y,_,rfl⟩:=Qo.mp hx;rfl
section
variable{cs:zo}{ls:L3}{o:Ord}{old:zC}{ts:zo}{tm:Int}{as ps:zo}{ws us:LO}{L:zA}{m:Nat}
noncomputable def TL(L:zA)(T:LP):Bool:=T.all λq=>L.any λus=>decide (us.getD q.1.toNat zj=zd q.2)
noncomputable def Pb(L:zA)(as:zo):Bool:=(Uw as.length).all λi=>decide (0<as.getD i 0) || L.any λus=>(us.getD i zj).isNone
noncomputable def Pa(cs:zo)(L:zA)(ps:zo):Bool:=(Uw ps.length).all λk=>decide (0<ps.getD k 0) || L.any λus=>decide (0<(YF cs us).getD k 0)
def yS{T:LP}(hT:∀q∈T,0<=q.1/\q.1<m)(au:T.length<=1000)(hL:∀us∈L,us.length=m)(aO:L.length<=1000):W0 [.list (L.map U9),.list (T.map Kp)]=zd (.bool (TL L T)):=by
 refine KY  rfl ?_
 let S0:Option Sl:=zd (.pub (.list (L.map U9)))
 let S1:Option Sl:=zd (.pub (.list (T.map Kp)))
 refine Kk (Zf (UP (Kx (Zl (K7 (UM zh) Zh) ((Xf Kp (λ_=>zk) (λq=>Uz (L.any λus=>decide (us.getD q.1.toNat zj=zd q.2))) (λρ=>∃x y,ρ=[S0,S1,x,y]) T _ [] ?_ ⟨zj,zj,rfl⟩ (by rw[Qt];lia)).trans (by rw[Qy,QJ.mpr (λ_ _=>rfl)])))) UV) ?_) zh
 .rintro q hq ρ ⟨x,y,rfl⟩
  obtain⟨a1,a2⟩:=hT q hq;refine⟨_,Km zh (UZ (UT (Qa zh) zh) (UZ (UT (Qa zh) zh) Kn)),rfl,λ_=>Zf (UP (Kx (Zl (K7 (UM zh) Zh) ((Xf U9 (λ_=>zk) (λus=>Uz (decide (us.getD q.1.toNat zj=zd q.2))) (λρ=>∃x,ρ=[S0,S1,zd (.pub (.int q.1)),zd (.pub (.int q.2)),x]) L _ [] ?_ ⟨zj,rfl⟩ (by rw[Qt];lia)).trans (by rw[Qy,QJ.mpr (λ_ _=>rfl)])))) UV) ?_,_,_,rfl⟩
  .rintro us hu ρ ⟨x,rfl⟩
   exact⟨_,UT (Qa zh) zh,rfl,λ_=>Kx (U2 (Kr zh (UM zh) (PH a1 (by have:=hL us hu;lia))) (UM zh) (Ow (b:=zd q.2))),_,rfl⟩
  .rw[show(L.map λus=>Uz _)=(L.map λus=>decide _).map Uz by rw[QO];rfl,Go,J9]
   rfl
 .rw[show(T.map λq=>Uz _)=(T.map λq=>L.any λus=>decide _).map Uz by rw[QO];rfl,TD,Ua]
  rfl
def yY(ha:as.length=m)(hm:m<=1000)(hL:∀us∈L,us.length=m)(aO:L.length<=1000):V3 [.list (L.map U9),.list (as.map int)]=zd (.bool (Pb L as)):=by
 refine KY  rfl ?_
 let S0:Option Sl:=zd (.pub (.list (L.map U9)))
 let S1:Option Sl:=zd (.pub (.list (as.map int)))
 refine Kk (Zf (UP (Kx (Zl (Xc (UP (UM zh) UV) (Xe.trans (by rw[FL]))) ((Xf _ (λ_=>zk) (λi=>Uz (decide (0<as.getD i 0) || L.any λus=>(us.getD i zj).isNone)) (λρ=>∃x y,ρ=[S0,S1,x,y]) _ _ [] ?_ ⟨zj,zj,rfl⟩ (by rw[Qt,Qs];lia)).trans (by rw[Qy,QJ.mpr (λ_ _=>rfl)])))) UV) ?_) zh
 .rintro i hi ρ ⟨x,y,rfl⟩
  have hi:=QN.mp hi;refine⟨_,Km zh (UZ (UT (Qa zh) zh) (UZ (UT (Qa zh) zh) Kn)),rfl,λ_=>T2 (Kx (ZS zh UW TZ)) λ_=>Kx (U2 UW (Kx (Zl (K7 (UM zh) Zh) ((Xf U9 (λ_=>zk) (λus=>Kb (us.getD i zj)) (λρ=>∃x,ρ=[S0,S1,zd (.pub (.int (i:Nat))),zd (.pub (.int (as.getD i 0))),x]) L _ [] ?_ ⟨zj,rfl⟩ (by rw[Qt];lia)).trans (by rw[Qy,QJ.mpr (λ_ _=>rfl)])))) ?_),_,_,rfl⟩
  .rintro us hu ρ ⟨x,rfl⟩
   have hix:=PH (ws:=us) (k:=(i:Int)) (by lia) (by have:=hL us hu;lia);exact⟨_,UT (Qa zh) zh,rfl,λ_=>Kr zh (UM zh) hix,_,rfl⟩
  .rw[show(L.map λus=>Kb _)=(L.map λus=>us.getD i zj).map Kb by rw[QO];rfl,BH,J9]
   rfl
 .rw[show((Uw as.length).map λi=>Uz _)=((Uw as.length).map λi=>decide (0<as.getD i 0) || L.any λus=>(us.getD i zj).isNone).map Uz by rw[QO];rfl,TD,Ua]
  rfl
def yH(g:Good cs ls)(hp:ps.length=cs.length)(aO:L.length<=1000):V2 [Kq cs ls,.list (L.map U9),.list (ps.map int)]=zd (.bool (Pa cs L ps)):=by
 have c6:=g.c6;refine KY  rfl ?_;unfold SS
 let S0:Option Sl:=zd (.pub (Kq cs ls))
 let S1:Option Sl:=zd (.pub (.list (L.map U9)))
 let S2:Option Sl:=zd (.pub (.list (ps.map int)))
 let lfD:LO->D:=λus=>.list ((YF cs us).map int)
 refine Kf  (ZT (Zl (K7 (UM zh) Zh) ((Xf U9 (λ_=>zk) lfD (λρ=>∃x,ρ=[S0,S1,S2,zj,x]) L _ [] ?_ ⟨zj,rfl⟩ (by rw[Qt];lia)).trans (by rw[Qy,QJ.mpr (λ_ _=>rfl)]))) (Qa zh) zh) ?_
 .rintro us hu ρ ⟨x,rfl⟩
  exact⟨_,UT (Qa zh) zh,rfl,λ_=>Kg (UP (UM zh) (UP (UM zh) UV)) zh (Dd g),_,rfl⟩
 refine Kk (Zf (UP (Kx (Fu (Xc (UP (UM zh) UV) (Xe.trans (by rw[FL]))) ((Xf _ (λ_=>zk) _ (λρ=>∃x y,ρ=[S0,S1,S2,zd (.pub (.list (L.map lfD))),x,y]) (Uw ps.length) _ [] ?_ ⟨zj,zj,rfl⟩ (by rw[Qt,Qs];lia)).trans (by rw[Qy,QJ.mpr (λ_ _=>rfl),show((Uw ps.length).map λi=>Uz _)=((Uw ps.length).map λi=>decide (0<ps.getD i 0) || L.any λus=>decide (0<(YF cs us).getD i 0)).map Uz by rw[QO];rfl])) (wx _))) UV) ?_) zh
 .rintro i hi ρ ⟨x,y,rfl⟩
  have hi:=QN.mp hi;refine⟨_,Km zh (UZ (UT (Qa zh) zh) (UZ (UT (Qa zh) zh) Kn)),rfl,λ_=>T2 (Kx (ZS zh UW TZ)) λ_=>Zf (UP (Kx (Zl (K7 (UM zh) Zh) ((Xf lfD (λ_=>zk) (λus=>Uz (decide (0<(YF cs us).getD i 0))) (λρ=>∃x,ρ=[S0,S1,S2,zd (.pub (.list (L.map lfD))),zd (.pub (.int (i:Nat))),zd (.pub (.int (ps.getD i 0))),x]) L _ [] ?_ ⟨zj,rfl⟩ (by rw[Qt];lia)).trans (by rw[Qy,QJ.mpr (λ_ _=>rfl)])))) UV) ?_,_,_,rfl⟩
  .rintro us hu ρ ⟨x,rfl⟩
   have hix:oIx (lfD us) (.int (i:Int))=zd _:=Vf (by lia) (by unfold YF;rw[Qb,Qs];lia);rw[QY]at hix;exact⟨_,UT (Qa zh) zh,rfl,λ_=>Kx (U2 (Kr zh (UM zh) hix) UW TZ),_,rfl⟩
  .rw[show(L.map λus=>Uz _)=(L.map λus=>decide (0<(YF cs us).getD i 0)).map Uz by rw[QO];rfl,Go,J9]
   rfl
 .rw[TD,Ua]
  rfl
end
section
variable{cs:zo}{ls:L3}{o:Ord}{old:zC}{ts:zo}{tm:Int}{as ps:zo}{ws us:LO}{L:zA}{m:Nat}{f:Int×Int->Int}{qs:LP}
theorem Hr(h0:∀q∈qs,0<=f q):∀(ws)(k),(∀(i) t,ws[i]?=zd (zd t)->(((k+i:Nat):Int),t)∈qs)->0<=Kc f k ws
 |[],_,_=>Jb _
 |o::r,k,h=>by
  have ih:=Hr h0 r _ λi t e=>by rw[show k+1+i=k+(i+1)by lia];exact h _ t e
  cases o with
  |none=>show 0<=0+Kc f _ r;lia
  |some t=>
   have:=h0 _ (h 0 t zh);show 0<=f ((k),t)+Kc f _ r;rw[Nat.add_zero]at this
   lia
def j4(g:Good cs ls)(ga:Ym cs.length ls.length old ts)(hd:ZA cs (U7 0 ls) ls.length us):0<=Kc (U4 (Kj ls o old ts)) 0 us/\Kc (U4 (Kj ls o old ts)) 0 us<18446744073709551616:=by
 have l7:=g.l7;have hw:∀(i:Nat) t,us[i]?=zd _->(((0+i:Nat):Int),t)∈U7 0 ls:=λi t e=>by rw[QU];exact hd.wish i t e
 have h1:=NY  (f:=U4 (Kj ls o old ts))  (by decide) (λq hq=>Int.le_of_lt (M4  g ga hq).2) us 0 hw;have h2:=Hr   (λq hq=>(M4 (o:=o) g ga hq).1) us 0 hw;rw[hd.len]at h1;exact⟨h2,by lia⟩
def E5(g:Good cs ls)(ga:Ym cs.length ls.length old ts)(hla:as.length=ls.length)(ao:ps.length=cs.length):V4 [Kq cs ls,KF o old ts,KM tm as ps]=zd (.list ((Z8 (U4 (Kj ls o old ts)) (U7 0 ls) tm as ps).map Kp)):=by
 have hp:=P4 g;have h42:=Mn g;refine KY  rfl ?_;unfold SU
 let S0:Option Sl:=zd (.pub (Kq cs ls))
 let S1:Option Sl:=zd (.pub (KF o old ts))
 let S2:Option Sl:=zd (.pub (KM tm as ps))
 let S3:Option Sl:=zd (.pub (.int tm))
 let S4:Option Sl:=zd (.pub (.list (as.map int)))
 let S5:Option Sl:=zd (.pub (.list (ps.map int)))
 let S6:Option Sl:=zd (.pub (.list ((U7 0 ls).map (ZF (Kj ls o old ts)))))
 refine Kf  (YW (UM zh) (Km zh (UZ (UT (Qa zh) zh) (UZ (UT (Qa zh) zh) (UZ (UT (Qa zh) zh) Kn))))) ?_;refine Kf  (Kt (Kg (UP (UM zh) (UP (UM zh) UV)) zh (Lj g ga)) (Qa zh) zh) ?_;refine Kk (Kx (Zl (K7 (UM zh) Zh) ((Xf _ _ Kp (λρ=>∃x y z,ρ=[S0,S1,S2,S3,S4,S5,S6,x,y,z]) (U7 0 ls) _ [] ?_ ⟨zj,zj,zj,rfl⟩ (by rw[Qt];lia)).trans (by rw[Qy];rfl)))) zh;rintro q hqm ρ ⟨x,y,z,rfl⟩;obtain⟨a1,a2,a3,a4⟩:=hp.lo q hqm;obtain⟨b1,b2⟩:=OU (o:=o) g ga hqm;exact⟨_,Km zh (UZ (UT (Qa zh) zh) (UZ (UT (Qa zh) zh) (UZ (UT (Qa zh) zh) Kn))),U2 (U2 (Kr zh (UM zh) (Vf a1 (by lia))) (Kr zh (UM zh) (Vf a3 (by lia))) KW) (U2 (UM zh) (UM zh) (XE (by lia) b2)) YI,λ_=>Zk (UP (UM zh) (UP (UM zh) UV)) (Qa zh),_,_,_,rfl⟩
def Lf(hl:us.length=ls.length):isNon (TX cs ls us)=zk ↔ Deal cs ls us:=by
 unfold TX;split
 .rename_i i e
  refine⟨λz=>(by cases z),λdl=>?_⟩;have hb:=List.find?_some e;unfold YY at hb;split at hb
  .rename_i t hw
   have zG:i<ls.length:=by rw[←hl];exact(Qg.mp hw).1
   have:=M6 (dl.wish i t _ hw (Qe zG));simp_all
  simp_all
 .rename_i e
  have h1:=Ug.mp e;unfold Ps;split
  .rename_i k e2
   refine⟨λz=>(by cases z),λdl=>?_⟩;have hk:=QN.mp (List.mem_of_find?_eq_some e2);have hb   :=Qa  (List.find?_some (p:=Wp cs us) e2);have:=dl.cop k (cs.getD k 0) (by simp_all)
   lia
  .rename_i e2
   have h2:=Ug.mp e2;refine⟨λ_=>⟨hl,λi t rs hw hrs=>?_,λk c hc=>?_⟩,λ_=>rfl⟩
   .have:=h1 i (QN.mpr (Qg.mp hw).1)
    unfold YY at this;rw[hw]at this;rw[Qm,hrs]at this;exact wI λz=>this (QW z)
   .have hk:=(Qg.mp hc).1
    have:=h2 k (QN.mpr hk);unfold Wp at this;simp_all
noncomputable def WQ:D->LO
 |.list xs=>xs.map whI
 |_=>[]
def R4(ws):WQ (U9 ws)=ws:=by
 show(ws.map Kb).map whI=ws
 have:whI ∘ Kb=id:=by funext o;cases o<;>rfl
 simp_all
def RL(cs:zo)(ls:L3)(d:D):D:=if XJ ls.length d=zk then TX cs ls (WQ d)else .tuple [.str "form"]
def jQ(g:Good cs ls){d}(hl:∀xs,d=.list xs->xs.length<=1000):W2 [Kq cs ls,d]=zd (RL cs ls d):=by
 unfold RL;cases h:XJ ls.length d with
 |true=>obtain⟨ws,rfl,hw⟩:=MC h;rw[R4];exact j6 g hw
 |false=>
  refine KY  rfl ?_;refine Kf (We (Kg (UP (UM zh) UV) zh (Sa g))) ?_;refine Kf  (YW (UM zh) (Km zh (UZ (UT (Qa zh) zh) (UZ (UT (Qa zh) zh) Kn)))) ?_;apply KL;have hlen:Ki [.list (ls.map K9)]=zd (.int ls.length):=by rw[K8,Qb]
  have hf:=yz (n:=ls.length) hl;rw[h]at hf;exact Kw   (Yl (Yh  (Kg (UP (UM zh) (UP (Zg zh hlen) UV)) zh hf))) (λ_=>Kk (Zk (UP UW UV) (Qa zh)) (ZK zh)) (λz=>by cases z)
def clB(cs:zo)(ls:L3)(f:Int×Int->Int)(tm:Int)(as ps:zo)(d:D):Bool:=isNon (RL cs ls d)&&decide (tm*Kc f 0 (WQ d)=Xk cs as ps)
def yN(g:Good cs ls)(ga:Ym cs.length ls.length old ts){d}(hl:∀xs,d=.list xs->xs.length<=1000):X0 [Kq cs ls,KF o old ts,KM tm as ps,d]=zd (.bool (clB cs ls (U4 (Kj ls o old ts)) tm as ps d)):=by
 refine KY  rfl ?_;apply KL;refine Kw  (Kx (Kg (UP (UM zh) (UP (UM zh) UV)) zh (jQ g hl))) (λh=>Kk UW (ZK ?_)) λh=>KO (KI ?_)
 .unfold clB
  simp_all
 .have h   :=by simpa using h
  have hx:=h;unfold RL at hx;split at hx
  .rename_i hf
   obtain⟨us,rfl,hu⟩:=MC hf;rw[R4]at hx;have du:=(Lf hu).mp hx;have e:=NX (o:=o) (old:=old) (ts:=ts) ls us ls 0 (λj rs h=>by simp_all) hu;have hw:=yp (o:=o) g ga hu;rw[←e]at hw;obtain⟨t1,t2⟩:=j4  g ga (RU du);refine Kk (Kx (U2 (U2 (Kr zh UW Lx) (Kg (UP (UM zh) (UP (UM zh) (UP (UM zh) UV))) zh hw) (XE (by lia) t2)) (Kg (UP (UM zh) (UP (UM zh) UV)) zh (yn g)) YI)) ?_;unfold clB;rw[h,R4];rfl
  .cases hx
structure GWeb(cs:zo)(f:Int×Int->Int)(qs:LP)(m:Nat)(tm:Int)(as ps:zo)(L:zA):Prop where
 one:1<=tm
 ok:OkP cs.length m (λa b=>f (a,b)) qs tm as ps
 ne:L≠[]
 best:∀us∈L,ZA cs qs m us/\tm*Kc f 0 us=Xk cs as ps
 wish:TL L (Z8 f qs tm as ps)=zk
 noth:Pb L as=zk
 left:Pa cs L ps=zk
theorem LQ:∀{ds},ds.all (clB cs ls f tm as ps)=zk->∃L:zA,ds=L.map U9/\∀us∈L,Deal cs ls us/\tm*Kc f 0 us=Xk cs as ps
 |[],_=>⟨[],rfl,λ_ h=>by cases h⟩
 |d::ds,h=>by
  rw[Uk,QM]at h;obtain⟨L,rfl,hL⟩:=LQ h.2;have hd:=h.1;unfold clB at hd;rw[QM,Jg]at hd;have hx:=hd.1;unfold RL at hx;split at hx
  .rename_i hf
   obtain⟨us,rfl,hu⟩:=MC hf;have h2:=hd.2;rw[R4]at hx h2;exact⟨us::L,rfl,λx hx'=>(QB.mp hx').elim (λe=>e ▸ ⟨(Lf hu).mp hx,h2⟩) (hL x)⟩
  .cases hx
def BG(du:Deal cs ls us)(h:tm*Kc f 0 us=Xk cs as ps):clB cs ls f tm as ps (U9 us)=zk:=by
 unfold clB RL;have hf:XJ ls.length (U9 us)=zk:=by show XJ _ (.list _)=zk;rw[OR,QM];refine⟨QW (by rw[Qb];exact du.len),Q2.mpr λx hx=>?_⟩;obtain⟨o,_,rfl⟩:=Qo.mp hx;cases o<;>rfl
 rw[Qu hf,R4,(Lf du.len).mpr du,h];simp
def ShW(d:D):Prop:=∀p w,d=.tuple [p,w]->ShP p/\∀ds,w=.list ds->ds.length<=1000/\∀x∈ds,∀xs,x=.list xs->xs.length<=1000
def Bl{xs:zn}(h:xs.length=2):∃a b,xs=[a,b]:=by
 match xs,h with
 |[a,b],_=>exact⟨a,b,rfl⟩
def BF{L1 L2:zA}(h:L1.map U9=L2.map U9):L1=L2:=by
 have:=J5 (List.map WQ) h;rw[QO,QO]at this;have e:WQ ∘ U9=id:=by funext x;exact R4 x
 rwa[e,List.map_id,List.map_id]at this
def RT{p w:D}(e:PyData.tuple [p,w]=ZB tm as ps L):p=KM tm as ps/\w=.list (L.map U9):=⟨(JI (PyData.tuple.inj e)).1,(JI (JI (PyData.tuple.inj e)).2).1⟩
def FC   (e:KM tm as ps=KM tm2 as2 ps2):tm=tm2/\as=as2/\ps=ps2:=by
 have e3:=PyData.tuple.inj e;have i:∀{x y:zo},x.map int=y.map int->x=y:=λh=>(List.map_inj_right (λ_ _ h=>PyData.int.inj h)).mp h
 exact⟨PyData.int.inj (JI e3).1,i (PyData.list.inj (JI (JI e3).2).1),i (PyData.list.inj (JI (JI (JI e3).2).2).1)⟩
def E9(g:Good cs ls)(ga:Ym cs.length ls.length old ts){d:D}(hs:ShW d):∃b,Xq [Kq cs ls,KF o old ts,d]=zd (.bool b)/\(b=zk ↔ ∃tm as ps L,d=ZB tm as ps L/\GWeb cs (U4 (Kj ls o old ts)) (U7 0 ls) ls.length tm as ps L):=by
 have hp:=P4 g;have h42:=Mn g;have l7:=g.l7;have c6:=g.c6
 suffices ∃r,Xq [Kq cs ls,KF o old ts,d]=zd r/\∃b,r=.bool b/\(b=zk ↔ ∃tm as ps L,d=ZB tm as ps L/\GWeb cs (U4 (Kj ls o old ts)) (U7 0 ls) ls.length tm as ps L)by obtain⟨_,h1,b,rfl,h2⟩:=this;exact⟨b,h1,h2⟩
 refine XB (ρ:=[zd (.pub (Kq cs ls)),zd (.pub (KF o old ts)),zd (.pub d),zj,zj,zj,zj,zj]) zh ?_;unfold SR
 let S0:Option Sl:=zd (.pub (Kq cs ls))
 let S1:Option Sl:=zd (.pub (KF o old ts))
 let S2:Option Sl:=zd (.pub d)
 refine Kf (ρ1:=[S0,S1,S2,zj,zj,zj,zj,zj]) (We (Kg (UP (UM zh) (UP (UM zh) UV)) zh (NE g ga))) ?_;apply KL;have no:(¬∃tm as ps L,d=ZB tm as ps L/\GWeb cs (U4 (Kj ls o old ts)) (U7 0 ls) ls.length tm as ps L)->∃r,Out.rt (Uz zm)=.rt r/\∃b,r=Uz b/\(b=zk ↔ ∃tm as ps L,d=ZB tm as ps L/\GWeb cs (U4 (Kj ls o old ts)) (U7 0 ls) ls.length tm as ps L):=λh=>⟨_,rfl,zm,rfl,λz=>(by cases z),λz=>absurd z h⟩
 cases d with
 |tuple xs=>
  by_cases h2:¬xs.length=2
  .refine Kw (b:=zk) (ρ1:=[S0,S1,S2,zj,zj,zj,zj,zj]) ((Yk (YU (UM zh) zh) (U2 (Zg zh Mx) UW Vo)).trans (by rw[show decide ((xs.length:Int)=2)=zm from QZ (by lia)];rfl)) (λ_=>Kk UW (ZK (no ?_))) λz=>by cases z
   rintro⟨_,_,_,_,e,_⟩;cases e;exact h2 zh
  obtain⟨p,w,rfl⟩:=Bl (Decidable.not_not.mp h2);obtain⟨hP,hW⟩:=hs p w zh;refine Kw (b:=zm) (ρ1:=[S0,S1,S2,zj,zj,zj,zj,zj]) (Yk (YU (UM zh) zh) (U2 (Zg zh Mx) UW Vo)) (λz=>by cases z) λ_=>KO (KI ?_)
  let S3:Option Sl:=zd (.pub p)
  let S4:Option Sl:=zd (.pub w)
  refine Kf (ρ1:=[S0,S1,S2,S3,S4,zj,zj,zj]) (YW (UM zh) (Km zh (UZ (UT (Qa zh) zh) (UZ (UT (Qa zh) zh) Kn)))) ?_;apply KL;have ap:=js (o:=o) g ga hP;cases hb:Xn cs.length ls.length (Kj ls o old ts) (U7 0 ls) p with
  |false=>
   rw[hb]at ap;refine Kw (b:=zk) (ρ1:=[S0,S1,S2,S3,S4,zj,zj,zj]) (WF (Yl (t:=zm) (Yh (Kg (UP (UM zh) (UP (UM zh) (UP (UM zh) UV))) zh ap)))) (λ_=>Kk UW (ZK (no ?_))) λz=>by cases z
   rintro⟨_,_,_,_,e,gw⟩;have e1:=(RT e).1;subst e1;exact absurd (HP.mpr ⟨gw.one,gw.ok⟩) (by rw[show Xn cs.length ls.length (λa b=>U4 (Kj ls o old ts) (a,b)) (U7 0 ls) _=zm from hb];exact Bool.false_ne_true)
  |true=>
  rw[hb]at ap;have ao:KB (Zt (UX 3 W1 (UO (UL 0) (UO (UL 1) (UO (UL 3) (UN)))))) [S0,S1,S2,S3,S4,zj,zj,zj]=.ok zm [S0,S1,S2,S3,S4,zj,zj,zj]:=Yl (t:=zk) (Yh (Kg (UP (UM zh) (UP (UM zh) (UP (UM zh) UV))) zh ap));have bz:YB cs.length ls.length p=zk:=by unfold Xn at hb;rw[QM]at hb;exact hb.1
  obtain⟨tm,as,ps,rfl,h1,_,_,_⟩:=Fo bz;obtain⟨one,ok⟩:=HP.mp hb;have la:=ok.la;have lp:=ok.lp;cases w with
  |list ds=>
   obtain⟨w1,w2⟩:=hW ds zh;by_cases h0:ds.length=0
   .refine Kw (b:=zk) (ρ1:=[S0,S1,S2,S3,S4,zj,zj,zj]) (Yk ao (Yk (YU (UM zh) zh) ((U2 (Zg zh K8) UW YI).trans (by rw[show decide ((ds.length:Int)=0)=zk from QW (by lia)])))) (λ_=>Kk UW (ZK (no ?_))) λz=>by cases z
    rintro⟨_,_,_,L,e,gw⟩;have e2:=PyData.list.inj (RT e).2;subst e2;rw[Qb]at h0;exact gw.ne (List.length_eq_zero_iff.mp h0)
   refine Kw (b:=zm) (ρ1:=[S0,S1,S2,S3,S4,zj,zj,zj]) (Yk ao (Yk (YU (UM zh) zh) ((U2 (Zg zh K8) UW YI).trans (by rw[show decide ((ds.length:Int)=0)=zm from QZ (by lia)])))) (λz=>by cases z) λ_=>KO (KI ?_)
   let C:=clB cs ls (U4 (Kj ls o old ts)) tm as ps
   have hc:K6 (gN 8) (UR zk) (UX 4 X0 (UO (UL 0) (UO (UL 1) (UO (UL 3) (UO (UL 8) (UN)))))) ds (KD [S0,S1,S2,S3,S4,zj,zj,zj]++Ux 1 zj) []=zd ((ds.map C).map Uz):=by have e:=Xf (s:=gN 8) (t:=UR zk) (g:=UX 4 X0 (UO (UL 0) (UO (UL 1) (UO (UL 3) (UO (UL 8) (UN)))))) (λd:D=>d) (λ_=>zk) (λd=>Uz (C d)) (λρ=>∃x,ρ=[S0,S1,S2,S3,S4,zj,zj,zj,x]) ds (KD [S0,S1,S2,S3,S4,zj,zj,zj]++Ux 1 zj) [] (by rintro d hd ρ ⟨x,rfl⟩;exact⟨_,UT (Qa zh) zh,rfl,λ_=>Kg (UP (UM zh) (UP (UM zh) (UP (UM zh) (UP (UM zh) UV)))) zh (yN g ga (w2 d hd)),_,rfl⟩) ⟨zj,rfl⟩ (by rw[Qt];lia);rw[List.map_id',Qy,QJ.mpr (λ_ _=>rfl)]at e;rw[e,QO];rfl
   apply KL;have hall:KB (Zt (K4 ZC (UO (U0 Uy (Zb (KJ (UL 4)) 1 (gN 8) (UR zk) (UX 4 X0 (UO (UL 0) (UO (UL 1) (UO (UL 3) (UO (UL 8) (UN)))))))) (UN)))) [S0,S1,S2,S3,S4,zj,zj,zj]=.ok (!ds.all C) [S0,S1,S2,S3,S4,zj,zj,zj]:=Yl (Yh (Zf (UP (Kx (Zl (K7 (UM zh) Zh) hc)) UV) (by rw[TD,Ua];rfl)));cases ha:ds.all C with
   |false=>
    rw[ha]at hall;refine Kw (b:=zk) hall (λ_=>Kk UW (ZK (no ?_))) λz=>by cases z
    rintro⟨_,_,_,L,e,gw⟩;obtain⟨e1,e2⟩:=RT e;obtain⟨rfl,rfl,rfl⟩:=FC e1;have e2:=PyData.list.inj e2;subst e2;have:(L.map U9).all C=zk:=Q2.mpr λx hx=>by obtain⟨us,hu,rfl⟩:=Qo.mp hx;obtain⟨b1,b2⟩:=gw.best us hu;exact BG (Nj b1) b2
    rw[this]at ha;cases ha
   |true=>
   rw[ha]at hall;refine Kw (b:=zm) hall (λz=>by cases z) λ_=>KO (KI ?_)
   obtain⟨L,rfl,hL⟩:=LQ ha;rw[Qb]at w1 h0;have aO:∀us∈L,us.length=ls.length:=λus hu=>(hL us hu).1.len
   let S5:Option Sl:=zd (.pub (.int tm))
   let S6:Option Sl:=zd (.pub (.list (as.map int)))
   let S7:Option Sl:=zd (.pub (.list (ps.map int)))
   refine Kf (ρ1:=[S0,S1,S2,S3,S4,S5,S6,S7]) (YW (UM zh) (Km zh (UZ (UT (Qa zh) zh) (UZ (UT (Qa zh) zh) (UZ (UT (Qa zh) zh) Kn))))) ?_
   let TW:=Z8 (U4 (Kj ls o old ts)) (U7 0 ls) tm as ps
   have hsw:W0 [.list (L.map U9),.list (TW.map Kp)]=zd (.bool (TL L TW)):=yS (m:=ls.length) (λq hq=>let ⟨a,b,_⟩:=hp.lo q (Jl.mp hq).1;⟨a,b⟩) (by have:TW.length<=(U7 0 ls).length:=J7 _ _;lia) aO w1
   have fin:(∃tm' as' ps' L',PyData.tuple [KM tm as ps,.list (L.map U9)]=ZB tm' as' ps' L'/\GWeb cs (U4 (Kj ls o old ts)) (U7 0 ls) ls.length tm' as' ps' L') ↔ (TL L TW&&(Pb L as&&Pa cs L ps))=zk:=by
    rw[QM,QM];constructor
    .rintro⟨tm',as',ps',L',e,gw⟩
     obtain⟨e1,e2⟩:=RT e;obtain⟨f1,i1,i2⟩:=FC e1;have e2:=BF (PyData.list.inj e2);subst f1 i1 i2 e2;exact⟨gw.wish,gw.noth,gw.left⟩
    .rintro⟨a,b,c⟩
     exact⟨tm,as,ps,L,rfl,one,ok,λz=>h0 (by rw[z];rfl),λus hu=>⟨RU (hL us hu).1,(hL us hu).2⟩,a,b,c⟩
   apply KL;cases hw:TL L TW with
   |false=>
    rw[hw]at hsw;refine Kw (b:=zk) (ρ1:=[S0,S1,S2,S3,S4,S5,S6,S7]) (Yl (t:=zm) (Yh (Kg (UP (UM zh) (UP (Kg (UP (UM zh) (UP (UM zh) (UP (UM zh) UV))) zh (E5 g ga la lp)) UV)) zh hsw))) (λ_=>Kk UW (ZK (no ?_))) λz=>by cases z
    intro z;have:=fin.mp z;rw[hw]at this;cases this
   |true=>
   rw[hw]at hsw;refine Kw (b:=zm) (ρ1:=[S0,S1,S2,S3,S4,S5,S6,S7]) (Yl (t:=zk) (Yh (Kg (UP (UM zh) (UP (Kg (UP (UM zh) (UP (UM zh) (UP (UM zh) UV))) zh (E5 g ga la lp)) UV)) zh hsw))) (λz=>by cases z) λ_=>KO (KI ?_)
   refine Kk (Wf (Kg (UP (UM zh) (UP (UM zh) UV)) zh (yY la (by lia) aO w1)) λ_=>Kg (UP (UM zh) (UP (UM zh) (UP (UM zh) UV))) zh (yH g lp w1)) ⟨_,rfl,_,rfl,?_⟩;rw[fin,hw,Bool.true_and]
  |dict kvs=>
   refine Kw (b:=zk) (ρ1:=[S0,S1,S2,S3,S4,zj,zj,zj]) (Yk ao (WF (OM (UM zh)))) (λ_=>Kk UW (ZK (no ?_))) λz=>by cases z
   rintro⟨_,_,_,_,e,_⟩;cases (RT e).2
  |_=>
   refine Kw (b:=zk) (ρ1:=[S0,S1,S2,S3,S4,zj,zj,zj]) (Yk ao (WF (YU (UM zh) zh))) (λ_=>Kk UW (ZK (no ?_))) λz=>by cases z
   rintro⟨_,_,_,_,e,_⟩;cases (RT e).2
 |dict kvs=>
  refine Kw (b:=zk) (ρ1:=[S0,S1,S2,zj,zj,zj,zj,zj]) (WF (OM (UM zh))) (λ_=>Kk UW (ZK (no ?_))) λz=>by cases z
  rintro⟨_,_,_,_,e,_⟩;cases e
 |_=>
  refine Kw (b:=zk) (ρ1:=[S0,S1,S2,zj,zj,zj,zj,zj]) (WF (YU (UM zh) zh)) (λ_=>Kk UW (ZK (no ?_))) λz=>by cases z
  rintro⟨_,_,_,_,e,_⟩;cases e
end
section
variable{cs:zo}{tm tm2:Int}{as ps as2 ps2:zo}{ws us:LO}{L L2:zA}{m:Nat}{f:Int×Int->Int}{qs:LP}{T:List Stp}
def jZ{T}:TL L T=zk ↔ ∀q∈T,∃us∈L,us.getD q.1.toNat zj=zd q.2:=by unfold TL;simp only[Q2,JK,Jg]
def jY:Pb L as=zk ↔ ∀i,i<as.length->as.getD i 0<=0->∃us∈L,us.getD i zj=zj:=by unfold Pb;simp only[Q2,JK,Bool.or_eq_true,Jg,QN,Option.isNone_iff_eq_none];exact⟨λh i hi h0=>(h i hi).resolve_left (Ui.mpr h0),λh i hi=>(Int.lt_or_le 0 _).imp id (h i hi)⟩
def jX(hp:ps.length=cs.length):Pa cs L ps=zk ↔ ∀k,k<cs.length->ps.getD k 0<=0->∃us∈L,((us.count (zd (k:Int)):Nat):Int)<cs.getD k 0:=by
 unfold Pa;have e:∀us , ∀k,k<cs.length->(0<(YF cs us).getD k 0 ↔ ((us.count (zd (k:Int))))<cs.getD k 0):=λus k hk=>by unfold YF;simp_all
 simp only[Q2,JK,Bool.or_eq_true,Jg,QN,hp];exact⟨λh k hk h0=>let ⟨us,hu,z⟩:=(h k hk).resolve_left (Ui.mpr h0);⟨us,hu,(e us k hk).mp z⟩,λh k hk=>(Int.lt_or_le 0 _).imp id λh0=>let ⟨us,hu,z⟩:=h k hk h0;⟨us,hu,(e us k hk).mpr z⟩⟩
noncomputable def jP   : us.getD i zj=zd t ↔ us[i]?=zd (zd t):=by
 rw[Qm];cases us[i]? with
 |none=>simp
 |some x=>simp
def jO  (h:i<us.length):us.getD i zj=zj ↔ us[i]?=zd zj:=by simp_all
noncomputable def Hq{xs:zo}(h:∀a∈xs,0<=a)(i):0<=xs.getD i 0:=by
 rw[Qm];cases hx:xs[i]? with
 |none=>exact Jb 0
 |some a=>exact h a (Qq hx)
def jN(hp:ZD cs.length m qs){q}(h:q∈qs):((q.1.toNat:Int),q.2)=q:=by have:=(hp.lo _ h).1;rw[Int.toNat_of_nonneg this]
def FA(hp:ZD cs.length m qs)(one:1<=tm)(ok:OkP cs.length m (λa b=>f (a,b)) qs tm as ps)(hd:ZA cs qs m us)(h:tm*Kc f 0 us=Xk cs as ps):Ts cs f qs m us:=
 ⟨hd,λvs hv=>by have:=(Ni hp hv ok).1;rw[←h]at this;exact Int.le_of_mul_le_mul_left this (by lia)⟩
def jM(hp:ZD cs.length m qs)(h1:Ts cs f qs m us)(h2:Ts cs f qs m ws)(h:tm*Kc f 0 us=Xk cs as ps):tm*Kc f 0 ws=Xk cs as ps:=by rw[JQ (h1.mx ws h2.dl) (h2.mx us h1.dl)];exact h
variable(hp:ZD cs.length m qs)(gw:GWeb cs f qs m tm as ps L)
include hp gw
theorem NC(h:us∈L):Ts cs f qs m us:=FA hp gw.one gw.ok (gw.best us h).1 (gw.best us h).2
theorem Dm(h:Ts cs f qs m us):tm*Kc f 0 us=Xk cs as ps:=by obtain⟨vs,hv⟩:=List.exists_mem_of_ne_nil _ gw.ne;exact jM hp (NC hp gw hv) h (gw.best vs hv).2
theorem BE(h:Ts cs f qs m us):RM cs f tm as ps us:=(Ni hp h.dl gw.ok).2.mp (Dm hp gw h)
theorem jL(h:ZA cs qs m us):RM cs f tm as ps us ↔ Ts cs f qs m us:=
 ⟨λt=>FA hp gw.one gw.ok h ((Ni hp h gw.ok).2.mpr t),BE hp gw⟩
end
section
variable{cs:zo}{as ps:zo}{ws:LO}{L:zA}{m:Nat}{f:Int×Int->Int}{qs:LP}{T:List Stp}
def Dl(hp:ZD cs.length m qs)(wq:WebQ cs f qs m ws T as ps L):GWeb cs f qs m ((cs.length+1:Nat):Int) as ps L where
 one:=by lia
 ok:=wq.ok
 ne:=λz=>by
  have:=wq.fst
  grind
 best:=λus hu=>⟨(wq.best us hu).1,by rw[(wq.best us hu).2,wq.cl]⟩
 wish:=jZ.mpr λq hq=>by obtain⟨h1,h2⟩:=Jl.mp hq;have e:=jN hp h1;obtain⟨us,hu,k⟩:=j8 hp wq   (by rw[e];simp_all) (by rw[e];exact(of_decide_eq_true h2).symm);exact⟨us,hu,jP.mpr k⟩
 noth:=jY.mpr λi hi h0=>by have n1:=Hq wq.ok.aa i;rw[wq.ok.la]at hi;obtain⟨us,hu,k⟩:=wz hp wq hi (by lia);exact⟨us,hu,(jO (by rw[(wq.best us hu).1.len];exact hi)).mpr k⟩
 left:=(jX wq.ok.lp).mpr λk hk h0=>by have n1:=Hq wq.ok.pp k;exact wy hp wq hk (by lia)
end
inductive Bs:Nat->D->Prop
 |non {k:Nat}:Bs k .none
 |bl {k:Nat} {b:Bool}:Bs k (.bool b)
 |int {k:Nat} {i:Int}:Bs k (.int i)
 |s0 {k:Nat}:Bs k (.str "0")
 |lst {k:Nat} {xs:zn} (h:∀x∈xs,Bs k x) (hl:xs.length<=1000):Bs (k+1) (.list xs)
 |tup {k:Nat} {xs:zn} (h:∀x∈xs,Bs k x) (hl:xs.length<=1000):Bs (k+1) (.tuple xs)
def Bs.lay{k:Nat}{d:D}(h:Bs k d):d.canLay0=zk/\d.depth<=k+1:=by
 induction h with
 |non=>exact⟨rfl,by simp[UD]⟩
 |bl=>exact⟨rfl,by simp[UD]⟩
 |int=>exact⟨rfl,by simp[UD]⟩
 |s0=>exact⟨by decide +kernel,by simp[UD]⟩
 |lst h hl ih=>exact⟨TK λx hx=>(ih x hx).1,OG (R6 λx hx=>(ih x hx).2)⟩
 |@tup k xs h hl ih=>
  refine⟨TK λx hx=>(ih x hx).1,?_⟩;have:=R6 (xs:=xs) λx hx=>(ih x hx).2
  show(PyData.tuple xs).depth<=k+1+1
  simp only[UD]
  lia
def Bs.len{k:Nat}{d:D}(h:Bs k d):∀xs,d=.list xs->xs.length<=1000:=λxs e=>by
 cases h with
 |lst _ hl=>rw[←PyData.list.inj e];exact hl
 |_=>cases e
def Bs.mem{k:Nat}{xs:zn}(h:Bs k (.list xs)):∀x∈xs,∃j,Bs j x:=λx hx=>by
 cases h with
 |lst h _=>exact⟨_,h x hx⟩
def Bs.memT{k:Nat}{xs:zn}(h:Bs k (.tuple xs)):∀x∈xs,∃j,Bs j x:=λx hx=>by
 cases h with
 |tup h _=>exact⟨_,h x hx⟩
def Bs.up{k:Nat}{d:D}(h:Bs k d):Bs (k+1) d:=by
 induction h with
 |non=>exact .non
 |bl=>exact .bl
 |int=>exact .int
 |s0=>exact .s0
 |lst _ hl ih=>exact .lst ih hl
 |tup _ hl ih=>exact .tup ih hl
def Bs.shw{k:Nat}{d:D}(h:Bs k d):ShW d:=λp w e=>by
 subst e;refine⟨λt a b e=>?_,λds e=>?_⟩
 .obtain⟨j,h1⟩:=h.memT p Ql
  subst e;obtain⟨_,h2⟩:=h1.memT a (Qj _ Ql);obtain⟨_,h3⟩:=h1.memT b (Qj _ (Qj _ Ql));exact⟨h2.len,h3.len⟩
 .obtain⟨j,h1⟩:=h.memT w (Qj _ Ql)
  refine⟨h1.len ds e,λx hx=>?_⟩;subst e;obtain⟨_,h2⟩:=h1.mem x hx;exact h2.len
abbrev Rw(k n:Nat)(xs:zn):Prop:=xs.length<=n/\∀x∈xs,Bs k x
noncomputable def Rw.app{k n m:Nat}{xs ys:zn}(h1:Rw k n xs)(h2:Rw k m ys):Rw k (n+m) (xs++ys):=⟨by rw[Qi];exact Nat.add_le_add h1.1 h2.1,λx hx=>(QG.mp hx).elim (h1.2 x) (h2.2 x)⟩
def Rw.cut{k n:Nat}{xs:zn}{a b}(h:Rw k n xs):Rw k n (DL.cutD xs a b):=⟨QP jD h.1,λx hx=>h.2 x (jC hx)⟩
def Rw.rev{k n:Nat}{xs:zn}(h:Rw k n xs):Rw k n xs.reverse:=⟨by rw[List.length_reverse];exact h.1,λx hx=>h.2 x (List.mem_reverse.mp hx)⟩
noncomputable def Rw.one{k:Nat}{x:D}(h:Bs k x):Rw k 1 [x]:=⟨Qp _,λy hy=>by rw[Qv.mp hy];exact h⟩
def Rw.lst{k n:Nat}{xs:zn}(h:Rw k n xs)(hn:n<=1000):Bs (k+1) (.list xs):=.lst h.2 (QP h.1 hn)
def Rw.tup{k n:Nat}{xs:zn}(h:Rw k n xs)(hn:n<=1000):Bs (k+1) (.tuple xs):=.tup h.2 (QP h.1 hn)
noncomputable def Rw.nil{k:Nat}:Rw k 0 []:=⟨Qp _,λy hy=>by cases hy⟩
noncomputable def Rw.cons{k n:Nat}{x:D}{xs:zn}(h:Bs k x)(t:Rw k n xs):Rw k (n+1) (x::xs):=⟨Nat.succ_le_succ t.1,λy hy=>(QB.mp hy).elim (λe=>e ▸ h) (t.2 y)⟩
def Rw.ints{k n:Nat}{xs:zo}(h:xs.length<=n):Rw k n (xs.map int):=⟨by rw[Qb];exact h,λx hx=>by obtain⟨i,_,rfl⟩:=Qo.mp hx;exact .int⟩
def Rw.opts{k n:Nat}{ws:LO}(h:ws.length<=n):Rw k n (ws.map Kb):=⟨by rw[Qb];exact h,λx hx=>by
 obtain⟨o,_,rfl⟩:=Qo.mp hx;cases o with
 |none=>exact .non
 |some t=>exact .int⟩
def Rw.add{k n m:Nat}{xs ys:zn}(h1:Rw k n xs)(h2:Rw k m ys)(hn:n+m<=1000):U1 (.list xs) (.list ys)=zd (.list (xs++ys)):=Xx (by have:=h1.1;have:=h2.1;lia)
def NB{tm:Int}{as ps:zo}(h1:as.length<=1000)(h2:ps.length<=1000):Bs 2 (KM tm as ps):=(Rw.cons .int (Rw.cons ((Rw.ints h1).lst (Qp _)) (Rw.cons ((Rw.ints h2).lst (Qp _)) .nil))).tup (by decide)
def MB{L:zA}{n:Nat}(h:L.length<=n)(h2:∀us∈L,us.length<=1000):Rw 1 n (L.map U9):=⟨by rw[Qb];exact h,λx hx=>by obtain⟨us,hu,rfl⟩:=Qo.mp hx;exact(Rw.opts (h2 us hu)).lst (Qp _)⟩
def OC{tm:Int}{as ps:zo}{L:zA}(h1:as.length<=1000)(h2:ps.length<=1000)(h3:L.length<=1000)(h4:∀us∈L,us.length<=1000):Bs 3 (ZB tm as ps L):=(Rw.cons (NB h1 h2) (Rw.cons ((MB h3 h4).lst (Qp _)) .nil)).tup (by decide)
def Tk{ds:zn}(x:Int)(h:0<ds.length):∃d,oIx (.list ds) (.int (x % (ds.length:Int)))=zd d/\d∈ds:=by
 have h0:=Int.emod_nonneg x (b:=(ds.length:Int)) (by lia);have h1:=Int.emod_lt_of_pos x (b:=(ds.length:Int)) (by lia);obtain⟨k,hk⟩:∃k:Nat,x % (ds.length:Int)=k:=⟨(x % (ds.length:Int)).toNat,by lia⟩
 have zK:k<ds.length:=by lia
 rw[hk];exact⟨ds[k],Zq (Qe zK),Jp zK⟩
section
variable{tm:Int}{as ps dg:zo}{L:zA}{m:Nat}
def Tj{k:Nat}(hd:dg.length=5)(hk:k<5):∃v,oIx (.list (dg.map int)) (.int (k:Nat))=zd (.int v):=⟨dg[k],Zq (by rw[Qd,Qe (by lia)];rfl)⟩
def yG(ha:1<=as.length/\as.length<=7)(hp:ps.length<=6)(hd:dg.length=5):∃d,Wr [KM tm as ps,.list (dg.map int)]=zd d/\Bs 3 d:=by
 obtain⟨v0,e0⟩:=Tj (k:=0) hd (by decide);obtain⟨v1,e1⟩:=Tj (k:=1) hd (by decide);obtain⟨v2,e2⟩:=Tj (k:=2) hd (by decide)
 let S0:Option Sl:=zd (.pub (KM tm as ps))
 let S1:Option Sl:=zd (.pub (.list (dg.map int)))
 let S2:Option Sl:=zd (.pub (.int tm))
 let A:zn:=as.map int
 let P:zn:=ps.map int
 let S3:Option Sl:=zd (.pub (.list A))
 let S4:Option Sl:=zd (.pub (.list P))
 have rA:∀{k:Nat},Rw k 7 A:=Rw.ints ha.2;have rP:∀{k:Nat},Rw k 6 P:=Rw.ints hp;refine XB (ρ:=[S0,S1,zj,zj,zj,zj,zj,zj,zj,zj,zj,zj]) zh ?_;unfold So;refine Kf (ρ1:=[S0,S1,S2,S3,S4,zj,zj,zj,zj,zj,zj,zj]) (YW (UM zh) (Km zh (UZ (UT (Qa zh) zh) (UZ (UT (Qa zh) zh) (UZ (UT (Qa zh) zh) Kn))))) ?_
 let R:zo:=as++ps
 have eR:A++P=R.map int:=List.map_append.symm;have hR:0<R.length/\R.length<=13:=by show 0<(as++ps).length/\(as++ps).length<=13;rw[Qi];lia
 let S5:Option Sl:=zd (.pub (.list (R.map int)))
 have rR:∀{k:Nat},Rw k 13 (R.map int):=Rw.ints hR.2;refine Kf (ρ1:=[S0,S1,S2,S3,S4,S5,zj,zj,zj,zj,zj,zj]) (Kt (U2 (UM zh) (UM zh) (by rw[(rA (k:=0)).add (rP (k:=0)) (by decide),eR])) (Qa zh) zh) ?_;have hR5:(0:Int)<((R.map int).length:Int):=by rw[Qb];lia
 let at':Int:=v0 % ((R.map int).length:Int)
 let S6:Option Sl:=zd (.pub (.int at'))
 refine Kf (ρ1:=[S0,S1,S2,S3,S4,S5,S6,zj,zj,zj,zj,zj]) (Kt (U2 (Kr zh UW e0) (Zg zh K8) (Xj hR5)) (Qa zh) zh) ?_;obtain⟨rv,hrv,hrm⟩:=Tk (ds:=R.map int) v0 (by rw[Qb];exact hR.1);obtain⟨r0,_,rfl⟩:=Qo.mp hrm
 let MM:zo:=[1, -1,2,tm,7,0-r0]
 obtain⟨mv,hmv,hmm⟩:=Tk (ds:=MM.map int) v1 (Jk _);obtain⟨m0,_,rfl⟩:=Qo.mp hmm
 let S7:Option Sl:=zd (.pub (.int m0))
 refine Kf (ρ1:=[S0,S1,S2,S3,S4,S5,S6,S7,zj,zj,zj,zj]) (Kt (U2 (x:=.list (MM.map int)) (KZ (UP UW (UP (WH UW) (UP UW (UP (UM zh) (UP UW (UP (U2 UW (Kr zh (UM zh) hrv) YT) UV)))))) (Qa zh)) (U2 (Kr zh UW e1) UW (Xj (by decide))) hmv) (Qa zh) zh) ?_
 let C:zn:=(DL.cutD (R.map int) zj (zd at')++[.int (r0+m0)])++DL.cutD (R.map int) (zd (at'+1)) zj
 have rC:∀{k:Nat},Rw k 27 C:=((rR.cut).app (Rw.one .int)).app rR.cut
 let S8:Option Sl:=zd (.pub (.list C))
 refine Kf (ρ1:=[S0,S1,S2,S3,S4,S5,S6,S7,S8,zj,zj,zj]) (Kt (U2 (U2 (Ye (UM zh) UW (ZE (UM zh)) Yg) (KZ (UP (U2 (Kr zh (UM zh) hrv) (UM zh) KW) UV) (Qa zh)) ((rR (k:=0)).cut.add (Rw.one .int) (by decide))) (Ye (UM zh) (ZE (U2 (UM zh) UW KW)) UW Yg) (((rR (k:=0)).cut.app (Rw.one .int)).add rR.cut (by decide))) (Qa zh) zh) ?_
 let n9:Int:=(A.length:Nat)
 let S9:Option Sl:=zd (.pub (.int n9))
 refine Kf (ρ1:=[S0,S1,S2,S3,S4,S5,S6,S7,S8,S9,zj,zj]) (Kt (Zg zh K8) (Qa zh) zh) ?_
 let T1:D:=.tuple [.int tm,.list (DL.cutD C zj (zd n9)),.list (DL.cutD C (zd n9) zj)]
 have tri:∀{t:D}{xs ys:zn},Bs 1 t->Rw 0 1000 xs->Rw 0 1000 ys->Bs 2 (.tuple [t,.list xs,.list ys]):=λa b c=>(Rw.cons a (Rw.cons (b.lst (Qp _)) (Rw.cons (c.lst (Qp _)) .nil))).tup (by decide)
 have up:∀{n:Nat}{xs:zn},Rw 0 n xs->n<=1000->Rw 0 1000 xs:=λh hn=>⟨QP h.1 hn,h.2⟩;have b1:Bs 2 T1:=tri .int (up rC.cut (by decide)) (up rC.cut (by decide))
 have r1:Rw 2 4 (Ux 4 T1):=⟨by rw[QF];exact Qp _,λx hx=>by rw[List.eq_of_mem_replicate hx];exact b1⟩
 refine Kf (ρ1:=[S0,S1,S2,S3,S4,S5,S6,S7,S8,S9,zd (.own (Ux 4 T1)),zj]) (ZT (Mk (n:=4) (KZ (UP (Zk (UP (UM zh) (UP (Ye (UM zh) UW (ZE (UM zh)) Yg) (UP (Ye (UM zh) (ZE (UM zh)) UW Yg) UV))) (Qa zh)) UV) (Qa zh)) UW (by decide)) (Qa zh) zh) ?_;have cmp:∀{S10:Option Sl}(xs:zo)(j:Nat){g:M D}(e:Int->Int),xs.length<=7->(∀a ρ,(∃x,ρ=[S0,S1,S2,S3,S4,S5,S6,S7,S8,S9,S10,zj,x])->∃ρ1,gN 12 (.int a) ρ=zd ρ1/\g ρ1=.ok (.int (e a)) ρ1/\∃x,KD ρ1=[S0,S1,S2,S3,S4,S5,S6,S7,S8,S9,S10,zj,x])->K6 (gN 12) (UR zk) g (xs.map int) [S0,S1,S2,S3,S4,S5,S6,S7,S8,S9,S10,zj,zj] []=zd ((xs.map e).map int):=λxs j g e hl h=>by refine(Xf int (λ_=>zk) (λa=>int (e a)) (λρ=>∃x,ρ=[S0,S1,S2,S3,S4,S5,S6,S7,S8,S9,_,zj,x]) xs _ [] (λa _ ρ hρ=>let ⟨ρ1,a1,a2,a3⟩:=h a ρ hρ;⟨ρ1,a1,rfl,λ_=>a2,a3⟩) ⟨zj,rfl⟩ (by rw[Qt];lia)).trans (by rw[Qy,QJ.mpr (λ_ _=>rfl),QO];rfl)
 let A2:=(as.map λa=>2*a).map int
 let P2:=(ps.map λa=>2*a).map int
 have rm:∀{f:Int->Int}{xs:zo},xs.length<=7->Rw 0 1000 ((xs.map f).map int):=λh=>Rw.ints (by rw[Qb];lia)
 let Z2:zn:=[.tuple [.int (2*tm),.list A2,.list P2],.tuple [.int (2*tm),.list A,.list P]]
 have r2:Rw 2 2 Z2:=.cons (tri .int (rm ha.2) (rm (by lia))) (.cons (tri .int (up rA (by decide)) (up rP (by decide))) .nil);refine Kf (ρ1:=[S0,S1,S2,S3,S4,S5,S6,S7,S8,S9,zd (.own (Ux 4 T1++Z2)),zj]) (ZT (Ox (Yi zh zh) (KZ (UP (Zk (UP (U2 UW (UM zh) (WP (by decide) (by decide))) (UP (Kx (Zl (K7 (UM zh) Zh) (cmp as 0 (λa=>2*a) ha.2 ?_))) (UP (Kx (Zl (K7 (UM zh) Zh) (cmp ps 0 (λa=>2*a) (by lia) ?_))) UV))) (Qa zh)) (UP (Zk (UP (U2 UW (UM zh) (WP (by decide) (by decide))) (UP (UM zh) (UP (UM zh) UV))) (Qa zh)) UV)) (Qa zh)) (show 4+2<=1000000 by decide)) (Qa zh) zh) ?_
 .rintro a ρ ⟨x,rfl⟩
  exact⟨_,UT (Qa zh) zh,U2 UW (UM zh) (WP (by decide) (by decide)),_,rfl⟩
 .rintro a ρ ⟨x,rfl⟩
  exact⟨_,UT (Qa zh) zh,U2 UW (UM zh) (WP (by decide) (by decide)),_,rfl⟩
 let Z3:zn:=[.tuple [.int tm,.list P,.list A],.tuple [.int tm,.list A.reverse,.list P.reverse],.tuple [.bool zk,.list A,.list P],.tuple [.int 0,.list A,.list P]]
 have uA:=up (rA (k:=0)) (by decide);have uP:=up (rP (k:=0)) (by decide);have r3:Rw 2 4 Z3:=.cons (tri .int uP uA) (.cons (tri .int uA.rev uP.rev) (.cons (tri .bl uA uP) (.cons (tri .int uA uP) .nil)));refine Kf (ρ1:=[S0,S1,S2,S3,S4,S5,S6,S7,S8,S9,zd (.own ((Ux 4 T1++Z2)++Z3)),zj]) (ZT (Ox (Yi zh zh) (KZ (UP (Zk (UP (UM zh) (UP (UM zh) (UP (UM zh) UV))) (Qa zh)) (UP (Zk (UP (UM zh) (UP (Px (UM zh) UW UW (ZE (WH UW))) (UP (Px (UM zh) UW UW (ZE (WH UW))) UV))) (Qa zh)) (UP (Zk (UP UW (UP (UM zh) (UP (UM zh) UV))) (Qa zh)) (UP (Zk (UP UW (UP (UM zh) (UP (UM zh) UV))) (Qa zh)) UV)))) (Qa zh)) (show(4+2)+4<=1000000 by decide)) (Qa zh) zh) ?_
 let Z4:zn:=[.tuple [.int tm,.tuple A,.list P],.tuple [.int tm,.list (A++[.int 0]),.list P]]
 have r4:Rw 2 2 Z4:=.cons ((Rw.cons .int (Rw.cons (uA.tup (Qp _)) (Rw.cons (uP.lst (Qp _)) .nil))).tup (by decide)) (.cons (tri .int (up (rA.app (Rw.one .int)) (by decide)) uP) .nil);refine Kf (ρ1:=[S0,S1,S2,S3,S4,S5,S6,S7,S8,S9,zd (.own (((Ux 4 T1++Z2)++Z3)++Z4)),zj]) (ZT (Ox (Yi zh zh) (KZ (UP (Zk (UP (UM zh) (UP (Zf (UP (UM zh) UV) (show Tl [.list A]=zd (.tuple A)from rfl)) (UP (UM zh) UV))) (Qa zh)) (UP (Zk (UP (UM zh) (UP (U2 (UM zh) (KZ (UP UW UV) (Qa zh)) ((rA (k:=0)).add (Rw.one .int) (by decide))) (UP (UM zh) UV))) (Qa zh)) UV)) (Qa zh)) (show(4+2+4)+2<=1000000 by decide)) (Qa zh) zh) ?_
 let OD:zn:=[.bool zk,.none,.str "0", .list [.int 0]]
 obtain⟨od,hod,bA⟩:=Tk (ds:=OD) v1 (Jk _);have bod:Bs 1 od:=by have:Rw 1 4 OD:=.cons .bl (.cons .non (.cons .s0 (.cons ((Rw.one .int).lst (by decide)) .nil)));exact this.2 od bA
 let O:zn:=(DL.cutD (R.map int) zj (zd at')++[od])++DL.cutD (R.map int) (zd (at'+1)) zj
 have rO:Rw 1 27 O:=((rR.cut).app (Rw.one bod)).app rR.cut
 let S11:Option Sl:=zd (.pub (.list O))
 let Z5:=((Ux 4 T1++Z2)++Z3)++Z4
 refine Kf (ρ1:=[S0,S1,S2,S3,S4,S5,S6,S7,S8,S9,zd (.own Z5),S11]) (Kt (U2 (U2 (Ye (UM zh) UW (ZE (UM zh)) Yg) (KZ (UP (U2 (x:=.list OD) (KZ (UP UW (UP UW (UP UW (UP (KZ (UP UW UV) (Qa zh)) UV)))) (Qa zh)) (U2 (Kr zh UW e1) UW (Xj (by decide))) hod) UV) (Qa zh)) ((rR (k:=1)).cut.add (Rw.one bod) (by decide))) (Ye (UM zh) (ZE (U2 (UM zh) UW KW)) UW Yg) (((rR (k:=1)).cut.app (Rw.one bod)).add rR.cut (by decide))) (Qa zh) zh) ?_
 let Z6:zn:=[.tuple [.int tm,.list (DL.cutD O zj (zd n9)),.list (DL.cutD O (zd n9) zj)],.tuple [.int tm,.list A,.list (DL.cutD P (zd 1) zj)],.none,KM tm as ps]
 have r6:Rw 3 4 Z6:=.cons ((Rw.cons .int (Rw.cons (rO.cut.lst (by decide)) (Rw.cons (rO.cut.lst (by decide)) .nil))).tup (by decide)) (.cons (tri .int uA uP.cut).up (.cons .non (.cons (NB (by lia) (by lia)).up .nil)));have r5:Rw 2 12 Z5:=((r1.app r2).app r3).app r4;refine Kf (ρ1:=[S0,S1,S2,S3,S4,S5,S6,S7,S8,S9,zd (.own (Z5++Z6)),S11]) (ZT (Ox (Yi zh zh) (KZ (UP (Zk (UP (UM zh) (UP (Ye (UM zh) UW (ZE (UM zh)) Yg) (UP (Ye (UM zh) (ZE (UM zh)) UW Yg) UV))) (Qa zh)) (UP (Zk (UP (UM zh) (UP (UM zh) (UP (Ye (UM zh) (ZE UW) UW Yg) UV))) (Qa zh)) (UP UW (UP (UM zh) UV)))) (Qa zh)) (by have:=r5.1;show _+4<=_;lia)) (Qa zh) zh) ?_;have cmp2:∀{S10:Option Sl}(xs:zo){g:M D}(e:Int->Int),xs.length<=7->(∀a ρ,(∃x,ρ=[S0,S1,S2,S3,S4,S5,S6,S7,S8,S9,S10,S11,x])->∃ρ1,gN 12 (.int a) ρ=zd ρ1/\g ρ1=.ok (.int (e a)) ρ1/\∃x,KD ρ1=[S0,S1,S2,S3,S4,S5,S6,S7,S8,S9,S10,S11,x])->K6 (gN 12) (UR zk) g (xs.map int) [S0,S1,S2,S3,S4,S5,S6,S7,S8,S9,S10,S11,zj] []=zd ((xs.map e).map int):=λxs g e hl h=>by refine(Xf int (λ_=>zk) (λa=>int (e a)) (λρ=>∃x,ρ=[S0,S1,S2,S3,S4,S5,S6,S7,S8,S9,_,S11,x]) xs _ [] (λa _ ρ hρ=>let ⟨ρ1,a1,a2,a3⟩:=h a ρ hρ;⟨ρ1,a1,rfl,λ_=>a2,a3⟩) ⟨zj,rfl⟩ (by rw[Qt];lia)).trans (by rw[Qy,QJ.mpr (λ_ _=>rfl),QO];rfl)
 let A7:=(as.map λa=>a+tm).map int
 let P7:=(ps.map λa=>if a-tm > 0 then a-tm else 0).map int
 let T7:D:=.tuple [.int tm,.list A7,.list P7]
 let Z:=(Z5++Z6)++[T7]
 have rZ:Rw 3 17 Z:=(Rw.app (⟨r5.1,λx hx=>(r5.2 x hx).up⟩:Rw 3 12 Z5) r6).app (Rw.one (tri .int (rm ha.2) (rm (by lia))).up);have l56:(Z5++Z6).length<1000000:=by have:=r5.1;rw[Qi];show _+4<_;lia
 refine Kf (ρ1:=[S0,S1,S2,S3,S4,S5,S6,S7,S8,S9,zd (.own Z),S11]) (WG zh (Zk (UP (UM zh) (UP (Kx (Zl (K7 (UM zh) Zh) (cmp2 as (λa=>a+tm) ha.2 ?_))) (UP (Kx (Zl (K7 (UM zh) Zh) (cmp2 ps (λa=>if a-tm > 0 then a-tm else 0) (by lia) ?_))) UV))) (Qa zh)) zh l56 zh) ?_
 .rintro a ρ ⟨x,rfl⟩
  exact⟨_,UT (Qa zh) zh,U2 (UM zh) (UM zh) KW,_,rfl⟩
 .rintro a ρ ⟨x,rfl⟩
  exact⟨_,UT (Qa zh) zh,Zf (UP UW (UP (U2 (UM zh) (UM zh) YT) UV)) Ml,_,rfl⟩
 obtain⟨d,h1,h2⟩:=Tk (ds:=Z) v2 (by rw[Qi];exact Jk _);refine Kk (Vk zh (U2 (Kr zh UW e2) (HY zh) (Xj (by rw[Qi];show(0:Int)<((_+1:Nat):Int);lia))) zh h1) ⟨d,rfl,rZ.2 d h2⟩
def Dj(hL:1<=L.length/\L.length<=62)(hm:1<=m/\m<=7)(hl:∀us∈L,us.length=m)(hd:dg.length=5):∃d,WV [.list (L.map U9),.list (dg.map int)]=zd d/\Bs 3 d:=by
 obtain⟨v0,e0⟩:=Tj (k:=0) hd (by decide);obtain⟨v1,e1⟩:=Tj (k:=1) hd (by decide);obtain⟨v2,e2⟩:=Tj (k:=2) hd (by decide);obtain⟨v3,e3⟩:=Tj (k:=3) hd (by decide)
 let X:zn:=L.map U9
 let S0:Option Sl:=zd (.pub (.list X))
 let S1:Option Sl:=zd (.pub (.list (dg.map int)))
 have rX:Rw 1 62 X:=MB hL.2 λus hu=>by have:=hl us hu;lia
 have hX0:0<X.length:=by show 0<(L.map U9).length;rw[Qb];exact hL.1
 have hXi:(0:Int)<(X.length:Int):=by lia
 refine XB (ρ:=[S0,S1,zj,zj,zj,zj,zj,zj]) zh ?_;unfold Sn
 let at':Int:=v0 % (X.length:Int)
 let S2:Option Sl:=zd (.pub (.int at'))
 refine Kf (ρ1:=[S0,S1,S2,zj,zj,zj,zj,zj]) (Kt (U2 (Kr zh UW e0) (Zg zh K8) (Xj hXi)) (Qa zh) zh) ?_;obtain⟨u0,hu0⟩:∃us,L[0]?=zd us:=⟨_,Qe (by lia)⟩
 have hix0:oIx (.list X) (.int 0)=zd (U9 u0):=Zq (j:=0) (by rw[Qd,hu0];rfl);have hlu:Ki [U9 u0]=zd (.int (m:Nat)):=by show Ki [.list (u0.map Kb)]=_;rw[K8,Qb,hl u0 (Qq hu0)]
 let w':Int:=v1 % ((m:Nat):Int)
 let S3:Option Sl:=zd (.pub (.int w'))
 refine Kf (ρ1:=[S0,S1,S2,S3,zj,zj,zj,zj]) (Kt (U2 (Kr zh UW e1) (Zf (UP (Kr zh UW hix0) UV) hlu) (Xj (by lia))) (Qa zh) zh) ?_
 let OD:zn:=[.none,.int 0,.int 1,.int 2,.int (v1 % 7),.bool zk,.int (-1),.str "0"]
 obtain⟨od,hod,bA⟩:=Tk (ds:=OD) v3 (Jk _);have bod:Bs 0 od:=by have:Rw 0 8 OD:=.cons .non (.cons .int (.cons .int (.cons .int (.cons .int (.cons .bl (.cons .int (.cons .s0 .nil)))))));exact this.2 od bA
 let S4:Option Sl:=zd (.pub od)
 refine Kf (ρ1:=[S0,S1,S2,S3,S4,zj,zj,zj]) (Kt (U2 (x:=.list OD) (KZ (UP UW (UP UW (UP UW (UP UW (UP (U2 (Kr zh UW e1) UW (Xj (by decide))) (UP UW (UP (WH UW) (UP UW UV)))))))) (Qa zh)) (U2 (Kr zh UW e3) UW (Xj (by decide))) hod) (Qa zh) zh) ?_;obtain⟨d5,h5,hm5⟩:=Tk (ds:=X) v0 hX0;obtain⟨u5,hu5,rfl⟩:=Qo.mp hm5;have r5:Rw 0 7 (u5.map Kb):=Rw.opts (by have:=hl u5 hu5;lia)
 let S5:Option Sl:=zd (.pub (U9 u5))
 refine Kf (ρ1:=[S0,S1,S2,S3,S4,S5,zj,zj]) (Kt (Kr zh (UM zh) h5) (Qa zh) zh) ?_
 let O:zn:=(DL.cutD (u5.map Kb) zj (zd w')++[od])++DL.cutD (u5.map Kb) (zd (w'+1)) zj
 have rO:Rw 0 15 O:=(r5.cut.app (Rw.one bod)).app r5.cut
 let S6:Option Sl:=zd (.pub (.list O))
 refine Kf (ρ1:=[S0,S1,S2,S3,S4,S5,S6,zj]) (Kt (U2 (x:=.list (DL.cutD (u5.map Kb) zj (zd w')++[od])) (U2 (x:=.list (DL.cutD (u5.map Kb) zj (zd w'))) (Ye (UM zh) UW (ZE (UM zh)) Yg) (KZ (UP (UM zh) UV) (Qa zh)) (r5.cut.add (Rw.one bod) (by decide))) (Ye (UM zh) (ZE (U2 (UM zh) UW KW)) UW Yg) ((r5.cut.app (Rw.one bod)).add r5.cut (by decide))) (Qa zh) zh) ?_
 let c1:=DL.cutD X zj (zd at')
 let c2:=DL.cutD X (zd (at'+1)) zj
 have k1:Rw 1 62 c1:=rX.cut;have k2:Rw 1 62 c2:=rX.cut;have bO:Bs 1 (.list O):=rO.lst (by decide);have b5:Bs 1 (U9 u5):=r5.lst (by decide)
 let Y1:zn:=[.list ((c1++[.list O])++c2),.list (c1++c2),.list (X++[.list O])]
 have q1:Rw 3 3 Y1:=.cons (((k1.app (Rw.one bO)).app k2).lst (by decide)).up (.cons ((k1.app k2).lst (by decide)).up (.cons ((rX.app (Rw.one bO)).lst (by decide)).up .nil));refine Kf (ρ1:=[S0,S1,S2,S3,S4,S5,S6,zd (.own Y1)]) (ZT (WO (UP (U2 (U2 (Ye (UM zh) UW (ZE (UM zh)) Yg) (KZ (UP (UM zh) UV) (Qa zh)) (k1.add (Rw.one bO) (by decide))) (Ye (UM zh) (ZE (U2 (UM zh) UW KW)) UW Yg) ((k1.app (Rw.one bO)).add k2 (by decide))) (UP (U2 (Ye (UM zh) UW (ZE (UM zh)) Yg) (Ye (UM zh) (ZE (U2 (UM zh) UW KW)) UW Yg) (k1.add k2 (by decide))) (UP (U2 (UM zh) (KZ (UP (UM zh) UV) (Qa zh)) (rX.add (Rw.one bO) (by decide))) UV))) (Qa zh)) (Qa zh) zh) ?_
 let Y2:zn:=[.list (X++[U9 u5]),.list X.reverse]
 have q2:Rw 3 2 Y2:=.cons ((rX.app (Rw.one b5)).lst (by decide)).up (.cons (rX.rev.lst (by decide)).up .nil)
 let S7:Option Sl:=zd (.pub (.list (Y1++Y2)))
 refine Kf (ρ1:=[S0,S1,S2,S3,S4,S5,S6,S7]) (Kt (U2 (Yi zh zh) (KZ (UP (U2 (UM zh) (KZ (UP (UM zh) UV) (Qa zh)) (rX.add (Rw.one b5) (by decide))) (UP (Px (UM zh) UW UW (ZE (WH UW))) UV)) (Qa zh)) (q1.add q2 (by decide))) (Qa zh) zh) ?_
 let Y3:zn:=[.list [],.list [U9 u5],.list (DL.cutD X (zd at') zj),.tuple X,.none,.list (X++[.none]),.list ([.tuple (u5.map Kb)]++X),.list (DL.cutD X zj (zd (at'+1)))]
 have bt:Bs 1 (.tuple (u5.map Kb)):=r5.tup (by decide);have q3:Rw 3 8 Y3:=.cons ((Rw.nil (k:=2)).lst (by decide)) (.cons ((Rw.one b5).lst (by decide)).up (.cons (rX.cut.lst (by decide)).up (.cons (rX.tup (by decide)).up (.cons .non (.cons ((rX.app (Rw.one .non)).lst (by decide)).up (.cons (((Rw.one bt).app rX).lst (by decide)).up (.cons (rX.cut.lst (by decide)).up .nil)))))))
 let Y:=(Y1++Y2)++Y3
 have qY:Rw 3 13 Y:=(q1.app q2).app q3;refine Kf (ρ1:=[S0,S1,S2,S3,S4,S5,S6,zd (.pub (.list Y))]) (Kt (U2 (UM zh) (KZ (UP (KZ UV (Qa zh)) (UP (KZ (UP (UM zh) UV) (Qa zh)) (UP (Ye (UM zh) (ZE (UM zh)) UW Yg) (UP (Zf (UP (UM zh) UV) (show Tl [.list X]=zd (.tuple X)from rfl)) (UP UW (UP (U2 (UM zh) (KZ (UP UW UV) (Qa zh)) (rX.add (Rw.one .non) (by decide))) (UP (U2 (KZ (UP (Zf (UP (UM zh) UV) (show Tl [U9 u5]=zd (.tuple (u5.map Kb))from rfl)) UV) (Qa zh)) (UM zh) ((Rw.one bt).add rX (by decide))) (UP (Ye (UM zh) UW (ZE (U2 (UM zh) UW KW)) Yg) UV)))))))) (Qa zh)) ((q1.app q2).add q3 (by decide))) (Qa zh) zh) ?_;obtain⟨d,h1,h2⟩:=Tk (ds:=Y) v2 (Jk _);exact Kk (Kr zh (U2 (Kr zh UW e2) (Zg zh K8) (Xj (show(0:Int)<((13:Nat):Int)by decide))) h1) ⟨d,rfl,qY.2 d h2⟩
def BD(ha:1<=as.length/\as.length<=7)(hp:ps.length<=6)(hL:1<=L.length/\L.length<=62)(hm:1<=m/\m<=7)(hl:∀us∈L,us.length=m)(hd:dg.length=5):∃d,VI [ZB tm as ps L,.list (dg.map int)]=zd d/\Bs 5 d:=by
 obtain⟨v4,e4⟩:=Tj (k:=4) hd (by decide);obtain⟨pb,bz,bpb⟩:=yG (tm:=tm) ha hp hd;obtain⟨db,hdb,bdb⟩:=Dj hL hm hl hd;obtain⟨dr,hdr,bdr⟩:=Dj (dg:=dg.reverse) hL hm hl (by rw[List.length_reverse];exact hd);rw[List.map_reverse]at hdr
 let X:D:=.list (L.map U9)
 let Pp:D:=KM tm as ps
 have bX:Bs 3 X:=((MB hL.2 λus hu=>by have:=hl us hu;lia).lst (by decide)).up;have bP:Bs 3 Pp:=(NB (by lia) (by lia)).up
 let S0:Option Sl:=zd (.pub (ZB tm as ps L))
 let S1:Option Sl:=zd (.pub (.list (dg.map int)))
 let S2:Option Sl:=zd (.pub Pp)
 let S3:Option Sl:=zd (.pub X)
 refine XB (ρ:=[S0,S1,zj,zj,zj]) zh ?_;unfold Sm;refine Kf (ρ1:=[S0,S1,S2,S3,zj]) (YW (UM zh) (Km zh (UZ (UT (Qa zh) zh) (UZ (UT (Qa zh) zh) Kn)))) ?_;have two:∀{a b:D},Bs 3 a->Bs 3 b->Bs 4 (.tuple [a,b]):=λh1 h2=>(Rw.cons h1 (Rw.cons h2 .nil)).tup (by decide)
 let Z1:zn:=(Ux 5 [PyData.tuple [pb,X]]).flatten++(Ux 6 [PyData.tuple [Pp,db]]).flatten
 have r1:Rw 4 11 Z1:=⟨Qp _,λx hx=>by
  rcases QG.mp hx with hx|hx
  .obtain⟨l,h1,h2⟩:=JY.mp hx
   rw[List.eq_of_mem_replicate h1]at h2;rw[Qv.mp h2];exact two bpb bX
  .obtain⟨l,h1,h2⟩:=JY.mp hx
   rw[List.eq_of_mem_replicate h1]at h2;rw[Qv.mp h2];exact two bP bdb⟩
 have cb:∀{y:Option Sl},UX 2 Wr (UO (UL 2) (UO (UL 1) UN)) [S0,S1,S2,S3,y]=.ok pb [S0,S1,S2,S3,y]:=Kg (UP (UM zh) (UP (UM zh) UV)) zh bz;refine Kf (ρ1:=[S0,S1,S2,S3,zd (.pub (.list Z1))]) (Kt (U2 (U2 (KZ (UP (Zk (UP cb (UP (UM zh) UV)) (Qa zh)) UV) (Qa zh)) UW (O5 ⟨by decide,by decide,show 1*5<=1000000 by decide⟩)) (U2 (KZ (UP (Zk (UP (UM zh) (UP (Kg (UP (UM zh) (UP (UM zh) UV)) zh hdb) UV)) (Qa zh)) UV) (Qa zh)) UW (O5 ⟨by decide,by decide,show 1*6<=1000000 by decide⟩)) (Xx (show 5+6<=1000000 by decide))) (Qa zh) zh) ?_
 let Z2:zn:=[.tuple [pb,dr],.list [Pp,X],ZB tm as ps L]
 have r2:Rw 4 3 Z2:=.cons (two bpb bdr) (.cons ((Rw.cons bP (Rw.cons bX .nil)).lst (by decide)) (.cons (two bP bX) .nil));refine Kf (ρ1:=[S0,S1,S2,S3,zd (.pub (.list (Z1++Z2)))]) (Kt (U2 (UM zh) (KZ (UP (Zk (UP cb (UP (Kg (UP (UM zh) (UP (Px (UM zh) UW UW (ZE (WH UW))) UV)) zh hdr) UV)) (Qa zh)) (UP (KZ (UP (UM zh) (UP (UM zh) UV)) (Qa zh)) (UP (UM zh) UV))) (Qa zh)) (r1.add r2 (by decide))) (Qa zh) zh) ?_
 let Z3:zn:=[.tuple [X,Pp],.tuple [Pp],.tuple [Pp,X,.int 0],.none,Pp]
 have r3:Rw 4 5 Z3:=.cons (two bX bP) (.cons ((Rw.one bP).tup (by decide)) (.cons ((Rw.cons bP (Rw.cons bX (Rw.cons .int .nil))).tup (by decide)) (.cons .non (.cons bP.up .nil))))
 let Z:=(Z1++Z2)++Z3
 have rZ:Rw 4 19 Z:=(r1.app r2).app r3;refine Kf (ρ1:=[S0,S1,S2,S3,zd (.pub (.list Z))]) (Kt (U2 (UM zh) (KZ (UP (Zk (UP (UM zh) (UP (UM zh) UV)) (Qa zh)) (UP (Zk (UP (UM zh) UV) (Qa zh)) (UP (Zk (UP (UM zh) (UP (UM zh) (UP UW UV))) (Qa zh)) (UP UW (UP (UM zh) UV))))) (Qa zh)) ((r1.app r2).add r3 (by decide))) (Qa zh) zh) ?_;obtain⟨d,h1,h2⟩:=Tk (ds:=Z) v4 (Jk _);exact Kk (Kr zh (U2 (Kr zh UW e4) (Zg zh K8) (Xj (show(0:Int)<((19:Nat):Int)by decide))) h1) ⟨d,rfl,(rZ.2 d h2).up⟩
end
def jW(a b:Bool):oNe (.bool a) (.bool b)=zd (!decide (a=b)):=by cases a<;>cases b<;>rfl
def Bk(f:LO->Int)(us:zA):Yj (us.map U9) ((us.map f).map int)=us.map λu=>.tuple [U9 u,.int (f u)]:=by
 induction us with
 |nil=>rfl
 |cons u r ih=>show PyData.tuple [U9 u,.int (f u)]::Yj (r.map U9) ((r.map f).map int)=_;rw[ih];rfl
def Dk{k j:Nat}{a b:D}(h:Bs k a)(h2:Bs j b)(hk:k<=50):∃r,oNe a b=zd r:=by unfold oNe;rw[Qu ⟨h.lay.1,h2.lay.1,by have:=h.lay.2;lia⟩];exact⟨_,rfl⟩
def jV{cs:zo}{ls:L3}(g:Good cs ls):Good (cs.map λc=>if c+1<7 then c+1 else 7) ls where
 c1:=by rw[Qb];exact g.c1
 c6:=by rw[Qb];exact g.c6
 c7:=λc hc=>by
  obtain⟨x,hx,rfl⟩:=Qo.mp hc;have:=g.c7 x hx;show 0<=(if x+1<7 then x+1 else 7)/\(if x+1<7 then x+1 else 7)<8
  split<;>lia
 l1:=g.l1
 l7:=g.l7
 rk:=λrs hrs=>by rw[Qb];exact g.rk rs hrs
def ww{cs:zo}{ls:L3}(g:Good cs ls):Good cs (ls.map List.tail) where
 c1:=g.c1
 c6:=g.c6
 c7:=g.c7
 l1:=by rw[Qb];exact g.l1
 l7:=by rw[Qb];exact g.l7
 rk:=λrs hrs=>by
  obtain⟨x,hx,rfl⟩:=Qo.mp hrs;have r:=g.rk x hx
  exact⟨by have:=r.few;rw[List.length_tail];lia,λy hy=>r.some y (List.mem_of_mem_tail hy),λy hy=>r.there y (List.mem_of_mem_tail hy),by
   cases x with
   |nil=>exact List.nodup_nil
   |cons a x=>have:=r.once;rw[Js]at this;exact(List.nodup_append.mp this).2.1⟩
section
variable{cs:zo}{ls:L3}{o:Ord}{old:zC}{ts:zo}{tm:Int}{as ps:zo}{L L0:zA}
def FJ(g:Good cs ls)(ga:Ym cs.length ls.length old ts){us:LO}(du:Deal cs ls us):XX [Kq cs ls,KF o old ts,U9 us]=zd (.int (Kc (U4 (Kj ls o old ts)) 0 us)):=by rw[j7 g ga du,NX ls us ls 0 (λj rs h=>by rw[QU,Qm,h];rfl) du.len]
def Hn(g:Good cs ls)(ga:Ym cs.length ls.length old ts)(hin:∀us,Deal cs ls us->us∈L0)(be:∀us∈L0,Deal cs ls us)(gw:GWeb cs (U4 (Kj ls o old ts)) (U7 0 ls) ls.length tm as ps L):XV [Kq cs ls,KF o old ts,.list (L0.map U9),.list ((L0.map (Kc (U4 (Kj ls o old ts)) 0)).map int),ZB tm as ps L]=zd (.bool zk):=by
 let F:=U4 (Kj ls o old ts)
 let W:=Kc F 0
 have hp:=P4 g;have ok:OkP cs.length ls.length (Kj ls o old ts) (U7 0 ls) tm as ps:=gw.ok;obtain⟨u0,hu0⟩:=List.exists_mem_of_ne_nil _ gw.ne;have hm0:=NC hp gw hu0;have hin0:=hin u0 (Nj hm0.dl);have hpos:0<(L0.map W).length:=by rw[Qb];exact J0 hin0
 let m:=most (L0.map W)
 have hmm:∀us,Deal cs ls us->(W us=m ↔ Ts cs F (U7 0 ls) ls.length us):=λus du=>by
  constructor
  .intro e
   refine⟨RU du,λvs hv=>?_⟩;have:=PN (Qo.mpr ⟨vs,hin vs (Nj hv),rfl⟩:W vs∈L0.map W);show W vs<=W us;rw[e];exact this
  .intro h
   obtain⟨v,hv,e⟩:=Qo.mp (PX hpos);have h1:=h.mx v (RU (be v hv));have h2:=PN (Qo.mpr ⟨us,hin us du,rfl⟩:W us∈L0.map W);have e:W v=m:=e;exact JQ h2 (by rw[←e];exact h1)
 let T:=Z8 F (U7 0 ls) tm as ps
 let S0:Option Sl:=zd (.pub (Kq cs ls))
 let S1:Option Sl:=zd (.pub (KF o old ts))
 let S2:Option Sl:=zd (.pub (.list (L0.map U9)))
 let S3:Option Sl:=zd (.pub (.list ((L0.map W).map int)))
 let S4:Option Sl:=zd (.pub (ZB tm as ps L))
 let S5:Option Sl:=zd (.pub (.list (T.map Kp)))
 let S6:Option Sl:=zd (.pub (.int m))
 have hw0:oIx (ZB tm as ps L) (.int 0)=zd (KM tm as ps):=Zq (j:=0) zh;have aZ:oIx (ZB tm as ps L) (.int 1)=zd (.list (L.map U9)):=Zq (j:=1) zh;refine KY (ρ:=[S0,S1,S2,S3,S4,zj,zj,zj,zj]) zh ?_;unfold Sj;refine Kf (ρ1:=[S0,S1,S2,S3,S4,S5,zj,zj,zj]) (Kt (Kg (UP (UM zh) (UP (UM zh) (UP (Kr zh UW hw0) UV))) zh (wA g ga ok.la ok.lp)) (Qa zh) zh) ?_;refine Kf (ρ1:=[S0,S1,S2,S3,S4,S5,S6,zj,zj]) (Kt (Zf (UP (UM zh) UV) (Mz hpos)) (Qa zh) zh) ?_;apply KL;apply Zs (λ_ ρ=>∃x7 x8,ρ=[S0,S1,S2,S3,S4,S5,S6,x7,x8])
 case h1=>exact L9 (UP (UM zh) (UP (UM zh) UV)) (show Wl [.list (L0.map U9),.list ((L0.map W).map int)]=zd (Yj (L0.map U9) ((L0.map W).map int))from rfl)
 case h0=>exact⟨_,_,rfl⟩
 case hst=>
  rintro i d ρ hi ⟨x7,x8,rfl⟩;rw[Bk,Qd]at hi;obtain⟨us,hz,rfl⟩:=Jz.mp hi;have du:=be us (Qq hz);refine⟨_,Km zh (UZ (UT (Qa zh) zh) (UZ (UT (Qa zh) zh) Kn)),?_⟩;unfold HG;obtain⟨b,hb,hbi⟩:=xA g ok du;have zM:decide (b=decide (W us=m))=zk:=by refine QW ?_;rw[JO,hbi,Jg,hmm us du];exact jL hp gw (RU du)
  exact Kw (b:=zm) (ρ1:=[S0,S1,S2,S3,S4,S5,S6,zd (.pub (U9 us)),zd (.pub (.int (W us)))]) ((U2 (Kg (UP (UM zh) (UP (Kr zh UW hw0) (UP (UM zh) (UP (UM zh) UV)))) zh hb) (Kx (ZS zh (UM zh) YI)) (jW _ _)).trans (by rw[zM];rfl)) (λz=>by cases z) λ_=>KO (KU ⟨_,_,rfl⟩)
 case hend=>
 rintro ρ ⟨x7,x8,rfl⟩;refine KI ?_;apply KL;apply Zs (λ_ ρ=>∃x7,ρ=[S0,S1,S2,S3,S4,S5,S6,x7,x8])
 case h1=>exact K7 (Kr zh UW aZ) Zh
 case h0=>exact⟨_,rfl⟩
 case hst=>
  rintro i d ρ hi ⟨x7,rfl⟩;rw[Qd]at hi;obtain⟨us,hz,rfl⟩:=Jz.mp hi;have hu:=NC hp gw (Qq hz);have du:=Nj hu.dl;refine⟨_,UT (Qa zh) zh,?_⟩;unfold HH;have hni:ZW (U9 us) (.list (L0.map U9))=zd zm:=by unfold ZW;rw[FE,QW (hin us du)];rfl
  exact Kw (b:=zm) (ρ1:=[S0,S1,S2,S3,S4,S5,S6,zd (.pub (U9 us)),x8]) (Yk (ZS zh (UM zh) hni) ((U2 (Kg (UP (UM zh) (UP (UM zh) (UP (UM zh) UV))) zh (FJ g ga du)) (UM zh) Vo).trans (by rw[QW ((hmm us du).mpr hu)];rfl))) (λz=>by cases z) λ_=>KO (KU ⟨_,rfl⟩)
 case hend=>rintro ρ ⟨x7,rfl⟩;exact KI (Kk UW rfl)
end
theorem GT{cs:zo}{ls:L3}:∀(ds:zn),(∀d∈ds,∃ws,d=U9 ws/\Deal cs ls ws)->∃L:zA,ds=L.map U9/\∀ws∈L,Deal cs ls ws
 |[],_=>⟨[],rfl,λ_ h=>by cases h⟩
 |d::ds,h=>by
  obtain⟨ws,rfl,dw⟩:=h d Ql;obtain⟨L,rfl,hL⟩:=GT ds λx hx=>h x (Qj _ hx)
  exact⟨ws::L,rfl,λx hx=>(QB.mp hx).elim (λe=>e ▸ dw) (hL x)⟩
def jK:∀ns:zo,ns.length<=63->VH [.list (ns.map int)]=zd (.bool zk):=by
 intro ns hns;refine KY (ρ:=[zd (.pub (.list (ns.map int))),zj,zj,zj,zj,zj,zj,zj,zj,zj,zj,zj]) zh ?_;unfold Sh;obtain⟨r,hr,cs,ls,rfl,g,hT,hA,_⟩:=yy 3 4 3 (ns:=ns) (by lia) 0;have l7:=g.l7;have c6:=g.c6;have c1:=g.c1;have l1:=g.l1;have hp:=P4 g;obtain⟨v5,hv5⟩:=P9 ns 5 (by lia);obtain⟨v6,hv6⟩:=P9 ns 6 (by lia);obtain⟨v14,hv14⟩:=P9 ns 14 (by lia);obtain⟨r,ha,o,old,ts,rfl,ga⟩:=F5 g v5 5;obtain⟨r,hall,ds,rfl,hdl,hds,bI⟩:=jq g (by lia) (by lia);obtain⟨L0,rfl,be⟩:=GT ds hds;rw[Qb]at hdl;have hin:∀us,Deal cs ls us->us∈L0:=λus du=>by obtain⟨v,hv,e⟩:=Qo.mp (bI us du);injection e with e;rw[←MG e];exact hv
 obtain⟨ws,T,as,ps,L,hweb,wq⟩:=Ng (o:=o) g ga;have gw:=Dl hp wq;have la:=gw.ok.la;have lp:=gw.ok.lp;have aO:=wq.len;have hLp:1<=L.length:=List.length_pos_iff.mpr gw.ne;have hLm:∀us∈L,us.length=ls.length:=λus hu=>(gw.best us hu).1.len
 let tm:Int:=((cs.length+1:Nat):Int)
 let W:=Kc (U4 (Kj ls o old ts)) 0
 let Wb:=ZB tm as ps L
 have bW:Bs 3 Wb:=OC (by lia) (by lia) (by lia) λus hu=>by have:=hLm us hu;lia
 have lets:∀{k:Nat}{d:D},Bs k d->∃b,Xq [Kq cs ls,KF o old ts,d]=zd (.bool b)/\(b=zk->XV [Kq cs ls,KF o old ts,.list (L0.map U9),.list ((L0.map W).map int),d]=zd (.bool zk)):=λh=>by obtain⟨b,hb,hbi⟩:=E9 (o:=o) g ga h.shw;refine⟨b,hb,λz=>?_⟩;obtain⟨_,_,_,_,rfl,g2⟩:=hbi.mp z;exact Hn g ga hin be g2
 let S0:Option Sl:=zd (.pub (.list (ns.map int)))
 let S1:Option Sl:=zd (.pub (Kq cs ls))
 let S2:Option Sl:=zd (.pub (KF o old ts))
 let S3:Option Sl:=zd (.pub (.list (L0.map U9)))
 let S4:Option Sl:=zd (.pub (.list ((L0.map W).map int)))
 let S5:Option Sl:=zd (.pub Wb)
 refine Kf (ρ1:=[S0,S1,zj,zj,zj,zj,zj,zj,zj,zj,zj,zj]) (Kt (Kg (UP (UM zh) (UP UW (UP UW (UP UW (UP UW UV))))) zh hr) (Qa zh) zh) ?_;refine Kf (ρ1:=[S0,S1,S2,zj,zj,zj,zj,zj,zj,zj,zj,zj]) (Kt (Kg (UP (UM zh) (UP (Kg (UP (UM zh) (UP UW UV)) zh hv5) (UP UW UV))) zh ha) (Qa zh) zh) ?_;refine Kf (ρ1:=[S0,S1,S2,S3,zj,zj,zj,zj,zj,zj,zj,zj]) (Kt (Kg (UP (UM zh) UV) zh hall) (Qa zh) zh) ?_;refine Kf (ρ1:=[S0,S1,S2,S3,zd (.own ((L0.map W).map int)),zj,zj,zj,zj,zj,zj,zj]) (ZT (Zl (K7 (UM zh) Zh) ((Xf U9 (λ_=>zk) (λus=>int (W us)) (λρ=>∃x,ρ=[S0,S1,S2,S3,zj,zj,zj,zj,zj,zj,zj,zj,x]) L0 _ [] ?_ ⟨zj,rfl⟩ (by rw[Qt];lia)).trans (by rw[Qy,QJ.mpr (λ_ _=>rfl),QO];rfl))) (Qa zh) zh) ?_
 .rintro us hu ρ ⟨x,rfl⟩
  exact⟨_,UT (Qa zh) zh,rfl,λ_=>Kg (UP (UM zh) (UP (UM zh) (UP (UM zh) UV))) zh (FJ g ga (be us hu)),_,rfl⟩
 refine Kf (ρ1:=[S0,S1,S2,S3,zd (.own ((L0.map W).map int)),S5,zj,zj,zj,zj,zj,zj]) (Kt (Kg (UP (UM zh) (UP (UM zh) UV)) zh hweb) (Qa zh) zh) ?_;obtain⟨b,hb,hbi⟩:=E9 (o:=o) g ga bW.shw;have hbt:b=zk:=hbi.mpr ⟨_,_,_,_,rfl,gw⟩;subst hbt;apply KL;refine Kw (b:=zm) (ρ1:=[S0,S1,S2,S3,S4,S5,zj,zj,zj,zj,zj,zj]) (Yk (U2 (Kg (UP (UM zh) (UP (UM zh) (UP (UM zh) UV))) zh hb) UW (by rfl)) (Yl (t:=zk) (Yh (Kg (UP (UM zh) (UP (UM zh) (UP (UM zh) (UP (Yi zh zh) (UP (UM zh) UV))))) zh (Hn g ga hin be gw))))) (λz=>by cases z) λ_=>KO (KI ?_)
 have hadd:U1 (.list [.int v6]) (.list (DL.cutD (ns.map int) (zd 7) (zd 14)))=zd (.list (.int v6::DL.cutD (ns.map int) (zd 7) (zd 14))):=by
  rw[Xx]
  .rfl
  .unfold DL.cutD
   rw[QT,Ji,Qb,QX]
   lia
 apply KL;apply Zs (λ_ ρ=>∃x6 x7 x8,ρ=[S0,S1,S2,S3,S4,S5,x6,x7,x8,zj,zj,zj])
 case h1=>exact Xc (UP (U2 (KZ (UP (Kg (UP (UM zh) (UP UW UV)) zh hv6) UV) (Qa zh)) (Ye (UM zh) (ZE UW) (ZE UW) Yg) hadd) UV) Xe
 case h0=>exact⟨_,_,_,rfl⟩
 case hst=>
  rintro i d ρ hi ⟨x6,x7,x8,rfl⟩;obtain⟨x,hx,rfl⟩:=Xd hi
  obtain⟨c,rfl⟩:∃c:Int,x=.int c:=by
   rcases QB.mp (Qq hx)with h|h
   .exact⟨_,h⟩
   .unfold DL.cutD at h
    obtain⟨c,_,rfl⟩:=Qo.mp (List.mem_of_mem_drop (JG h));exact⟨c,rfl⟩
  refine⟨_,Km zh (UZ (UT (Qa zh) zh) (UZ (UT (Qa zh) zh) Kn)),?_⟩;rw[QU];unfold HA
  let S6:Option Sl:=zd (.pub (.int (i:Nat)))
  let S7:Option Sl:=zd (.pub (.int c))
  obtain⟨r,hn,dg,rfl,hdl,_⟩:=Nl c (20+(i:Int)) (sizes:=[53,61,17,59,19]) (by decide) (by decide);obtain⟨d,hd,bd⟩:=BD (tm:=tm) (as:=as) (ps:=ps) (L:=L) (dg:=dg) (m:=ls.length) (by lia) (by lia) ⟨hLp,aO⟩ ⟨l1,l7⟩ hLm hdl;refine Kf (ρ1:=[S0,S1,S2,S3,S4,S5,S6,S7,zd (.pub d),zj,zj,zj]) (Kt (Kg (UP (UM zh) (UP (Kg (UP (UM zh) (UP (U2 UW (UM zh) KW) (UP (KZ (UP UW (UP UW (UP UW (UP UW (UP UW UV))))) (Qa zh)) UV))) zh hn) UV)) zh hd) (Qa zh) zh) ?_;obtain⟨e,he⟩:=Dk bd bW (by decide);obtain⟨b,hb,hbr⟩:=lets bd;refine Kw (b:=e&&b) (ρ1:=[S0,S1,S2,S3,S4,S5,S6,S7,zd (.pub d),zj,zj,zj]) (NK (ZS zh (UM zh) he) λ_=>Yh (Kg (UP (UM zh) (UP (UM zh) (UP (UM zh) UV))) zh hb)) (λz=>?_) λ_=>KO (KU ⟨_,_,_,rfl⟩);rw[QM]at z;exact Kw (b:=zm) (ρ1:=[S0,S1,S2,S3,S4,S5,S6,S7,zd (.pub d),zj,zj,zj]) (Yl (t:=zk) (Yh (Kg (UP (UM zh) (UP (UM zh) (UP (UM zh) (UP (UM zh) (UP (UM zh) UV))))) zh (hbr z.2)))) (λz=>by cases z) λ_=>KO (KU ⟨_,_,_,rfl⟩)
 case hend=>
 rintro ρ ⟨x6,x7,x8,rfl⟩;refine KI ?_;obtain⟨r,ha2,o2,old2,ts2,rfl,ga2⟩:=F5 g v14 14
 let bg:=cs.map λc=>if c+1<7 then c+1 else 7
 let bo:=ls.map List.tail
 have g2:Good bg ls:=jV g;have g3:Good cs bo:=ww g;have ga3:Ym bg.length ls.length old ts:=by show Ym (cs.map _).length _ _ _;rw[Qb];exact ga
 have ga4:Ym cs.length bo.length old ts:=by show Ym _ (ls.map _).length _ _;rw[Qb];exact ga
 obtain⟨_,_,a1,p1,K1,aZ,q1⟩:=Ng (o:=o2) g ga2;obtain⟨_,_,a2,p2,K2,aF,q2⟩:=Ng (o:=o) g2 ga3;obtain⟨_,_,a3,p3,K3,hw3,q3⟩:=Ng (o:=o) g3 ga4
 let S9:Option Sl:=zd (.pub (KF o2 old2 ts2))
 let S10:Option Sl:=zd (.pub (Kq bg ls))
 let S11:Option Sl:=zd (.pub (Kq cs bo))
 refine Kf (ρ1:=[S0,S1,S2,S3,S4,S5,x6,x7,x8,S9,zj,zj]) (Kt (Kg (UP (UM zh) (UP (Kg (UP (UM zh) (UP UW UV)) zh hv14) (UP UW UV))) zh ha2) (Qa zh) zh) ?_;refine Kf (ρ1:=[S0,S1,S2,S3,S4,S5,x6,x7,x8,S9,S10,zj]) (Kt (Zk (UP (Kx (Zl (K7 (Kr zh UW WB) Zh) ((Xf int (λ_=>zk) (λc=>int (if c+1<7 then c+1 else 7)) (λρ=>∃y6 y7 y8 x,ρ=[S0,S1,S2,S3,S4,S5,y6,y7,y8,S9,zj,zj,x]) cs _ [] ?_ ⟨_,_,_,zj,rfl⟩ (by rw[Qt];lia)).trans (by rw[Qy,QJ.mpr (λ_ _=>rfl),show(cs.map λc=>int (if c+1<7 then c+1 else 7))=bg.map int by show _=(cs.map _).map _;rw[QO];rfl])))) (UP (Kr zh UW WA) UV)) (Qa zh)) (Qa zh) zh) ?_
 .rintro c hc ρ ⟨y6,y7,y8,x,rfl⟩
  exact⟨_,UT (Qa zh) zh,rfl,λ_=>Zf (UP UW (UP (U2 (UM zh) UW KW) UV)) AZ,_,_,_,_,rfl⟩
 refine Kf (ρ1:=[S0,S1,S2,S3,S4,S5,x6,x7,x8,S9,S10,S11]) (Kt (Zk (UP (Kr zh UW WB) (UP (Kx (Zl (K7 (Kr zh UW WA) Zh) ((Xf K9 (λ_=>zk) (λrs=>K9 rs.tail) (λρ=>∃y6 y7 y8 x,ρ=[S0,S1,S2,S3,S4,S5,y6,y7,y8,S9,S10,zj,x]) ls _ [] ?_ ⟨_,_,_,zj,rfl⟩ (by rw[Qt];lia)).trans (by rw[Qy,QJ.mpr (λ_ _=>rfl),show(ls.map λrs=>K9 rs.tail)=bo.map K9 by show _=(ls.map _).map _;rw[QO];rfl])))) UV)) (Qa zh)) (Qa zh) zh) ?_
 .rintro rs hrs ρ ⟨y6,y7,y8,x,rfl⟩
  have e:DL.cutD (rs.map ZL) (zd 1) zj=rs.tail.map ZL:=by rw[xk,←List.map_drop,List.drop_one]
  exact⟨_,UT (Qa zh) zh,rfl,λ_=>Ye (UM zh) (ZE UW) UW (Yg.trans (by rw[e];rfl)),_,_,_,_,rfl⟩
 let Os:zn:=[ZB tm a1 p1 K1,ZB ((bg.length+1:Nat):Int) a2 p2 K2,ZB tm a3 p3 K3]
 have bO:∀d∈Os,Bs 3 d:=λd hd=>by
  have n2:bg.length=cs.length:=Qb _;have n3:bo.length=ls.length:=Qb _;rcases QB.mp hd with rfl|hd
  .exact OC (by have:=q1.ok.la;lia) (by have:=q1.ok.lp;lia) (by have:=q1.len;lia) λus hu=>by have:=(q1.best us hu).1.len;lia
  rcases QB.mp hd with rfl|hd
  .exact OC (by have:=q2.ok.la;lia) (by have:=q2.ok.lp;lia) (by have:=q2.len;lia) λus hu=>by have:=(q2.best us hu).1.len;lia
  .rw[Qv.mp hd]
   exact OC (by have:=q3.ok.la;lia) (by have:=q3.ok.lp;lia) (by have:=q3.len;lia) λus hu=>by have:=(q3.best us hu).1.len;lia
 apply KL;apply Zs (λ_ ρ=>∃x8,ρ=[S0,S1,S2,S3,S4,S5,x6,x7,x8,S9,S10,S11])
 case h1=>exact K7 (KZ (UP (Kg (UP (UM zh) (UP (UM zh) UV)) zh aZ) (UP (Kg (UP (UM zh) (UP (UM zh) UV)) zh aF) (UP (Kg (UP (UM zh) (UP (UM zh) UV)) zh hw3) UV))) (Qa zh)) Zh
 case h0=>exact⟨_,rfl⟩
 case hst=>
  rintro i d ρ hi ⟨x8,rfl⟩;obtain⟨b,hb,hbr⟩:=lets (bO d (Qq hi));refine⟨_,UT (Qa zh) zh,?_⟩;unfold HB;cases b with
  |false=>exact Kw (b:=zm) (ρ1:=[S0,S1,S2,S3,S4,S5,x6,x7,zd (.pub d),S9,S10,S11]) (TF (Yh (Kg (UP (UM zh) (UP (UM zh) (UP (UM zh) UV))) zh hb))) (λz=>by cases z) λ_=>KO (KU ⟨_,rfl⟩)
  |true=>exact Kw (b:=zm) (ρ1:=[S0,S1,S2,S3,S4,S5,x6,x7,zd (.pub d),S9,S10,S11]) (Vg (Yh (Kg (UP (UM zh) (UP (UM zh) (UP (UM zh) UV))) zh hb)) (Yl (t:=zk) (Yh (Kg (UP (UM zh) (UP (UM zh) (UP (UM zh) (UP (UM zh) (UP (UM zh) UV))))) zh (hbr zh))))) (λz=>by cases z) λ_=>KO (KU ⟨_,rfl⟩)
 case hend=>rintro ρ ⟨x8,rfl⟩;exact KI (Kk UW rfl)
end W
open PySem PySem.W PyProof.Rows
set_option maxRecDepth 100000 in
set_option maxHeartbeats 0 in
theorem PySem.Challenge.cw_wishdeal_k57_whole_just_the_webs_dealing_holds : PySem.Challenge.rw_wishdeal_k57_whole_just_the_webs_dealing.Holds := by
 w_on;o_law
 refine holds_open (q:=W.q0) (loose:=[]) (Xt:=λs=>xlAt W.q0 [] s&&recOk [] s) (XP:=XL W.q0 []) (Yf:=Hook.obs .none) (Ya:=Hook.val .none) (YP:=Hook.says .none) (N:=6326) (d:=W.d_cu) (kwd:=[])
  W.DW (Hook.of .none) (Hook.keeps .none) (λs e=>xl_of s (JV.mp e).1) XL.keeps (by rfl) (by rfl) (by rfl)
  (λs e=>recFacts_of (JV.mp e).2) (by rfl) (by assumption) (by decide +kernel) ⟨rfl,rfl,rfl,rfl,rfl,by decide +kernel⟩ ?hw (W.walk W.jK)
 case hw=>w_witness2


import PyProof.Rows.All
import Wide.All
import OpenK.AllK
import Wide.FinOn
import Lean
import PyProof.EqAt
import PyProof.EqKinds
import PyProof.TupleCall
import PyProof.EnumMake
import PyProof.ZipIter
import PyProof.ExcClass2
import PyProof.ExcInit
import PyProof.ExcBaseAll.ValueError
import PyProof.FString2
import PyProof.ExcArgsOwn
import PyProof.InstStoreFacts
import ObjForm.Fk.InstStore
import ObjForm.Fk.InstLoad
import PyProof.StationsW
import PyProof.RulesAs
import PyProof.NsDelKeeps
import OpenK.KMore
import PyProof.IsiBase
import OpenK.KNot
import PyProof.Rows.RuleN_isinstance
import PyProof.NeData
import PyProof.P3In
import PyProof.StrWalks
import PyProof.ConsumeWalk
import PyProof.SliceStr2
import PyProof.MeetsStr
import KE.KItem
import KE.KUnpack
import KE.KRevSl
import PyProof.Rows.SetFrom
import PyProof.SetRoads
import PyProof.Rows.Range3
import PyProof.CallType
import PyProof.Rows.CallKwBuiltin
import PyProof.Rows.MinMaxN
import PyProof.SumWalkG
import PyProof.Rows.SeqMore
import PyProof.Rows.SortWalk
import PyProof.Rows.SumAny
import PyProof.Rows.SeqMore2
import KE.KSortTup
import PyProof.Rows.SortShellK
import PyProof.ReprRoads
import PyProof.ReprBulk
import PyProof.CallFns
import PyProof.NeKinds
import PyProof.Rows.StrJoinMade
import PyProof.StrCalls
import KE.KIntText
import PyProof.ReprDict
import PyProof.DictIter
import PyProof.Rows.DictUnroll
import PyProof.MeetsStr2
import PyProof.Rows.StrNews
import PyProof.StrLawsChain
import PyProof.Rows.StrItems
import PyProof.SeqRoads2
import PyProof.Rows.StrNews2
import PyProof.Rows.StrLawsPart
import PyProof.Rows.StrFirst
import PySem.Challenge.RW_wishdeal_k63_whole_webs_put_together
set_option compiler.extract_closed false
set_option Elab.async false
set_option linter.all false
set_option maxRecDepth 100000
set_option maxHeartbeats 0
noncomputable section
open Option renaming some→O,none→zP
open Bool renaming true→zQ,false→zR
theorem zO.{u}{α:Sort u}{a:α}:a=a:=rfl
abbrev zT:=List Int
abbrev zZ:=Option Int
abbrev ag:=Option Bool
def Qa:type_of% @of_decide_eq_true:=@of_decide_eq_true
def Qu:type_of% @if_pos:=@if_pos
def QB:type_of% @decide_eq_true:=@decide_eq_true
def QG:type_of% @decide_eq_false:=@decide_eq_false
def QJ:type_of% @if_neg:=@if_neg
def Jc:type_of% @of_decide_eq_false:=@of_decide_eq_false
def Jl:type_of% @decide_eq_true_eq:=@decide_eq_true_eq
def Js:type_of% @decide_eq_decide:=@decide_eq_decide
def J5:type_of% @congrArg:=@congrArg
open List renaming length_map→Qb,getElem?_map→Qd,getElem?_eq_getElem→Qe,getElem?_eq_some_iff→Qg,length_append→Qi,mem_cons_of_mem→Qk,mem_cons_self→Ql,length_nil→Qm,getD_eq_getElem?_getD→Qn,length_range→Qp,getElem?_set_ne→Qq,mem_of_getElem?→Qr,mem_map→Qs,mem_singleton→Qt,nil_append→Qw,mem_cons→Qx,getElem?_append_left→Qy,mem_append→Qz,getElem?_replicate→QA,map_append→QC,map_cons→QD,mem_range→QE,getElem?_append_right→QI,map_map→QL,mem_append_right→QN,length_replicate→QO,mem_filter→QP,filter_eq_self→QR,getElem?_range→QT,length_cons→QU,getElem?_set_self→QW,length_take→QY,length_singleton→Q0,all_eq_true→Q2,mem_append_left→Q4,append_assoc→Q5,zip_cons_cons→Q6,length_drop→Q8,lookup_cons→Q9,length_filterMap_le→Jb,take_length→Je,length_set→Jf,append_nil→Jg,size_toArray→Jh,length_filter_le→Jn,mem_filterMap→Jo,drop_eq_getElem_cons→Ju,getElem?_eq_none→Jx,foldl_cons→Jy,flatten_cons→JC,filterMap_cons→JE,length_zip→JG,exists_mem_of_ne_nil→JH,getElem_mem→JI,mem_of_mem_take→JL,pairwise_cons→JP,map_replicate→JQ,take_succ→JS,of_mem_zip→JT,ext_getElem?→J0,getElem?_cons_succ→J6,any_eq_true→J7,getElem_map→J8,all_map→Ua,take_append_drop→Uc,mem_iff_getElem?→Ud,take_add_one→Ue,mem_flatten→Uh,any_map→Ui,nodup_cons→Um,count_cons→Up,range_succ→Uq,find?_eq_none→Ur,all_cons→Uv,map_take→Uw,range→UH,replicate→UI,Pairwise→US
open PySem renaming wpAny_bind→Qf,wpAny_pure→Qo,wpAny_mono→QS,wpAny_truthy_bool→Q3,wpAny_loadPart_at→Q7,mem_of_lookup→Ji,wpAny_isSubtype_exc→Jt,wpAny_passesOwn→Jw,wpAny_pyIter_list→JA,wpAny_standAt→JD,Value→Ux,Shared→Uy,Program→Uz,Addr→UA,FuncData→UB,Expr→UC,sizeLine→UD,wpAny→UE,starEach→UF,compareOp→UG,assignEach→UU,foldedSetIterable→UV
open PySem.Heap renaming lt_size→Qh,get?_push_of_some→Qj,get?_push_size→QF,size_push→JK
open Nat renaming le_refl→Qv,lt_of_lt_of_le→QH,le_trans→QK,zero_add→QX,ne_of_lt→QZ,le_of_not_lt→Jk,lt_irrefl→Jp,not_lt_zero→Jq,ne_of_gt→JJ,succ_pos→JN,lt_succ_self→JO,le_succ→JW,zero_le→JX,lt_succ_of_lt→JZ,lt_succ_iff_lt_or_eq→J4,min_eq_left→Ub,le_of_lt→Us
open Bool renaming and_eq_true→QM,eq_iff_iff→JU,false_eq_true→J9,and_eq_true_iff→Ug
open Int renaming toNat_natCast→QQ,le_refl→Jd,zero_add→Jj,mul_le_mul_of_nonneg_left→Jv,mul_nonneg→JR,le_antisymm→JV,le_trans→JY,mul_add→Uf,mul_zero→Uj,toNat_of_nonneg→Ul,le_of_lt→Ut,not_lt→Uu
open Option.some renaming inj→Ja
open List.cons renaming inj→Jm
open Option renaming map_eq_some_iff→Jr
open PySem.W.Fast renaming te1987589406359920131→Jz
open Array renaming getD_eq_getD_getElem?→JB,length_toList→Uk
open PySem.W renaming kia_one→JF
open PyProof.Rows renaming callWith_type1→JM
open Array.Perm renaming refl→Uo
open PySem.PyData renaming list→UJ,bool→UK,str→UL,strOk→UM,canLayAll0→UN,depth→UO,eqv→UP,shown→UT
open PySem.PassesOwn renaming never→UQ
open PySem.Str renaming ofString→UR
abbrev zV:=List UC
abbrev zW:=List Ux
abbrev zX:=List UA
abbrev zY:=Option Ux
abbrev af:=Option UA
abbrev L3:=List (List zT)
abbrev LO:=List zZ
abbrev z9:=List LO
abbrev ae:=Option LO
abbrev LP:=List (Int×Int)
open PySem.W (Frag)
open PySem.PyData (int)
open List (replicate)
namespace DL
open PySem PySem.Spec PySem.W PyProof.Rows
def topRunT(tb:String->Option Builtin)(p:Uz)(w:World)(m:Nat)(ann:zY):Nat->SharedT->Thread->Option SharedT
 |0,_,_=>zP
 |n+1,s,t=>match through t,stepOk m ann t with
  |true,_=>O s
  |false,zR=>zP
  |false,zQ=>match stepT (denote tb) p w s t with
   |some x=>topRunT tb p w m ann n x.1 x.2
   |none=>zP
theorem D1      : ∀{n}{s s'}{t},topRunT tb p w m ann n s t=O s'->topRun tb p w m ann n s.abs t=O s'.abs
 |0,_,_,_,h=>by cases h
 |n+1,s,s',t,h=>by
  rw[topRunT]at h;rw[topRun];cases ht:through t with
  |true=>simp_all
  |false=>
   rw[ht]at h;cases hk:stepOk m ann t with
   |false=>simp_all
   |true=>
    rw[hk]at h;dsimp only at h⊢;cases hs:stepT _ p w s t with
    |none=>rw[hs]at h;cases h
    |some x=>rw[hs]at h;rw[stepT_spec hs];exact D1 h
def btOf(l:List Obj):BT:=(l.foldl (λ(x:BT×Nat) o=>(x.1.ins x.2 o,x.2+1)) (.nil,0)).1
noncomputable def T0 (w:World) (os:OsState):SharedT:=⟨btOf (boot_heap w.params).objs.toList,11,(boot_heap w.params).life,#[],boot_drawn,boot_toks,os⟩
def xX(w)(os):(T0 w os).abs=⟨boot_heap w.params,#[],boot_drawn,boot_toks,os⟩:=by kernel_rfl
def wg(w:World):((boot_heap w.params).isNs mainGlobals&&(#[]:Array GenState).size==0,(boot_heap w.params).objs.size,(boot_heap w.params).nsMap mainGlobals "__annotations__")=(zQ,11,O (.ref 6)):=by kernel_rfl
noncomputable abbrev CJ (p q:Uz) (loose:List Str) (Xt:Uy->Bool) (w:World) (t:SharedT):=
 ((staticsOk (importedModules p.main.body) (boot_heap w.params) t.abs.heap&&namesBound p t.abs.heap&&gensDone t.abs&&laidKept (boot_heap w.params) t.abs.heap),openSeen q loose (importedModules p.main.body) Xt zQ t.abs)
def jN   {Xt}{N M:Nat}(e:opening p=plainProg p.main.scope.names)(hN:Nat.ble 600 N=zQ)(f:∀s,fenceModules? p s=O s)(le:Nat.ble M N=zQ)
  (run:∀(w:World)(os:OsState),(topRunT treeTable p w 11 (O (.ref 6)) M (T0 w os) (topStub p)).map (CJ p q loose Xt w)=O (zQ,openGood q loose)):LeftO p q loose Xt (Hook.obs .none) (Hook.val .none) N:=λw=>by
 obtain⟨⟨h,gs,d,k,os⟩,e0,e'⟩:=Option.map_eq_some_iff.mp (boot_open e hN f w);obtain⟨rfl,rfl,rfl,rfl⟩:h=boot_heap w.params/\gs=#[]/\d=boot_drawn/\k=boot_toks:=by simpa only[Prod.mk.injEq]using e'
 obtain⟨t,ht,l⟩:=Jr.mp (run w os);have hr:=D1 ht;rw[xX]at hr;have r:=topRun_mono (N-M) _ _ _ _ hr;rw[show M+(N-M)=N by have:=Nat.le_of_ble_eq_true le;lia]at r;obtain⟨l1,l2⟩:=Prod.mk.inj l;have z:=wg w;obtain⟨z1,z2,z3⟩:_/\_/\_:=by simpa only[Prod.mk.injEq]using z
 have tf:topFrom treeTable p w N ⟨boot_heap w.params,#[],boot_drawn,boot_toks,os⟩=O t.abs:=by
  unfold topFrom;dsimp only;rw[z1,z2,z3,r]
  show(match staticsOk _ _ t.abs.heap&&namesBound p t.abs.heap&&gensDone t.abs&&laidKept _ t.abs.heap with|true=>O t.abs|false=>zP)=_
  rw[l1]
 unfold openEnds;rw[e0]
 show(topFrom treeTable p w N _).map _=_
 rw[tf];exact J5 O (Prod.ext l2 zO)
end DL
open PySem in
lay_quick PySem.Challenge.pw_wishdeal_k63_whole_webs_put_together DL.topRunT PySem.W.openGood PySem.W.staticsOk PySem.W.namesBound PySem.W.laidKept PySem.W.xlAt
namespace W
open PySem PySem.Spec DL
noncomputable abbrev p0:Uz:=PySem.Challenge.pw_wishdeal_k63_whole_webs_put_together
noncomputable def WV:List Nat:=[1,2,3,4,5,7,8,9,11,12,13,14,15,16,17,18,19,20,21,22,24,25,26,28,29,30,32,33,34,36,37,38,39,40,41,43,44,45,46,48,49,50,51,52,53,55,57,58,59,60,61,62,63,64,65,66,67,68,69,71,73,74,75,76,77,78,80,81,82,83,84,85,87,88,89,90,91,92,93,94,95,96,97,98,99,100,101,102,103,104,105,106]
noncomputable def ixL:List Nat:=[1,2,3,4,5,15,16,17,18,19,20,21,22,24,25,26,29,30,32,33,34,36,37,38,39,40,41,43,44,45,46,48,49,50,51,52,53,55,57,58,59,60,61,62,63,64,65,66,67,68,69,71,73,74,75,76,77,78,80,81,82,83,84,85,87,88,89,90,91,92,93,94,95,96,97,98,99,100,101,102,103,104,105,106]
abbrev q0:Uz:=PySem.W.view p0 WV
def CI:∀(w:World)(os:OsState),(PySem.W.Fast.tw10708255244068714335 PySem.W.Fast.tw14364793385576792824 PySem.W.Fast.tw6325855011151974638 w 11 (O (.ref 6)) 3523 (T0 w os) (PySem.W.topStub PySem.W.Fast.tw6325855011151974638)).map (λt=>((PySem.W.Fast.tw13471830651028734593 (PySem.W.Fast.tw5923862056798008813 (Program.main PySem.W.Fast.tw6325855011151974638).body) (PySem.W.boot_heap w.params) t.abs.heap&&PySem.W.Fast.tw4683006035507612052 PySem.W.Fast.tw6325855011151974638 t.abs.heap&&PySem.W.gensDone t.abs&&PySem.W.Fast.tw16898566250750103049 (PySem.W.boot_heap w.params) t.abs.heap),PySem.W.Fast.tw4187177175401517315 (PySem.W.view PySem.W.Fast.tw6325855011151974638 WV) [] (PySem.W.Fast.tw5923862056798008813 (Program.main PySem.W.Fast.tw6325855011151974638).body) (λs=>PySem.W.Fast.tw4757257242682413121 (PySem.W.view PySem.W.Fast.tw6325855011151974638 WV) [] s&&PySem.W.recOk [] s) zQ t.abs))=O (zQ,PySem.W.Fast.tw3486900944545009338 (PySem.W.view PySem.W.Fast.tw6325855011151974638 WV) []):=by intro w os;kernel_rfl
def CH:PySem.W.LeftO p0 q0 [] (λs=>PySem.W.xlAt q0 [] s&&PySem.W.recOk [] s) (PySem.W.Hook.obs .none) (PySem.W.Hook.val .none) 6946:=by
 refine jN (M:=3523) (by kernel_rfl) zO (λs=>by kernel_rfl) zO λw os=>?_
 have h:=CI w os;rw[←PySem.W.Fast.te10708255244068714335,←PySem.W.Fast.te14364793385576792824,←PySem.W.Fast.te4187177175401517315,←PySem.W.Fast.te5923862056798008813,←PySem.W.Fast.te13471830651028734593,←PySem.W.Fast.te4683006035507612052,←PySem.W.Fast.te16898566250750103049,←PySem.W.Fast.te4757257242682413121,←PySem.W.Fast.te3486900944545009338,←PySem.W.Fast.te6325855011151974638]at h;exact h
end W
namespace L2
open PySem PySem.Spec PyProof.Rows
abbrev Key:=Sum Int Str
abbrev ac:=List Key
noncomputable def R4:Key->Ux->Bool
 |.inl k,v=>Value.isInt k v
 |.inr x,v=>Value.isStrOf x v
noncomputable def keyH(w:World):Key->Int
 |.inl k=>hashInt k
 |.inr x=>hashStr w x
def VU:∀{k}{v},R4 k v=zQ->(∃i t,k=Sum.inl i/\v=Value.int i t)∨(∃x t,k=Sum.inr x/\v=Value.str x t)
 |.inl i,v,h=>by obtain⟨t,e⟩:=Value.isInt_shape   h;exact .inl ⟨i,t,rfl,e⟩
 |.inr x,v,h=>by obtain⟨t,e⟩:=Value.isStrOf_shape   h;exact .inr ⟨x,t,rfl,e⟩
def wf(i:Int)(t:Tok):R4 (.inl i) (.int i t)=zQ:=by simp[R4,Value.isInt]
def we(x:Str)(t:Tok):R4 (.inr x) (.str x t)=zQ:=by simp[R4,Value.isStrOf]
noncomputable def A8(a b):decide ((Sum.inl a:Key)=Sum.inl b)=(a==b):=by
 by_cases e:a=b
 .subst e;simp
 .simp_all
noncomputable def A7(a b):decide ((Sum.inr a:Key)=Sum.inr b)=decide (a=b):=by simp_all
noncomputable def A6(a)(b):decide ((Sum.inl a:Key)=Sum.inr b)=zR:=QG (λq=>nomatch q)
noncomputable def A5(a)(b):decide ((Sum.inr a:Key)=Sum.inl b)=zR:=QG (λq=>nomatch q)
def XQ(prog:Uz)(w:World):PySem.KeyKind prog w Key where
 is:=R4
 hash:=keyH w
 inj:=λv a b ha hb=>by
  rcases VU ha with ⟨i,t,rfl,rfl⟩|⟨x,t,rfl,rfl⟩
  .rcases VU hb with ⟨j,u,rfl,e⟩|⟨y,u,rfl,e⟩
   .injection e with e1 _;rw[e1]
   .exact nomatch e
  .rcases VU hb with ⟨j,u,rfl,e⟩|⟨y,u,rfl,e⟩
   .exact nomatch e
   .injection e with e1 _;rw[e1]
 byValue:=λk v h=>by rcases VU h with ⟨i,t,rfl,rfl⟩|⟨x,t,rfl,rfl⟩<;>rfl
 pyHash:=λhv h=>by
  rcases VU hv with ⟨i,t,rfl,rfl⟩|⟨x,t,rfl,rfl⟩
  .exact wpAny_pyHash_int h
  .exact wpAny_pyHash_str h
 eqBool:=λhu hv h=>by
  rcases VU hu with ⟨i,t,rfl,rfl⟩|⟨x,t,rfl,rfl⟩
  .rcases VU hv with ⟨j,u,rfl,rfl⟩|⟨y,u,rfl,rfl⟩
   .rw[A8]at h;exact wpAny_eqBool_int h
   .rw[A6]at h;exact SeqAt.EqAt.int_str i t y u _ _ _ _ h
  .rcases VU hv with ⟨j,u,rfl,rfl⟩|⟨y,u,rfl,rfl⟩
   .rw[A5]at h;exact SeqAt.EqAt.str_int x t j u _ _ _ _ h
   .rw[A7]at h;exact wpAny_eqBool_str h
 «strs»:=λk x t v h=>by
  rcases VU h with ⟨i,u,rfl,e⟩|⟨y,u,rfl,e⟩
  .exact nomatch e
  .injection e with e1 _
   subst e1;cases v<;>rfl
def yR(prog)(w)(i)(t):(XQ prog w).is (.inl i) (.int i t)=zQ:=wf i t
def yQ(prog)(w)(x)(t):(XQ prog w).is (.inr x) (.str x t)=zQ:=we x t
inductive V where
 |non|bl (b:Bool)|int (i:Int)|str (x:Str)|byt (b:Array UInt8)|flt (b:UInt64)|ref (a:UA)|ty (n:String)
 deriving DecidableEq
noncomputable def RelV:V->Ux->Prop
 |.non,u=>u=Value.none
 |.bl b,u=>u=Value.bool b
 |.int i,u=>∃t,u=Value.int i t
 |.str x,u=>∃t,u=Value.str x t
 |.byt b,u=>∃t,u=Value.bytes b t
 |.flt b,u=>∃t,u=Value.float b t
 |.ref a,u=>u=Value.ref a
 |.ty n,u=>u=Value.type n
abbrev Vals:List V->zW->Prop:=Paired RelV
def Vals.length{xs:List V}{us:zW}(r:Vals xs us):xs.length=us.length:=Paired.length r
def Vals.get:∀{xs}{us}{i:Nat}{x},Vals xs us->xs[i]?=O x->∃u,us[i]?=O u/\RelV x u
 |_,_,_,_,.nil,e=>by simp_all
 |_,_,0,_,.cons r _,e=>by simp at e;subst e;exact⟨_,rfl,r⟩
 |_,_,i+1,x,.cons _ t,e=>by obtain⟨u,h1,h2⟩:=Vals.get   t (by simpa using e);exact⟨u,by simpa using h1,h2⟩
def Vals.set   (r:RelV x u):∀{xs}{us}(i),Vals xs us->Vals (xs.set i x) (us.set i u)
 |_,_,_,.nil=>.nil
 |_,_,0,.cons _ t=>.cons r t
 |_,_,i+1,.cons q t=>.cons q (Vals.set r i t)
def Vals.append:∀{xs ys}{us ws},Vals xs us->Vals ys ws->Vals (xs++ys) (us++ws)
 |_,_,_,_,.nil,s=>s
 |_,_,_,_,.cons r t,s=>.cons r (Vals.append t s)
def Vals.take:∀{xs}{us}(n),Vals xs us->Vals (xs.take n) (us.take n)
 |_,_,0,_=>.nil
 |_,_,_+1,.nil=>.nil
 |_,_,n+1,.cons r t=>.cons r (Vals.take n t)
def Vals.drop:∀{xs}{us}(n),Vals xs us->Vals (xs.drop n) (us.drop n)
 |_,_,0,r=>r
 |_,_,_+1,.nil=>.nil
 |_,_,n+1,.cons _ t=>Vals.drop n t
def RelO:Option V->zY->Prop
 |some v,O u=>RelV v u
 |none,zP=>True
 |_,_=>False
def KV{κ:Type}:List (κ×V)->List (κ×Ux)->Prop:=Paired λ(p:κ×V) (q:κ×Ux)=>p.1=q.1/\RelV p.2 q.2
noncomputable def kV:Key->V
 |.inl i=>.int i
 |.inr x=>.str x
inductive HO where
  |lst (xs:List V)
  |tup (xs:List V)
  |dK (kvs:List (Key×V))|dT (kvs:List (ac×V))
  |set (S:Int->Bool) (n:Nat)
  |ins (C dx:UA) (fs:List (Str×V))
  |own (x:UA)
  |xd (fs:List (Str×V))
  |met (f x:UA)
  |rng (lo hi:Int)
  |frz (o:Obj) (u:HO)
  |tbl (ps:Array Ux)
  |ext (φ:Heap->Prop)
abbrev Hp:=UA->Option HO
noncomputable def upd(H:Hp)(a:UA)(o:HO):Hp:=λb=>if b=a then O o else H b
def ZE{H:Hp}{a:UA}{o:HO}:upd H a o a=O o:=by unfold upd;rw[Qu zO]
def K7{H:Hp}{a b:UA}{o:HO}(h:b≠a):upd H a o b=H b:=by unfold upd;rw[QJ h]
noncomputable def CG{H:Hp}{a b}{o u}(h:H a=O o)(h':H b=O u)(d:o≠u):a≠b:=by intro e;subst e;rw[h]at h';exact d (Ja h')
noncomputable def Y0{H:Hp}{a b}{o}(h:H a=O o)(h':H b=zP):a≠b:=by
 lia
section
variable(P:Uz)(w:World)
def YU(H:Hp)(h:Heap)(a:UA):HO->Prop
 |.lst xs=>xs.length<=UD/\∃(its:zW)(n:Nat),Vals xs its/\h.get? a=O {cls:=.type "list", data:=.seq its.toArray n}
 |.tup xs=>xs.length<=UD/\∃its:zW,Vals xs its/\IsTup h a its.toArray
 |.dK kvs=>kvs.length<=UD/\(a==sysModules)=zR/\∃vs,KV kvs vs/\h.DictOf (XQ P w) a vs
 |.dT kvs=>kvs.length<=UD/\(a==sysModules)=zR/\∃xs:List (ac×UA×Ux),
   Paired (λ(p:ac×V) (q:ac×UA×Ux)=>p.1=q.1/\H q.2.1=O (.tup (p.1.map kV))/\RelV p.2 q.2.2) kvs xs /\
   ∃o es ep,h.get? a=O o/\o.ExactDict/\o.data=.dict es ep/\es.toList=xs.map (entryOfKey (tupleKind (XQ P w)))/\(xs.map (·.1)).Nodup
 |.set S n=>h.SetOf (intKind P w) a S n
 |.ins C dx fs=>H dx=O (.own a)/\fs.length<=1000/\dx≠a/\h.get? a=O (PySem.W.instObj C dx) /\
   ∃mA,h.Ns1 dx mA/\(∀f,RelO (fs.lookup f) (mA f))/\PySem.Within mA (fs.map (·.1))
 |.own _=>∃o,h.get? a=O o
 |.xd fs=>∃mA,h.Ns1 a mA/\∀f,RelO (fs.lookup f) (mA f)
 |.rng lo hi=>∃t u v,h.get? a=O {cls:=.type "range", data:=.fields #[.int lo t,.int hi u,.int 1 v]}
 |.frz o u=>h.get? a=O o/\YU H h a u
 |.tbl ps=>h.get? a=O {cls:=.none,data:=.fields ps}
 |.met f x=>h.get? a=O (PySem.W.methodObj (.ref f) (.ref x))
 |.ext φ=>φ h/\(∃o,h.get? a=O o)/\∀h1 h2:Heap,φ h1->(∀o,h1.get? a=O o->h2.get? a=O o)->φ h2
def HOk(H:Hp)(h:Heap):Prop:=∀a o,H a=O o->YU P w H h a o
end
section
variable{P:Uz}{w:World}{H H':Hp}{h h':Heap}{a:UA}{o:HO}
def YU.lt(x:YU P w H h a o):a<h.objs.size:=by
 cases o with
 |lst xs=>obtain⟨_,_,_,_,e⟩:=x;exact Qh e
 |tup xs=>obtain⟨_,_,_,p⟩:=x;exact p.lt
 |dK kvs=>obtain⟨_,_,_,_,o,_,_,e,_⟩:=x;exact Qh e
 |dT kvs=>obtain⟨_,_,_,_,o,_,_,e,_⟩:=x;exact Qh e
 |set S n=>obtain⟨o,_,_,_,e,_⟩:=x;exact Qh e
 |ins C dx fs=>obtain⟨_,_,_,e,_⟩:=x;exact Qh e
 |own y=>obtain⟨_,e⟩:=x;exact Qh e
 |xd fs=>obtain⟨_,⟨_,_,_,e,_⟩,_⟩:=x;exact Qh e
 |rng lo hi=>obtain⟨_,_,_,e⟩:=x;exact Qh e
 |frz ob u=>obtain⟨e,_⟩:=x;exact Qh e
 |tbl ps=>exact Qh (x)
 |met f y=>exact Qh (x)
 |ext φ=>obtain⟨_,⟨_,e⟩,_⟩:=x;exact Qh e
noncomputable def Paired.mapP   : ∀{l₁:List α}{l₂:List β},Paired F l₁ l₂->(∀a b,F a b->G a b)->Paired G l₁ l₂
 |_,_,.nil,_=>.nil
 |_,_,.cons r t,f=>.cons (f _ _ r) (Paired.mapP t f)
def YU.stay(x:YU P w H h a o)(k:∀b u,(b=a∨H b=O (.own a))->h.get? b=O u->h'.get? b=O u)
  (ho:∀b,H b=O (.own a)->H' b=O (.own a)) (ht:∀b xs,H b=O (.tup xs)->H' b=O (.tup xs)):YU P w H' h' a o:=by
 induction o with
 |lst xs=>obtain⟨z,its,n,r,e⟩:=x;exact⟨z,its,n,r,k _ _ (.inl zO) e⟩
 |tup xs=>obtain⟨z,its,r,ob,e,c⟩:=x;exact⟨z,its,r,ob,k _ _ (.inl zO) e,c⟩
 |dK kvs=>obtain⟨z,y,vs,r,ob,es,ep,e,c⟩:=x;exact⟨z,y,vs,r,ob,es,ep,k _ _ (.inl zO) e,c⟩
 |dT kvs=>obtain⟨z,y,xs,r,ob,es,ep,e,c⟩:=x;exact⟨z,y,xs,Paired.mapP r λp q z=>⟨z.1,ht _ _ z.2.1,z.2.2⟩,ob,es,ep,k _ _ (.inl zO) e,c⟩
 |set S n=>obtain⟨ob,es,ep,t,e,c⟩:=x;exact⟨ob,es,ep,t,k _ _ (.inl zO) e,c⟩
 |ins C dx fs=>obtain⟨d,z,ne,e,mA,⟨od,es,ep,e2,c⟩,r⟩:=x;exact⟨ho _ d,z,ne,k _ _ (.inl zO) e,mA,⟨od,es,ep,k _ _ (.inr d) e2,c⟩,r⟩
 |own y=>obtain⟨ob,e⟩:=x;exact⟨ob,k _ _ (.inl zO) e⟩
 |xd fs=>obtain⟨mA,⟨od,es,ep,e,c⟩,r⟩:=x;exact⟨mA,⟨od,es,ep,k _ _ (.inl zO) e,c⟩,r⟩
 |rng lo hi=>obtain⟨t,u,v,e⟩:=x;exact⟨t,u,v,k _ _ (.inl zO) e⟩
 |frz ob u ih=>obtain⟨e,q⟩:=x;exact⟨k _ _ (.inl zO) e,ih q⟩
 |tbl ps=>have e   :=x;exact k a _ (.inl zO) e
 |met f y=>have e   :=x;exact k a _ (.inl zO) e
 |ext φ=>obtain⟨p,⟨o,e⟩,st⟩:=x;exact⟨st _ _ p λo q=>k _ _ (.inl zO) q,⟨o,k _ _ (.inl zO) e⟩,st⟩
noncomputable def HOk.lt(x:HOk P w H h)(e:H a=O o):a<h.objs.size:=(x a o e).lt
def HOk.fresh(x:HOk P w H h)(e:h.objs.size<=a):H a=zP:=by
 cases q:H a with
 |none=>rfl
 |some u=>exact absurd (QH (x.lt q) e) (Jp _)
def HOk.kept(x:HOk P w H h)(k:∀b u,h.get? b=O u->h'.get? b=O u):HOk P w H h':=λa o e=>
 (x a o e).stay (λb u _ q=>k b u q) (λ_ q=>q) λ_ _ q=>q
def HOk.laid(x:HOk P w H h)(k:∀b u,h.get? b=O u->h'.get? b=O u)(hp:h.objs.size<=a)(new:YU P w (upd H a o) h' a o):HOk P w (upd H a o) h':=λb u e=>by
 have hn:=x.fresh hp;by_cases hb:b=a
 .subst hb;rw[ZE]at e;simp_all
 .rw[K7 hb]at e
  exact(x b u e).stay (λc v _ q=>k c v q) (λc q=>by rw[K7 (Y0 q hn)];exact q) λc xs q=>by rw[K7 (Y0 q hn)];exact q
end
def Rd(H:Hp)(a:UA)(u:HO):Prop:=H a=O u ∨ ∃o,H a=O (.frz o u)
def Rd.ok   {H}{h}{a}{u}(r:Rd H a u)(x:HOk P w H h):YU P w H h a u:=by
 rcases r with r|⟨o,r⟩
 .exact x a u r
 .obtain⟨_,q⟩:=x a _ r
  exact q
def Mut:Option HO->Prop
 |some (.lst _)=>True
 |some (.dK _)=>True
 |some (.dT _)=>True
 |some (.set _ _)=>True
 |some (.ins _ _ _)=>True
 |some (.ext _)=>True
 |_=>False
section
variable{P:Uz}{w:World}{H:Hp}{h h':Heap}{x e:UA}{o':HO}
def HOk.write(ok:HOk P w H h)(mu:Mut (H x))(he:e=x∨H e=O (.own x))(k:∀b u,b≠e->h.get? b=O u->h'.get? b=O u)(cy:∃u,h'.get? e=O u)
  (new:YU P w (upd H x o') h' x o'):HOk P w (upd H x o') h':=λb u q=>by
 have nown:∀c y,H c=O (.own y)->c≠x:=λc y r z=>by subst z;rw[r]at mu;exact mu
 have ntup:∀c xs,H c=O (.tup xs)->c≠x:=λc xs r z=>by subst z;rw[r]at mu;exact mu
 by_cases hb:b=x
 .subst hb;rw[ZE]at q;simp_all
 .rw[K7 hb]at q
  by_cases aG:b=e
  .have q':H b=O (.own x):=by
    rcases he with z|z
    .exact absurd (aG.trans z) hb
    .rw[aG];exact z
   rw[q]at q';cases q';obtain⟨v,hv⟩:=cy;exact⟨v,by simp_all⟩
  .refine(ok b u q).stay (λc v hc r=>k c v ?_ r) (λc r=>by rw[K7 (nown c b r)];exact r) λc xs r=>by rw[K7 (ntup c xs r)];exact r
   rcases hc with rfl|hc
   .exact aG
   grind
end
structure Un(fs ex:zX)(H H':Hp)(h h':Heap):Prop where
 keep:∀b o,h.get? b=O o->H b=zP->b∉fs->b∉ex->h'.get? b=O o
 slot:∀b o,h.get? b=O o->H b=zP->b∈fs->b∉ex->∃sl,h'.get? b=O {o with slots:=sl}
 free:∀b o,h.get? b=O o->H b=zP->b∉ex->H' b=zP
 there:∀b o,h.get? b=O o->b∉ex->∃o',h'.get? b=O o'
 tups:∀b xs,H b=O (.tup xs)->H' b=O (.tup xs)
 frzs:∀b o u,H b=O (.frz o u)->H' b=O (.frz o u)
 tbls:∀b ps,H b=O (.tbl ps)->∃more,H' b=O (.tbl (ps++more))
section
variable{fs fs' ex ex':zX}{H H1 H2:Hp}{h h1 h2 h':Heap}{a x e:UA}{o:HO}
def Un.any(u:Un fs ex H H1 h h1){b}{ob}(q:h.get? b=O ob)(n:H b=zP)(hx:b∉ex):∃sl,h1.get? b=O {ob with slots:=sl}:=by
 by_cases hb:b∈fs
 .exact u.slot b ob q n hb hx
 .exact⟨ob.slots,u.keep b ob q n hb hx⟩
def Un.kept(k:∀b u,h.get? b=O u->h'.get? b=O u):Un fs ex H H h h':=
 ⟨λb ob q _ _ _=>k b ob q,λb ob q _ _ _=>⟨ob.slots,k b ob q⟩,λ_ _ _ n _=>n,λb ob q _=>⟨ob,k b ob q⟩,λ_ _ q=>q,λ_ _ _ q=>q,λ_ ps q=>⟨#[],by simp_all⟩⟩
def Un.refl:Un fs ex H H h h:=Un.kept λ_ _ q=>q
def Un.laid(k:∀b u,h.get? b=O u->h'.get? b=O u)(hp:h.objs.size<=a)(hn:H a=zP):Un fs ex H (upd H a o) h h' where
 keep:=λb u q _ _ _=>k b u q
 slot:=λb u q _ _ _=>⟨u.slots,k b u q⟩
 free:=λb u q n _=>by rw[K7 (QZ (QH (Qh q) hp))];exact n
 there:=λb u q _=>⟨u,k b u q⟩
 tups:=λb xs q=>by rw[K7 (Y0 q hn)];exact q
 frzs:=λb u xs q=>by rw[K7 (Y0 q hn)];exact q
 tbls:=λb ps q=>⟨#[],by rw[K7 (Y0 q hn),q];simp⟩
def Un.write(mu:Mut (H x))(he:e=x∨H e=O (.own x))(k:∀b u,b≠e->h.get? b=O u->h'.get? b=O u)(cy:∃u,h'.get? e=O u):Un fs ex H (upd H x o) h h':=by
 have hx:∀b,H b=zP->b≠x:=λb n z=>by subst z;rw[n]at mu;exact mu
 have hb:∀b,H b=zP->b≠e:=λb n z=>by simp_all
 have hm:∀b u,H b=O u->¬Mut (O u)->b≠x:=λb u q nm z=>by simp_all
 refine⟨λb u q n _ _=>k b u (hb b n) q,λb u q n _ _=>⟨u.slots,k b u (hb b n) q⟩,λb u q n _=>by rw[K7 (hx b n)];exact n,λb u q _=>?_,
  λb xs q=>by rw[K7 (hm b _ q λz=>z)];exact q,λb u xs q=>by rw[K7 (hm b _ q λz=>z)];exact q,λb ps q=>⟨#[],by rw[K7 (hm b _ q λz=>z),q];simp⟩⟩
 by_cases aG:b=e
 .simp_all
 .exact⟨u,k b u aG q⟩
end
noncomputable def trk(h:Heap)(H:Hp):zX:=(UH h.objs.size).filter λa=>(H a).isSome
def Xg(h:Heap)(H:Hp):Heap:=PySem.W.hideAll h (trk h H)
def wd(h:Heap)(H:Hp):(Xg h H).objs.size=h.objs.size:=PySem.W.hideAll_size _ _
def xW  {H}{b}{o}(e:h.get? b=O o)(n:H b=zP):(Xg h H).get? b=O o:=
 PySem.W.hideAll_get _ e λhm=>by have q   :=(QP.mp hm).2;simp_all
def jM     (e:(Xg h H).get? b=O o):h.get? b=O o/\H b=zP:=by
 have e'   :=PySem.W.of_hideAll _ e;refine⟨e',?_⟩;cases q:H b with
 |none=>rfl
 |some x=>have hm:b∈trk h H:=List.mem_filter.mpr ⟨List.mem_range.mpr (Heap.lt_size e'),by simp_all⟩;have z:(Xg h H).get? b=zP:=PySem.W.hideAll_none _ hm;simp_all
structure Mod(K:Frag)(mg:Str->zY)(base:Heap):Prop where
 kin:K.In base
 glob:base.Ns mainGlobals mg
 blt:∃mb,base.Ns builtinsNs mb/\∀x:Str,x ≠ "__name__" -> mb x=bootBuiltins x
 nolimit:base.NoLimit
structure Cx where
 prog:Uz
 w:World
 K:Frag
 mg:Str->zY
 base:Heap
 A:Around
 N:List Str
 s₀:Uy
 H₀:Hp
 env:Env
 outer:List Env
 stack:List Env
 ex:zX
 fn:Str->Bool
 calm:Bool
 pn:List (UA×Obj)
 xe:Ux->Uy->Prop
noncomputable def frs(l:List Env):zX:=l.filterMap (·.frame)
abbrev Cx.fs(X:Cx):zX:=frs X.outer
def Vis(sc:Scope)(x:Str):Prop:=sc.names.lookup x=O .local∨sc.names.lookup x=O .cell∨sc.names.lookup x=O .free
def Loc(sc:Scope)(x:Str):Prop:=sc.names.lookup x=O .local∨sc.names.lookup x=O .cell
def Look(env:Env)(h:Heap)(m:Str->zY)(x:Str)(u:Ux):Prop:=
 (env.kindOf x=O .local/\m x=O u)∨((env.kindOf x=O .cell∨env.kindOf x=O .free)/\∃c,env.cells.lookup x=O c/\h.IsCell c (O u))
structure Cx.Ok(X:Cx):Prop where
 mod:Mod X.K X.mg X.base
 kind:X.env.scope.kind=.function
 glob:X.env.globals=mainGlobals
 blt:X.env.builtins=builtinsNs
 above:X.s₀.heap.objs.size<=X.env.locals
 inj:∀x y c,X.env.cells.lookup x=O c->X.env.cells.lookup y=O c->x=y
 has:∀x,(X.env.kindOf x=O .cell∨X.env.kindOf x=O .free)->∃c,X.env.cells.lookup x=O c
 cab:∀x c,X.fn x=zQ->X.env.cells.lookup x=O c->X.s₀.heap.objs.size<=c
 hd:X.calm=zQ->X.A.handled=zP
 frames:X.A.frames=O X.stack
 stk:X.stack=X.outer∨(X.stack=X.env::X.outer/\X.env.frame=O X.env.locals)
 exf:∀b∈X.ex,b≠X.env.locals/\∀x c,X.env.cells.lookup x=O c->c≠b
 bs:∀b o,X.base.get? b=O o->X.s₀.heap.get? b=O o/\X.H₀ b=zP
 bsz:X.base.objs.size<=X.s₀.heap.objs.size
 noex:∀b o,X.base.get? b=O o->b∉X.ex
 exfs:∀b∈X.ex,b∉X.fs
 funs:X.s₀.heap.FunFrames X.base X.outer
 frf:∀b∈X.fs,X.H₀ b=zP
structure Inv(X:Cx)(pins:List (UA×Obj))(σ:List (Option V))(H:Hp)(s:Uy):Prop where
 ok:X.Ok
 os:s.os=X.s₀.os
 bare:AllBare s.gens
 base:Un X.fs X.ex X.H₀ H X.s₀.heap s.heap
 loc:∃m,s.heap.Ns X.env.locals m/\∀(i:Nat)(x:Str)(v:V),X.N[i]?=O x->σ[i]?=O (O v)->Vis X.env.scope x->∃u,RelV v u/\Look X.env s.heap m x u
 cell:∀x c,X.env.cells.lookup x=O c->∃v,s.heap.IsCell c v
 free:H X.env.locals=zP
 freeC:∀x c,X.env.cells.lookup x=O c->H c=zP
 pin:∀p∈X.pn++pins,s.heap.get? p.1=O p.2/\H p.1=zP/\p.1≠X.env.locals/\p.1∉X.fs/\∀v,p.2.data≠.cell v
 hok:HOk X.prog X.w H s.heap
 len:σ.length=X.N.length
section
variable{X:Cx}{pins:List (UA×Obj)}{σ:List (Option V)}{H H':Hp}{s:Uy}{h':Heap}
def Cx.Ok.nofr(ok:X.Ok){b}{o}(e:X.base.get? b=O o):b∉X.fs:=λhb=>by
 have:=(ok.funs.mem hb).1
 lia
def Inv.bs(I:Inv X pins σ H s):∀b o,X.base.get? b=O o->s.heap.get? b=O o/\H b=zP:=λb o e=>
 ⟨I.base.keep b o (I.ok.bs b o e).1 (I.ok.bs b o e).2 (I.ok.nofr e) (I.ok.noex b o e),I.base.free b o (I.ok.bs b o e).1 (I.ok.bs b o e).2 (I.ok.noex b o e)⟩
def Inv.bk(I:Inv X pins σ H s):∀b o,X.base.get? b=O o->s.heap.get? b=O o:=λb o e=>(I.bs b o e).1
def Inv.mod(I:Inv X pins σ H s):Mod X.K X.mg X.base:=I.ok.mod
def Inv.kIn(I:Inv X pins σ H s):X.K.In s.heap:=I.ok.mod.kin.keeps I.bk
noncomputable def Inv.lt(I:Inv X pins σ H s):X.env.locals<s.heap.objs.size:=let ⟨_,hn,_⟩:=I.loc;hn.lt
def Inv.sz(I:Inv X pins σ H s):X.s₀.heap.objs.size<=s.heap.objs.size:=QK I.ok.above (Us I.lt)
def Inv.nofs(I:Inv X pins σ H s){a:UA}(h:s.heap.objs.size<=a):a∉X.fs:=λhb=>by obtain⟨_,o,ho,_⟩:=I.ok.funs.mem hb;exact absurd (QH (Qh ho) (QK I.sz h)) (Jp _)
noncomputable def Inv.cne(I:Inv X pins σ H s):∀x c,X.env.cells.lookup x=O c->c≠X.env.locals:=λx c e z=>by
 obtain⟨v,o,ho,hd⟩:=I.cell x c e;obtain⟨m,⟨o',es,ep,ho',hd',_⟩,_⟩:=I.loc
 lia
def Inv.funs(I:Inv X pins σ H s):s.heap.FunFrames X.base X.outer:=by
 have all:∀(l:List Env),(∀b∈frs l,b∈X.fs)->X.s₀.heap.FunFrames X.base l->s.heap.FunFrames X.base l:=by
  intro l;induction l with
  |nil=>intro _ _;trivial
  |cons env r ih=>
   intro hs hl;obtain⟨hk,⟨L,o,hf,hn,ho,hd⟩,hr⟩:=hl;have hL   :=hs L (by unfold frs;rw[JE,hf];exact Ql);obtain⟨sl,e⟩:=I.base.slot L o ho (I.ok.frf L hL) hL λz=>I.ok.exfs L z hL
   exact⟨hk,⟨L,_,hf,hn,e,hd⟩,ih (λb hb=>hs b (by unfold frs;rw[JE,hf];exact Qk _ hb)) hr⟩
 exact all X.outer (λ_ hb=>hb) I.ok.funs
def Inv.stack(I:Inv X pins σ H s):s.heap.FunFrames X.base X.stack:=by
 rcases I.ok.stk with e|⟨e,hf⟩
 .rw[e];exact I.funs
 .rw[e]
  obtain⟨m,hn,_⟩:=I.loc;refine .cons (by rw[I.ok.kind];decide) hf hn ?_ I.funs;exact Heap.get?_none_of_le (QK I.ok.bsz I.ok.above)
def Inv.stkSub(I:Inv X pins σ H s):∀b∈frs X.stack,b∈X.env.locals::X.fs:=λb hb=>by
 rcases I.ok.stk with e|⟨e,hf⟩
 .rw[e]at hb;exact Qk _ hb
 .rw[e]at hb
  unfold frs at hb;rw[JE,hf]at hb;exact hb
def Inv.stkFree(I:Inv X pins σ H s):∀b∈frs X.stack,H b=zP:=λb hb=>by
 rcases Qx.mp (I.stkSub b hb)with e|hb
 .rw[e];exact I.free
 .obtain⟨_,o,ho,_⟩:=I.ok.funs.mem hb
  exact I.base.free b o ho (I.ok.frf b hb) λz=>I.ok.exfs b z hb
def Inv.step  {t':Nat}{d':Drawn}{ch:zX}(I:Inv X pins σ H s)
  (hch:∀b∈ch,(b∈X.ex∨X.s₀.heap.objs.size<=b)/\b≠X.env.locals/\(∀x c,X.env.cells.lookup x=O c->c≠b)/\∀p∈X.pn++pins,p.1≠b)
  (keep:∀b o,b≠X.env.locals->b∉X.fs->b∉ch->s.heap.get? b=O o->H b=zP->h'.get? b=O o)
  (slot:∀b o,b≠X.env.locals->b∈X.fs->b∉ch->s.heap.get? b=O o->H b=zP->∃sl,h'.get? b=O {o with slots:=sl}) (free:∀b o,b∉ch->s.heap.get? b=O o->H b=zP->H' b=zP)
  (there:∀b o,b∉ch->s.heap.get? b=O o->∃o',h'.get? b=O o')
  (tups:∀b xs,H b=O (.tup xs)->H' b=O (.tup xs)) (frzs:∀b o u,H b=O (.frz o u)->H' b=O (.frz o u)) (tbls:∀b ps,H b=O (.tbl ps)->∃more,H' b=O (.tbl (ps++more)))
  (ns:∀m,s.heap.Ns X.env.locals m->h'.Ns X.env.locals m) (hok:HOk X.prog X.w H' h') (hg:AllBare g') :
  Inv X pins σ H' {s with heap:=h',gens:=g',drawn:=d',toks:=t'}:=by
 have neL:∀b o,X.s₀.heap.get? b=O o->b≠X.env.locals:=λb o e=>QZ (QH (Qh e) I.ok.above)
 have neC:∀b o,X.s₀.heap.get? b=O o->b∉X.ex->b∉ch:=λb o e hx hb=>by
  rcases(hch b hb).1 with z|z
  .exact hx z
  .exact absurd (QH (Qh e) z) (Jp _)
 have cellK:∀x c,X.env.cells.lookup x=O c->∀v,s.heap.IsCell c v->h'.IsCell c v:=λx c e v ⟨o,ho,hd⟩=>by
  have nch:c∉ch:=λz=>(hch c z).2.2.1 x c e zO
  by_cases hc:c∈X.fs
  .obtain⟨sl,q⟩:=slot c o (I.cne x c e) hc nch ho (I.freeC x c e)
   exact⟨_,q,hd⟩
  .exact⟨o,keep c o (I.cne x c e) hc nch ho (I.freeC x c e),hd⟩
 refine⟨I.ok,I.os,hg,⟨λb o e n hb hx=>?_,λb o e n hb hx=>?_,λb o e n hx=>?_,λb o e hx=>?_,λb xs e=>tups b xs (I.base.tups b xs e),λb o xs e=>frzs b o xs (I.base.frzs b o xs e),λb ps e=>?_⟩,?_,λx c e=>?_,?_,λx c e=>?_,λp hp=>?_,hok,I.len⟩
 .exact keep b o (neL b o e) hb (neC b o e hx) (I.base.keep b o e n hb hx) (I.base.free b o e n hx)
 .obtain⟨sl,e1⟩:=I.base.slot b o e n hb hx
  obtain⟨aI,e2⟩:=slot b _ (neL b o e) hb (neC b o e hx) e1 (I.base.free b o e n hx);exact⟨aI,e2⟩
 .obtain⟨o',e1⟩:=I.base.there b o e hx
  exact free b o' (neC b o e hx) e1 (I.base.free b o e n hx)
 .obtain⟨o',e1⟩:=I.base.there b o e hx
  exact there b o' (neC b o e hx) e1
 .obtain⟨m1,e1⟩:=I.base.tbls b ps e
  obtain⟨m2,e2⟩:=tbls b _ e1;exact⟨m1++m2,by rw[e2,Array.append_assoc]⟩
 .obtain⟨m,hn,hl⟩:=I.loc
  refine⟨m,ns m hn,λi x v e1 e2 e3=>?_⟩;obtain⟨u,r,l⟩:=hl i x v e1 e2 e3;refine⟨u,r,?_⟩;rcases l with l|⟨k,c,e,z⟩
  .exact .inl l
  .exact .inr ⟨k,c,e,cellK x c e _ z⟩
 .obtain⟨v,z⟩:=I.cell x c e
  exact⟨v,cellK x c e v z⟩
 .obtain⟨m,⟨o,_,_,ho,_⟩,_⟩:=I.loc
  exact free _ o (λz=>(hch _ z).2.1 zO) ho I.free
 .obtain⟨v,o,ho,hd⟩:=I.cell x c e
  exact free c o (λz=>(hch c z).2.2.1 x c e zO) ho (I.freeC x c e)
 .obtain⟨e,n,ne,nf,d⟩:=I.pin p hp
  have nch:p.1∉ch:=λz=>(hch p.1 z).2.2.2 p hp zO
  exact⟨keep p.1 p.2 ne nf nch e n,free p.1 p.2 nch e n,ne,nf,d⟩
def Inv.un  (I:Inv X pins σ H s)(u:Un X.fs [] H H' s.heap h')(hok:HOk X.prog X.w H' h'):Inv X pins σ H' {s with heap:=h',toks:=t'}:=by obtain⟨m,⟨o,es,ep,ho,r⟩,_⟩:=id I.loc;obtain⟨sl,hL⟩:=u.any ho I.free (by simp);exact I.step   (ch:=[]) (λ_ z=>nomatch z) (λb o _ hb _ e n=>u.keep b o e n hb (by simp)) (λb o _ hb _ e n=>u.slot b o e n hb (by simp)) (λb o _ e n=>u.free b o e n (by simp)) (λb o _ e=>u.there b o e (by simp)) u.tups u.frzs u.tbls (λm' hm=>by obtain⟨o',es',ep',ho',r'⟩:=hm;rw[ho]at ho';cases ho';exact⟨_,es',ep',hL,r'⟩) hok I.bare
def Inv.call   {d'}{ch}(I:Inv X pins σ H s)(u:Un (frs X.stack) ch H H' s.heap h')(hok:HOk X.prog X.w H' h')(hg:AllBare g')
  (hch:∀b∈ch,(b∈X.ex∨X.s₀.heap.objs.size<=b)/\b≠X.env.locals/\(∀x c,X.env.cells.lookup x=O c->c≠b)/\∀p∈X.pn++pins,p.1≠b) :
  Inv X pins σ H' {s with heap:=h',gens:=g',drawn:=d',toks:=t'}:=by
 obtain⟨m,⟨o,es,ep,ho,r⟩,_⟩:=id I.loc;obtain⟨sl,hL⟩:=u.any ho I.free λz=>(hch _ z).2.1 zO
 exact I.step  hch (λb o hL hb hc e n=>u.keep b o e n (λz=>(Qx.mp (I.stkSub b z)).elim hL hb) hc) (λb o _ _ hc e n=>u.any e n hc) (λb o hc e n=>u.free b o e n hc) (λb o hc e=>u.there b o e hc) u.tups u.frzs u.tbls (λm' hm=>by obtain⟨o',es',ep',ho',r'⟩:=hm;rw[ho]at ho';cases ho';exact⟨_,es',ep',hL,r'⟩) hok hg
def Inv.turned  {it}(I:Inv X pins σ H s)(k:∀b o,b≠it->s.heap.get? b=O o->h'.get? b=O o)(hn:H it=zP)(hL:it≠X.env.locals)
  (h1:it∈X.ex∨X.s₀.heap.objs.size<=it) (h2:∀x c,X.env.cells.lookup x=O c->c≠it) (h3:∀p∈X.pn++pins,p.1≠it):Inv X pins σ H {s with heap:=h',toks:=t'}:=by
 have nit:∀b u,H b=O u->b≠it:=λb u e z=>by rw[z,hn]at e;cases e
 refine I.step   (ch:=[it]) (λb hb=>?_) (λb o _ _ hc e _=>k b o (λz=>hc (by simp[z])) e) (λb o _ _ hc e _=>⟨o.slots,k b o (λz=>hc (by simp[z])) e⟩) (λ_ _ _ _ n=>n)
  (λb o hc e=>⟨o,k b o (λz=>hc (by simp[z])) e⟩) (λ_ _ e=>e) (λ_ _ _ e=>e) (λb ps e=>⟨#[],by rw[e];simp⟩) (λm hm=>?_) (λb u e=>?_) I.bare
 .have e   :=by simpa using hb
  subst e;exact⟨h1,hL,h2,h3⟩
 .obtain⟨o,es,ep,ho,r⟩:=hm
  exact⟨o,es,ep,k _ o (Ne.symm hL) ho,r⟩
 .refine(I.hok b u e).stay (λc v hc q=>k c v ?_ q) (λ_ q=>q) λ_ _ q=>q
  rcases hc with z|z
  .rw[z];exact nit b u e
  .exact nit c _ z
def Inv.tok(I:Inv X pins σ H s)(t):Inv X pins σ H {s with toks:=t}:=I.un   Un.refl I.hok
def Inv.kept  (I:Inv X pins σ H s)(k:∀b u,s.heap.get? b=O u->h'.get? b=O u):Inv X pins σ H {s with heap:=h',toks:=t'}:=I.un (Un.kept k) (I.hok.kept k)
def Inv.laid{a:UA}{o}{t'}(I:Inv X pins σ H s)(k:∀b u,s.heap.get? b=O u->h'.get? b=O u)(hp:s.heap.objs.size<=a)(new:YU X.prog X.w (upd H a o) h' a o) :
  Inv X pins σ (upd H a o) {s with heap:=h',toks:=t'}:=I.un (Un.laid k hp (I.hok.fresh hp)) (I.hok.laid k hp new)
def Inv.write    (I:Inv X pins σ H s)(mu:Mut (H x))(he:e=x∨H e=O (.own x))(k:∀b u,b≠e->s.heap.get? b=O u->h'.get? b=O u)(cy:∃u,h'.get? e=O u)
  (new:YU X.prog X.w (upd H x o) h' x o):Inv X pins σ (upd H x o) {s with heap:=h',toks:=t'}:=I.un (Un.write mu he k cy) (I.hok.write mu he k cy new)
def Inv.pins_of  (I:Inv X pins σ H s)(h:∀p∈pins',s.heap.get? p.1=O p.2/\H p.1=zP/\p.1≠X.env.locals/\p.1∉X.fs/\∀v,p.2.data≠.cell v):Inv X pins' σ H s:=
 ⟨I.ok,I.os,I.bare,I.base,I.loc,I.cell,I.free,I.freeC,λp hp=>(Qz.mp hp).elim (λz=>I.pin p (Q4 _ z)) (h p),I.hok,I.len⟩
noncomputable def Eh{N:List Str}(hN:N.Nodup){i j:Nat}{x}(a:N[i]?=O x)(b:N[j]?=O x):i=j:=by obtain⟨h1,e1⟩:=Qg.mp a;obtain⟨h2,e2⟩:=Qg.mp b;exact(List.getElem_inj hN).mp (e1.trans e2.symm)
def Lp{M:Model}{A:Around}{E:Ux->Uy->Prop}{i:Nat}{x:Str}{v:V}{u:Ux}{Q:Unit->Uy->Prop}(I:Inv X pins σ H s)(hN:X.N.Nodup)(hi:X.N[i]?=O x)(hx:Loc X.env.scope x)(r:RelV v u)
  (h:∀s',Inv X pins (σ.set i (O v)) H s'->(∃a,Heap.SameBut a s.heap s'.heap/\(a=X.env.locals∨X.env.cells.lookup x=O a))->Q () s') (hf:X.fn x=zQ∨X.env.scope.names.lookup x=O .local:=by first|exact .inl rfl|exact .inr rfl|assumption):UE M A (storeName X.env x u) Q E s:=by
 obtain⟨m,hn,hl⟩:=id I.loc;have hcls:(X.env.scope.kind==.class || (X.env.scope.kind==.module&&X.env.locals != X.env.globals))=zR:=by rw[I.ok.kind];rfl
 have hiσ:i<σ.length:=by rw[I.len];exact(Qg.mp hi).1
 have cne:=I.cne
 have tracked:∀{a:UA}{h':Heap},(∃o,s.heap.get? a=O o/\H a=zP)->Heap.SameBut a s.heap h'->HOk X.prog X.w H h':=λ{a h'} ha hs b ob e=>by
  obtain⟨_,_,hfree⟩:=ha;refine(I.hok b ob e).stay (λc w' hc q=>(hs.2 c ?_).trans q) (λ_ q=>q) λ_ _ q=>q
  rintro rfl;rcases hc with rfl|hc
  .rw[hfree]at e;cases e
  .rw[hfree]at hc;cases hc
 rcases hx with hk|hk
 .refine wpAny_storeName_local hk hn (λh' hn' hs=>?_) hcls
  obtain⟨oL,_,_,hoL,_⟩:=id hn;refine h _ ⟨I.ok,I.os,I.bare,⟨λb o e n hb hx=>?_,λb o e n hb hx=>?_,I.base.free,λb o e hx=>?_,I.base.tups,I.base.frzs,I.base.tbls⟩,⟨_,hn',λj y v' e1 e2 e3=>?_⟩,λy c e=>?_,I.free,I.freeC,λp hp=>?_,tracked ⟨oL,hoL,I.free⟩ hs,by simpa using I.len⟩ ⟨_,hs,.inl zO⟩
  .exact(hs.2 b (QZ (QH (Qh e) I.ok.above))).trans (I.base.keep b o e n hb hx)
  .obtain⟨sl,e1⟩:=I.base.slot b o e n hb hx
   exact⟨sl,(hs.2 b (QZ (QH (Qh e) I.ok.above))).trans e1⟩
  .obtain⟨o',e1⟩:=I.base.there b o e hx
   exact⟨o',(hs.2 b (QZ (QH (Qh e) I.ok.above))).trans e1⟩
  .by_cases hj:j=i
   .subst hj
    rw[hi]at e1;cases e1;rw[QW hiσ]at e2;cases e2;exact⟨u,r,.inl ⟨hk,by simp⟩⟩
   .rw[Qq (Ne.symm hj)]at e2
    obtain⟨u',r',q⟩:=hl j y v' e1 e2 e3;refine⟨u',r',?_⟩;rcases q with ⟨k,e⟩|⟨k,c,e,z⟩
    .refine .inl ⟨k,?_⟩
     have:y≠x:=λe=>hj (Eh hN e1 (e ▸ hi))
     simp[this,e]
    .exact .inr ⟨k,c,e,z.sameBut hs (cne y c e)⟩
  .obtain⟨w',z⟩:=I.cell y c e
   exact⟨w',z.sameBut hs (cne y c e)⟩
  .obtain⟨e,n,ne,nf,d⟩:=I.pin p hp
   exact⟨(hs.2 p.1 ne).trans e,n,ne,nf,d⟩
 .have hfn:X.fn x=zQ:=by
   rcases hf with z|z
   .exact z
   .rw[z]at hk;cases hk
  obtain⟨c,hc⟩:=I.ok.has x (.inl hk);obtain⟨w',z⟩:=I.cell x c hc;refine wpAny_storeName_cell I.ok.kind hk hc z (λh' hc' hs=>?_);obtain⟨oc,hoc,hocd⟩:=id z;refine h {s with heap:=h'} ⟨I.ok,I.os,I.bare,⟨λb o e n hb hx=>?_,λb o e n hb hx=>?_,I.base.free,λb o e hx=>?_,I.base.tups,I.base.frzs,I.base.tbls⟩,⟨m,hn.sameBut hs (Ne.symm (cne x c hc)),λj y v' e1 e2 e3=>?_⟩,λy c' e=>?_,I.free,I.freeC,λp hp=>?_,tracked ⟨oc,hoc,I.freeC x c hc⟩ hs,by simpa using I.len⟩ ⟨c,hs,.inr hc⟩
  .exact(hs.2 b (QZ (QH (Qh e) (I.ok.cab x c hfn hc)))).trans (I.base.keep b o e n hb hx)
  .obtain⟨sl,e1⟩:=I.base.slot b o e n hb hx
   exact⟨sl,(hs.2 b (QZ (QH (Qh e) (I.ok.cab x c hfn hc)))).trans e1⟩
  .obtain⟨o',e1⟩:=I.base.there b o e hx
   exact⟨o',(hs.2 b (QZ (QH (Qh e) (I.ok.cab x c hfn hc)))).trans e1⟩
  .by_cases hj:j=i
   .subst hj
    rw[hi]at e1;cases e1;rw[QW hiσ]at e2;cases e2;exact⟨u,r,.inr ⟨.inl hk,c,hc,hc'⟩⟩
   .rw[Qq (Ne.symm hj)]at e2
    obtain⟨u',r',q⟩:=hl j y v' e1 e2 e3;refine⟨u',r',?_⟩;rcases q with q|⟨k,c',e,z'⟩
    .exact .inl q
    .refine .inr ⟨k,c',e,z'.sameBut hs ?_⟩
     rintro rfl;exact hj (Eh hN e1 (I.ok.inj _ _ _ e hc ▸ hi))
  .by_cases hcc:c'=c
   .subst hcc;exact⟨_,hc'⟩
   .obtain⟨w2,z2⟩:=I.cell y c' e
    exact⟨w2,z2.sameBut hs hcc⟩
  .obtain⟨e,n,ne,nf,d⟩:=I.pin p hp
   refine⟨(hs.2 p.1 ?_).trans e,n,ne,nf,d⟩;intro q;rw[q,hoc]at e;have q':oc=p.2:=Ja e;exact d w' (by rw[←q'];exact hocd)
def MV    {i}{x}{v}{u}{Q}(I:Inv X pins σ H s)(hN:X.N.Nodup)(hi:X.N[i]?=O x)(hx:Loc X.env.scope x)(r:RelV v u)
  (h:∀s',Inv X pins (σ.set i (O v)) H s'->Q () s') (hf:X.fn x=zQ∨X.env.scope.names.lookup x=O .local:=by first|exact .inl rfl|exact .inr rfl|assumption):UE M A (storeName X.env x u) Q E s:=
 Lp I hN hi hx r (λs' I' _=>h s' I') hf
def Inv.call'  {ch}(I:Inv X pins σ H s)(ho:s'.os=s.os)(u:Un (frs X.stack) ch H H' s.heap s'.heap)(hok:HOk X.prog X.w H' s'.heap)(hg:AllBare s'.gens)
  (hch:∀b∈ch,(b∈X.ex∨X.s₀.heap.objs.size<=b)/\b≠X.env.locals/\(∀x c,X.env.cells.lookup x=O c->c≠b)/\∀p∈X.pn++pins,p.1≠b):Inv X pins σ H' s':=by
 obtain⟨h',g',d',t',o'⟩:=s';have e   :=ho;subst e;exact I.call    u hok hg hch
end
abbrev XK:=Ux->af->Hp->Prop
abbrev St:=List (Option V)
abbrev VK:=V->Hp->Prop
abbrev TE:=St->Hp->VK->Prop
abbrev TT:=St->Hp->(Bool->Hp->Prop)->Prop
abbrev TA:=St->Hp->(List V->Hp->Prop)->Prop
structure Ends where
 nx:St->Hp->Prop
 rt:VK
 bk:St->Hp->Prop:=λ_ _=>False
 ct:St->Hp->Prop:=λ_ _=>False
abbrev TS:=Ends->St->Hp->Prop
def EP(X:Cx)(pins:List (UA×Obj))(σ:St)(Q:VK)(u:Ux)(s':Uy):Prop:=∃v H',Inv X pins σ H' s'/\RelV v u/\Q v H'
def TP(X:Cx)(pins:List (UA×Obj))(σ:St)(Q:Bool->Hp->Prop)(b:Bool)(s':Uy):Prop:=∃H',Inv X pins σ H' s'/\Q b H'
def AP(X:Cx)(pins:List (UA×Obj))(σ:St)(Q:List V->Hp->Prop)(us:zW)(s':Uy):Prop:=∃vs H',Inv X pins σ H' s'/\Vals vs us/\Q vs H'
def SP(X:Cx)(pins:List (UA×Obj))(D:Ends)(f:Flow)(s':Uy):Prop:=
 match f with
 |.next=>∃σ' H',Inv X pins σ' H' s'/\D.nx σ' H'
 |.brk=>∃σ' H',Inv X pins σ' H' s'/\D.bk σ' H'
 |.cont=>∃σ' H',Inv X pins σ' H' s'/\D.ct σ' H'
 |.ret u=>∃v σ' H',Inv X pins σ' H' s'/\RelV v u/\D.rt v H'
def PE(X:Cx)(e:UC)(t:TE):Prop:=
 ∀(pins:List (UA×Obj))(s:Uy)(σ:St)(H:Hp)(Q:VK),Inv X pins σ H s->t σ H Q->UE (model X.prog X.w) X.A (eval e X.env) (EP X pins σ Q) X.xe s
def PT(X:Cx)(e:UC)(t:TT):Prop:=
 ∀(pins:List (UA×Obj))(s:Uy)(σ:St)(H:Hp)(Q:Bool->Hp->Prop),Inv X pins σ H s->t σ H Q->UE (model X.prog X.w) X.A (isTrue e X.env (eval e X.env)) (TP X pins σ Q) X.xe s
def PW(X:Cx)(e:UC)(t:TT):Prop:=
 ∀(whole:Sem Ux)(pins:List (UA×Obj))(s:Uy)(σ:St)(H:Hp)(Q:Bool->Hp->Prop),Inv X pins σ H s->t σ H Q->UE (model X.prog X.w) X.A (isTrue e X.env whole) (TP X pins σ Q) X.xe s
noncomputable def PW.pt{X:Cx}{e:UC}{t:TT}(h:PW X e t):PT X e t:=h _
def PA(X:Cx)(es:zV)(t:TA):Prop:=
 ∀(pos:Pos)(pins:List (UA×Obj))(s:Uy)(σ:St)(H:Hp)(Q:List V->Hp->Prop),Inv X pins σ H s->t σ H Q->UE (model X.prog X.w) X.A (spliced (backTo pos (UF es X.env))) (AP X pins σ Q) X.xe s
def PS(X:Cx)(st:Stmt)(t:TS):Prop:=
 ∀(pins:List (UA×Obj))(s:Uy)(σ:St)(H:Hp)(D:Ends),Inv X pins σ H s->t D σ H->UE (model X.prog X.w) X.A (exec st X.env) (SP X pins D) X.xe s
def PSs(X:Cx)(st:List Stmt)(t:TS):Prop:=
 ∀(pins:List (UA×Obj))(s:Uy)(σ:St)(H:Hp)(D:Ends),Inv X pins σ H s->t D σ H->UE (model X.prog X.w) X.A (execs st X.env) (SP X pins D) X.xe s
noncomputable def thn  {t:Sem α}{Q Q'}{M}{A}{E}{s}(h:UE M A t Q E s)(hQ:∀a s,Q a s->Q' a s):UE M A t Q' E s:=QS h hQ λ_ _ x=>x
section
variable{X:Cx}
noncomputable def ZA(i:Nat):TE:=λσ H Q=>∃v,σ[i]?=O (O v)/\Q v H
noncomputable def tC(v:V):TE:=λ_ H Q=>Q v H
def Ht   {pos}(hN:X.N[i]?=O x)(hv:Vis X.env.scope x)(hd:(x==("__debug__" : Str))=zR:=by decide)(hcd:(x==("__classdict__" : Str))=zR:=by decide):PE X (.Name x pos) (ZA i):=by
 intro pins s σ H Q I h;obtain⟨v,e,h⟩:=h;obtain⟨m,hn,hl⟩:=I.loc;obtain⟨u,r,l⟩:=hl i x v hN e hv;have fin:EP X pins σ Q u s:=⟨v,H,I,r,h⟩;rcases l with ⟨hk,hm⟩|⟨hk,c,hc,hcell⟩
 .exact wpAny_Name (wpAny_loadName_local I.ok.kind hk hn hm fin) hd
 .rcases hk with hk|hk
  .exact wpAny_Name (wpAny_loadName_cell I.ok.kind hk hc hcell fin) hd
  .exact wpAny_Name (wpAny_loadName_free I.ok.kind hk hc hcell fin hcd) hd
def A4  : PE X (.Constant (.int i) j pos) (tC (.int i)):=λ_ _ _ H _ I h=>wpAny_Constant_int ⟨.int i,H,I.tok _,⟨_,rfl⟩,h⟩
def CF  : PE X (.Constant (.bool b) j pos) (tC (.bl b)):=λ_ _ _ H _ I h=>Constant_bool ⟨.bl b,H,I,rfl,h⟩
def A3  : PE X (.Constant .none j pos) (tC .non):=λ_ _ _ H _ I h=>Constant_none ⟨.non,H,I,rfl,h⟩
def A1  : PE X (.Constant (.str x) j pos) (tC (.str x)):=λ_ _ _ H _ I h=>Calls.Constant_str ⟨.str x,H,I.tok _,⟨_,rfl⟩,h⟩
def Gl(X:Cx)(x:Str):Prop:=X.env.kindOf x=O .globalImplicit
def Fw  {pins}{s}{σ:St}{H}{x}{u}{pos}{Q}(I:Inv X pins σ H s)(hg:Gl X x)(hm:X.mg x=O u)(h:Q u s)
  (hd:(x==("__debug__" : Str))=zR:=by decide):UE (model X.prog X.w) X.A (eval (.Name x pos) X.env) Q E s:=
 Calls.Name_function_global I.ok.kind hg (Calls.loadGlobal_global (by rw[I.ok.glob];exact I.mod.glob.keeps I.bk) hm h) hd
def T8{E}{pins}{s}{σ:St}{H}{x}{u}{pos}{Q}(I:Inv X pins σ H s)(hg:Gl X x)(hm:X.mg x=zP)(hv:bootBuiltins x=O u)(h:Q u s)
  (hn:x ≠ "__name__" :=by decide) (hd:(x==("__debug__" : Str))=zR:=by decide):UE (model X.prog X.w) X.A (eval (.Name x pos) X.env) Q E s:=by
 obtain⟨mb,h1,h2⟩:=I.mod.blt;exact Calls.Name_function_global I.ok.kind hg (Calls.loadGlobal_builtin (by rw[I.ok.glob];exact I.mod.glob.keeps I.bk) hm (by rw[I.ok.blt];exact h1.keeps I.bk) ((h2 x hn).trans hv) h) hd
def Fv   {u}{pos}(hg:Gl X x)(hm:X.mg x=O u)(r:RelV v u)(hd:(x==("__debug__" : Str))=zR:=by decide):PE X (.Name x pos) (tC v):=
 λ_ _ _ H _ I h=>Fw I hg hm ⟨v,H,I,r,h⟩ hd
def jL   {u}{pos}(hg:Gl X x)(hm:X.mg x=zP)(hv:bootBuiltins x=O u)(r:RelV v u)(hn:x ≠ "__name__" :=by decide)(hd:(x==("__debug__" : Str))=zR:=by decide):PE X (.Name x pos) (tC v):=
 λ_ _ _ H _ I h=>T8 I hg hm hv ⟨v,H,I,r,h⟩ hn hd
variable{a b:UC}{ta tb:TE}{pos:Pos}
def PC(X:Cx)(op:CmpOp)(a b:UC)(t:TE):Prop:=
 ∀(pins:List (UA×Obj))(s:Uy)(σ:St)(H:Hp)(Q:VK),Inv X pins σ H s->t σ H Q ->
  UE (model X.prog X.w) X.A (eval a X.env) (λv s₁=>UE (model X.prog X.w) X.A (eval b X.env) (λu s₂=>UE (model X.prog X.w) X.A (UG op v u) (EP X pins σ Q) X.xe s₂) X.xe s₁) X.xe s
noncomputable def Ny(b){op}(h:op≠.In)(h2:op≠.NotIn):behindInMarks op b=zR:=by
 have e1:(op==CmpOp.In)=zR:=by lia
 have e2:(op==CmpOp.NotIn)=zR:=by lia
 cases b<;>simp[behindInMarks,e1,e2]
noncomputable def tIsN(ta:TE):TE:=λσ H Q=>ta σ H λx H1=>Q (.bl (decide (x=.non))) H1
noncomputable def CD(ta:TE):TE:=λσ H Q=>ta σ H λx H1=>Q (.bl (!decide (x=.non))) H1
def RelV.none_iff   (r:RelV x v):(v==Value.none)=decide (x=.non):=by
 cases x with
 |non=>cases r;rfl
 |bl _=>cases r;rfl
 |int _=>obtain⟨t,rfl⟩:=r;rfl
 |str _=>obtain⟨t,rfl⟩:=r;rfl
 |byt _=>obtain⟨t,rfl⟩:=r;rfl
 |flt _=>obtain⟨t,rfl⟩:=r;rfl
 |ref _=>cases r;rfl
 |ty _=>cases r;rfl
def Hs  (ha:PE X a ta):PC X .Is a (.Constant .none j pos') (tIsN ta):=by intro pins s σ H Q I h;refine thn (ha pins s σ H _ I h) λv s1 ⟨x,H1,I1,r1,q1⟩=>?_;exact Constant_none (is_none_gen ⟨.bl _,H1,I1,by rw[r1.none_iff];rfl,q1⟩)
def jK  (ha:PE X a ta):PC X .IsNot a (.Constant .none j pos') (CD ta):=by intro pins s σ H Q I h;refine thn (ha pins s σ H _ I h) λv s1 ⟨x,H1,I1,r1,q1⟩=>?_;exact Constant_none (isnot_none_gen ⟨.bl _,H1,I1,by rw[r1.none_iff];rfl,q1⟩)
noncomputable def tB(t:TE):TT:=λσ H Q=>t σ H λx H1=>∃c,x=.bl c/\Q c H1
def A0   (h:PC X op a b t)(h1:behindInMarks op b=zR:=by first|exact Ny _ (by decide) (by decide)|rfl):PE X (.Compare a [op] [b] pos) t:=λpins s σ H Q I hw=>wpAny_Compare1 (h pins s σ H Q I hw) h1
def OZ   (h:PC X op a b t)(h1:behindInMarks op b=zR:=by first|exact Ny _ (by decide) (by decide)|rfl):PT X (.Compare a [op] [b] pos) (tB t):=by intro pins s σ H Q I hw;refine wpAny_isTrue_Compare1 (thn (h pins s σ H _ I hw) λv s1 h1=>thn h1 λu s2 h2=>thn h2 λc s3 ⟨x,H1,I1,r1,q1⟩=>?_) h1;obtain⟨d,rfl,q⟩:=q1;cases r1;exact Q3 ⟨H1,I1,q⟩
def AZ   (h:PE X e t)(he:∀whole,isTrue e X.env whole=(do let v ←whole;standAt e.pos;holding [v] (truthy v)):=by intro _;rfl):PT X e (tB t):=by intro pins s σ H Q I hw;refine isTrue_plain (thn (h pins s σ H _ I hw) λv s1 ⟨x,H1,I1,r1,q1⟩=>?_) (he _);obtain⟨d,rfl,q⟩:=q1;cases r1;exact Q3 ⟨H1,I1,q⟩
variable{tA tB':TT}{rest:zV}
noncomputable def tAnd(t u:TT):TT:=λσ H Q=>t σ H λc H1=>if c=zQ then u σ H1 Q else Q zR H1
noncomputable def tOr(t u:TT):TT:=λσ H Q=>t σ H λc H1=>if c=zQ then Q zQ H1 else u σ H1 Q
noncomputable def tNot(t:TT):TT:=λσ H Q=>t σ H λc H1=>Q (!c) H1
def jJ(ha:PT X a tA):PW X (.BoolOp .And [a] pos) tA:=by
 intro wh pins s σ H Q I h;refine isTrue_and (thn (ha pins s σ H Q I h) λc s1 e=>?_);cases c with
 |true=>exact isTrue_and_nil e
 |false=>exact e
def AY(ha:PT X a tA):PW X (.BoolOp .Or [a] pos) tA:=by
 intro wh pins s σ H Q I h;refine isTrue_or (thn (ha pins s σ H Q I h) λc s1 e=>?_);cases c with
 |false=>exact isTrue_or_nil e
 |true=>exact e
def AX(ha:PT X a tA)(hb:PW X (.BoolOp .And (b::rest) pos) tB'):PW X (.BoolOp .And (a::b::rest) pos) (tAnd tA tB'):=by
 intro wh pins s σ H Q I h;refine isTrue_and (thn (ha pins s σ H _ I h) λc s1 ⟨H1,I1,q1⟩=>?_);cases c with
 |true=>exact hb wh pins s1 σ H1 Q I1 q1
 |false=>exact⟨H1,I1,q1⟩
def CC(ha:PT X a tA)(hb:PW X (.BoolOp .Or (b::rest) pos) tB'):PW X (.BoolOp .Or (a::b::rest) pos) (tOr tA tB'):=by
 intro wh pins s σ H Q I h;refine isTrue_or (thn (ha pins s σ H _ I h) λc s1 ⟨H1,I1,q1⟩=>?_);cases c with
 |true=>exact⟨H1,I1,q1⟩
 |false=>exact hb wh pins s1 σ H1 Q I1 q1
def AW(ha:PT X a tA):PT X (.UnaryOp .Not a pos) (tNot tA):=by intro pins s σ H Q I h;exact isTrue_not (ha pins s σ H _ I h)
noncomputable def Bv(ta tb:TE):TE:=λσ H Q=>ta σ H λx H1=>∃c,x=.bl c/\if c=zQ then tb σ H1 Q else Q (.bl zR) H1
noncomputable def tOrV(ta tb:TE):TE:=λσ H Q=>ta σ H λx H1=>∃c,x=.bl c/\if c=zQ then Q (.bl zQ) H1 else tb σ H1 Q
noncomputable def Bu(ta:TE):TE:=λσ H Q=>ta σ H λx H1=>∃c,x=.bl c/\Q (.bl (!c)) H1
noncomputable def AV  {t}(h:PE X a t):PE X (.BoolOp op [a] pos) t:=λpins s σ H Q I hw=>BoolOp_one (h pins s σ H Q I hw)
def AU(ha:PE X a ta)(hb:PE X (.BoolOp .And (b::rest) pos) tb):PE X (.BoolOp .And (a::b::rest) pos) (Bv ta tb):=by
 intro pins s σ H Q I h;refine BoolOp_and (thn (ha pins s σ H _ I h) λv s1 ⟨x,H1,I1,r1,q1⟩=>?_);obtain⟨c,rfl,q1⟩:=q1;cases r1;refine Q3 ?_;cases c with
 |true=>exact hb pins s1 σ H1 Q I1 q1
 |false=>exact⟨.bl zR,H1,I1,rfl,q1⟩
def Bt(ha:PE X a ta)(hb:PE X (.BoolOp .Or (b::rest) pos) tb):PE X (.BoolOp .Or (a::b::rest) pos) (tOrV ta tb):=by
 intro pins s σ H Q I h;refine BoolOp_or (thn (ha pins s σ H _ I h) λv s1 ⟨x,H1,I1,r1,q1⟩=>?_);obtain⟨c,rfl,q1⟩:=q1;cases r1;refine Q3 ?_;cases c with
 |false=>exact hb pins s1 σ H1 Q I1 q1
 |true=>exact⟨.bl zQ,H1,I1,rfl,q1⟩
def AT(ha:PE X a ta):PE X (.UnaryOp .Not a pos) (Bu ta):=by intro pins s σ H Q I h;refine UnaryOp_ (thn (ha pins s σ H _ I h) λv s1 ⟨x,H1,I1,r1,q1⟩=>?_);obtain⟨c,rfl,q1⟩:=q1;cases r1;exact not_of (Q3 ⟨.bl _,H1,I1,rfl,q1⟩)
noncomputable def tIf(t:TT)(ta tb:TE):TE:=λσ H Q=>t σ H λc H1=>if c=zQ then ta σ H1 Q else tb σ H1 Q
def xV  (hc:PT X c tA)(ha:PE X a ta)(hb:PE X b tb):PE X (.IfExp c a b pos) (tIf tA ta tb):=by
 intro pins s σ H Q I h;refine wpAny_IfExp (thn (hc pins s σ H _ I h) λd s1 ⟨H1,I1,q1⟩=>?_);cases d with
 |true=>exact ha pins s1 σ H1 Q I1 q1
 |false=>exact hb pins s1 σ H1 Q I1 q1
end
def SqL(K:Frag)(H:Hp)(a:UA)(xs:List V):Prop:=
 Rd H a (.lst xs) ∨
  ∃(o:Obj)(its:Array Ux)(n:Nat),K.lookup a=O o/\o.cls=.type "list" /\ o.dict=zP/\o.data=.seq its n/\its.size<=UD/\Vals xs its.toList
def SqT(K:Frag)(H:Hp)(a:UA)(xs:List V):Prop:=
 Rd H a (.tup xs) ∨
  ∃(o:Obj)(its:Array Ux)(n:Nat),K.lookup a=O o/\o.cls=.type "tuple" /\ o.data=.seq its n/\its.size<=UD/\Vals xs its.toList
noncomputable def absV:Ux->Option V
 |.none=>O .non
 |.bool b=>O (.bl b)
 |.int i _=>O (.int i)
 |.str x _=>O (.str x)
 |.bytes b _=>O (.byt b)
 |.float b _=>O (.flt b)
 |.ref a=>O (.ref a)
 |.type n=>O (.ty n)
 |_=>zP
def RelV.abs   (r:RelV x u):absV u=O x:=by
 cases x with
 |non=>cases r;rfl
 |bl _=>cases r;rfl
 |int _=>obtain⟨t,rfl⟩:=r;rfl
 |str _=>obtain⟨t,rfl⟩:=r;rfl
 |byt _=>obtain⟨t,rfl⟩:=r;rfl
 |flt _=>obtain⟨t,rfl⟩:=r;rfl
 |ref _=>cases r;rfl
 |ty _=>cases r;rfl
def RelV.inj  {u}(r:RelV x u)(q:RelV y u):x=y:=Ja (r.abs.symm.trans q.abs)
def Vals.inj:∀{xs ys}{us},Vals xs us->Vals ys us->xs=ys:=by
 intro xs ys us h;induction h generalizing ys with
 |nil=>intro k;cases k;rfl
 |cons r t ih=>intro k;cases k with
  |cons r' t'=>rw[r.inj r',ih t']
section
variable{X:Cx}{pins:List (UA×Obj)}{σ:St}{H:Hp}{s:Uy}{a:UA}{xs ys:List V}
noncomputable def SqL.of{K:Frag}(h:H a=O (.lst xs)):SqL K H a xs:=.inl (.inl h)
noncomputable def SqT.of{K:Frag}(h:H a=O (.tup xs)):SqT K H a xs:=.inl (.inl h)
def Inv.list(I:Inv X pins σ H s)(h:SqL X.K H a xs):∃its:zW,Vals xs its/\PlainL s.heap a its.toArray/\xs.length<=UD:=by
 rcases h with h|⟨o,its,n,hk,hc,hd,hs,hz,r⟩
 .obtain⟨z,its,n,r,e⟩:=h.ok I.hok
  exact⟨its,r,⟨_,n,e,rfl,rfl,rfl⟩,z⟩
 .refine⟨its.toList,r,⟨o,n,I.kIn a o hk,hc,hd,by simpa using hs⟩,?_⟩
  have e:=r.length
  grind
def Inv.tuple(I:Inv X pins σ H s)(h:SqT X.K H a xs):∃its:zW,Vals xs its/\IsTup s.heap a its.toArray/\xs.length<=UD:=by
 rcases h with h|⟨o,its,n,hk,hc,hs,hz,r⟩
 .obtain⟨z,its,r,p⟩:=h.ok I.hok
  exact⟨its,r,p,z⟩
 .refine⟨its.toList,r,⟨o,I.kIn a o hk,hc,n,by simpa using hs⟩,?_⟩
  have e:=r.length;simp_all
def Inv.list_inj(I:Inv X pins σ H s)(h:SqL X.K H a xs)(h':SqL X.K H a ys):xs=ys:=by
 obtain⟨its,r,⟨o,n,e,_,_,d⟩,_⟩:=I.list h;obtain⟨its',r',⟨o',n',e',_,_,d'⟩,_⟩:=I.list h';rw[e]at e';cases e';rw[d]at d';injection d' with d1 _;have   :=by simpa using congrArg Array.toList d1
 subst this;exact r.inj r'
def Inv.tuple_inj(I:Inv X pins σ H s)(h:SqT X.K H a xs)(h':SqT X.K H a ys):xs=ys:=by
 obtain⟨its,r,⟨o,e,_,n,d⟩,_⟩:=I.tuple h;obtain⟨its',r',⟨o',e',_,n',d'⟩,_⟩:=I.tuple h';rw[e]at e';cases e';rw[d]at d';injection d' with d1 _;have   :=by simpa using congrArg Array.toList d1
 subst this;exact r.inj r'
end
noncomputable abbrev Cx.wish(X:Cx)(E:Ux->Uy->Prop):Cx:={X with xe:=E}
abbrev Cx.nox(X:Cx):Cx:=X.wish λ_ _=>False
def Cx.Ok.wish{X:Cx}(ok:X.Ok)(E):(X.wish E).Ok:=
 ⟨ok.mod,ok.kind,ok.glob,ok.blt,ok.above,ok.inj,ok.has,ok.cab,ok.hd,ok.frames,ok.stk,ok.exf,ok.bs,ok.bsz,ok.noex,ok.exfs,ok.funs,ok.frf⟩
def Cx.Ok.unwish{X:Cx}{E}(ok:(X.wish E).Ok):X.Ok:=
 ⟨ok.mod,ok.kind,ok.glob,ok.blt,ok.above,ok.inj,ok.has,ok.cab,ok.hd,ok.frames,ok.stk,ok.exf,ok.bs,ok.bsz,ok.noex,ok.exfs,ok.funs,ok.frf⟩
section
variable{X:Cx}{pins:List (UA×Obj)}{σ:St}{H:Hp}{s:Uy}{E:Ux->Uy->Prop}
def Inv.wish(I:Inv X pins σ H s)(E):Inv (X.wish E) pins σ H s:=⟨I.ok.wish E,I.os,I.bare,I.base,I.loc,I.cell,I.free,I.freeC,I.pin,I.hok,I.len⟩
def Inv.unwish(I:Inv (X.wish E) pins σ H s):Inv X pins σ H s:=⟨I.ok.unwish,I.os,I.bare,I.base,I.loc,I.cell,I.free,I.freeC,I.pin,I.hok,I.len⟩
def SP.unwish    (h:SP (X.wish E) pins D f s'):SP X pins D f s':=by
 cases f with
 |next=>obtain⟨σ',H',I,q⟩:=h;exact⟨σ',H',I.unwish,q⟩
 |brk=>obtain⟨σ',H',I,q⟩:=h;exact⟨σ',H',I.unwish,q⟩
 |cont=>obtain⟨σ',H',I,q⟩:=h;exact⟨σ',H',I.unwish,q⟩
 |ret u=>obtain⟨v,σ',H',I,r,q⟩:=h;exact⟨v,σ',H',I.unwish,r,q⟩
def PSs.nox{st}{t}(h:PSs X.nox st t):PSs X st t:=λpins s σ H D I hw=>
 QS (h pins s σ H D (I.wish _) hw) (λ_ _ q=>q.unwish) λ_ _ z=>False.elim z
end
section
variable{X:Cx}{st:Stmt}{rest:List Stmt}{t u:TS}{e:UC}{te:TE}{pos:Pos}
noncomputable def Bs:TS:=λD σ H=>D.nx σ H
noncomputable def tSeq(t u:TS):TS:=λD σ H=>t {D with nx:=u D} σ H
def jV:PSs X [] Bs:=λ_ _ σ H _ I h=>wpAny_execs_nil ⟨σ,H,I,h⟩
def xU(h1:PS X st t)(h2:PSs X rest u):PSs X (st::rest) (tSeq t u):=by
 intro pins s σ H D I h;refine wpAny_execs_cons (thn (h1 pins s σ H {D with nx:=u D} I h) λf s1 q=>?_);cases f with
 |next=>obtain⟨σ',H',I',q⟩:=q;exact h2 pins s1 σ' H' D I' q
 |ret v=>exact q
 |brk=>exact q
 |cont=>exact q
def jU(h1:PS X st t):PSs X [st] t:=by
 intro pins s σ H D I h;refine wpAny_execs_cons (thn (h1 pins s σ H D I h) λf s1 q=>?_);cases f with
 |next=>exact wpAny_execs_nil q
 |ret v=>exact q
 |brk=>exact q
 |cont=>exact q
def Inv.quiet  {σ:St}{H}{s}(I:Inv X pins σ H s):interactive X.env=zR:=by simp[interactive,I.ok.kind]
noncomputable def Br(te:TE):TS:=λD σ H=>te σ H λ_ H1=>D.nx σ H1
def Fu(he:PE X e te)(hs:swapsWith e zP pos.line X.env=pure zR:=by rfl):PS X (.Expr e pos) (Br te):=by intro pins s σ H D I h;exact wpAny_Expr_any (thn (he pins s σ H _ I h) λv s1 ⟨x,H1,I1,r1,q1⟩=>⟨σ,H1,I1,q1⟩) I.quiet hs
noncomputable def tRet(te:TE):TS:=λD σ H=>te σ H D.rt
def AS(he:PE X e te):PS X (.Return (O e) pos) (tRet te):=by intro pins s σ H D I h;exact wpAny_Return_some (thn (he pins s σ H _ I h) λv s1 ⟨x,H1,I1,r1,q1⟩=>⟨x,σ,H1,I1,r1,q1⟩)
noncomputable def tIfS(c:TT)(t u:TS):TS:=λD σ H=>c σ H λb H1=>if b=zQ then t D σ H1 else u D σ H1
def Bq   {tc}(hc:PT X c tc)(ha:PSs X a t)(hb:PSs X b u):PS X (.If c a b pos) (tIfS tc t u):=by
 intro pins s σ H D I h;refine wpAny_If (thn (hc pins s σ H _ I h) λd s1 ⟨H1,I1,q1⟩=>?_);cases d with
 |true=>exact ha pins s1 σ H1 D I1 q1
 |false=>exact hb pins s1 σ H1 D I1 q1
end
abbrev TG:=V->St->Hp->(St->Hp->Prop)->Prop
abbrev TGs:=List V->St->Hp->(St->Hp->Prop)->Prop
def PG(X:Cx)(target:UC)(t:TG):Prop:=
 ∀(pins:List (UA×Obj))(s:Uy)(σ:St)(H:Hp)(v:V)(u:Ux)(Q:St->Hp->Prop),Inv X pins σ H s->RelV v u->t v σ H Q ->
  UE (model X.prog X.w) X.A (assign target X.env u) (λ_ s'=>∃σ' H',Inv X pins σ' H' s'/\Q σ' H') X.xe s
def PGs(X:Cx)(ts:zV)(t:TGs):Prop:=
 ∀(pins:List (UA×Obj))(s:Uy)(σ:St)(H:Hp)(vs:List V)(us:zW)(Q:St->Hp->Prop),Inv X pins σ H s->Vals vs us->t vs σ H Q ->
  UE (model X.prog X.w) X.A (assignInOrder ((UU ts X.env).map (·.2)) us) (λ_ s'=>∃σ' H',Inv X pins σ' H' s'/\Q σ' H') X.xe s
abbrev TIp:=V->V->Hp->VK->Prop
def PIp(X:Cx)(op:Operator)(t:TIp):Prop:=
 ∀(pins:List (UA×Obj))(s:Uy)(σ:St)(H:Hp)(x y:V)(v u:Ux)(Q:VK),Inv X pins σ H s->RelV x v->RelV y u->t x y H Q ->
  UE (model X.prog X.w) X.A (inplaceOp op v u) (EP X pins σ Q) X.xe s
section
variable{X:Cx}{pos:Pos}
def N0(i:Nat):TG:=λv σ H Q=>Q (σ.set i (O v)) H
def VG   (hN:X.N.Nodup)(hi:X.N[i]?=O x)(hx:Loc X.env.scope x)(hf:X.fn x=zQ∨X.env.scope.names.lookup x=O .local:=by first|exact .inl rfl|exact .inr rfl|assumption):PG X (.Name x pos) (N0 i):=by intro pins s σ H v u Q I r h;exact wpAny_assign_Name (MV I hN hi hx r (λs' I'=>⟨_,H,I',h⟩) hf)
noncomputable def gNil:TGs:=λvs σ H Q=>vs=[]/\Q σ H
noncomputable def Bp(t:TG)(u:TGs):TGs:=λvs σ H Q=>∃v r,vs=v::r/\t v σ H λσ' H'=>u r σ' H' Q
def jT:PGs X [] gNil:=by intro pins s σ H vs us Q I r h;obtain⟨e,h⟩:=h;exact assignInOrder_nil ⟨σ,H,I,h⟩
def xT   {t}{u}(h1:PG X e t)(h2:PGs X es u)
  (hs:(UU (e::es) X.env).map (·.2)=assign e X.env::(UU es X.env).map (·.2):=by rfl):PGs X (e::es) (Bp t u):=by
 intro pins s σ H vs us Q I r h;obtain⟨v,vr,e1,h⟩:=h;subst e1;cases r with
 |cons r rr=>rw[hs];refine assignInOrder_cons (thn (h1 pins s σ H _ _ _ I r h) λ_ s1 ⟨σ1,H1,I1,q1⟩=>?_);exact h2 pins s1 σ1 H1 _ _ Q I1 rr q1
def gTup(K:Frag)(n:Nat)(t:TGs):TG:=λv σ H Q=>∃a xs,v=.ref a/\SqT K H a xs/\xs.length=n/\t xs σ H Q
def AR  {k}{t}{n}(hc:X.calm=zQ)(h:PGs X es t)
  (hn:(UU es X.env).length=n:=by rfl) (hst:(UU es X.env).findIdx? (·.1)=zP:=by rfl):PG X (.Tuple es k pos) (gTup X.K n t):=by
 intro pins s σ H v u Q I r hw;obtain⟨a,xs,e1,hq,hl,hw⟩:=hw;subst e1;cases r;obtain⟨its,rv,ht,hz⟩:=I.tuple hq;refine assign_Tuple_tuple (I.ok.hd hc) ht (by simp[hn,←hl,rv.length]) hst λh' hx=>?_
 have I1   :=I.kept (t':=s.toks) λb o e=>hx b o (QZ (Qh e)) e;exact h pins _ σ H xs _ Q I1 (by simpa using rv) hw
noncomputable def tAsg(te:TE)(g:TG):TS:=λD σ H=>te σ H λx H1=>g x σ H1 D.nx
def AQ{tg e}{te}{g}(he:PE X e te)(hg:PG X tg g)(hs:swapsWithSole [tg] e pos.line X.env=pure zR:=by rfl)(hw:swappedStores [tg] e X.env=pure zP:=by rfl)
  (h1:(UU [tg] X.env).map (·.2)=[assign tg X.env]:=by rfl):PS X (.Assign [tg] e pos) (tAsg te g):=by
 intro pins s σ H D I h;refine wpAny_Assign_stores (thn (he pins s σ H _ I h) λv s1 ⟨x,H1,I1,r1,q1⟩=>?_) hs hw;rw[h1];exact thn (hg pins s1 σ H1 x v _ I1 r1 q1) λ_ s2 q=>q
def Ml      (hN:X.N.Nodup)(hi:X.N[i]?=O x)(hx:Loc X.env.scope x)(he:PE X e te)(hs:swapsWith e (O (.Name x pos')) pos.line X.env=pure zR:=by rfl)(hf:X.fn x=zQ∨X.env.scope.names.lookup x=O .local:=by first|exact .inl rfl|exact .inr rfl|assumption) :
  PS X (.Assign [.Name x pos'] e pos) (tAsg te (N0 i)):=by
 intro pins s σ H D I h;refine wpAny_Assign_Name (thn (he pins s σ H _ I h) λv s1 ⟨y,H1,I1,r1,q1⟩=>?_) hs;exact MV I1 hN hi hx r1 (λs2 I2=>⟨_,H1,I2,q1⟩) hf
def tAug(i:Nat)(te:TE)(ti:TIp):TS:=λD σ H=>∃x,σ[i]?=O (O x)/\te σ H λy H1=>ti x y H1 λz H2=>D.nx (σ.set i (O z)) H2
def AO  {x:Str}{e:UC}{te:TE}{op}{ti:TIp}{pos':Pos}(hN:X.N.Nodup)(hi:X.N[i]?=O x)(hx:Loc X.env.scope x)(he:PE X e te)(ho:PIp X op ti)(hf:X.fn x=zQ∨X.env.scope.names.lookup x=O .local:=by first|exact .inl rfl|exact .inr rfl|assumption) :
  PS X (.AugAssign (.Name x pos') op e pos) (tAug i te ti):=by
 intro pins s σ H D I h;obtain⟨v,e1,h⟩:=h;obtain⟨m,hn,hl⟩:=I.loc;have vis:Vis X.env.scope x:=by rcases hx with k|k;exact .inl k;exact .inr (.inl k)
 obtain⟨u,r,l⟩:=hl i x v hi e1 vis;refine wpAny_AugAssign_Name ?_;have go:UE (model X.prog X.w) X.A (eval e X.env) (λw s₂=>UE (model X.prog X.w) X.A (inplaceOp op u w) (λr s₃=>UE (model X.prog X.w) X.A (storeName X.env x r) (λ_=>SP X pins D .next) X.xe s₃) X.xe s₂) X.xe s:=by refine thn (he pins s σ H _ I h) λw s1 ⟨y,H1,I1,r1,q1⟩=>?_;refine thn (ho pins s1 σ H1 v y u w _ I1 r r1 q1) λz s2 ⟨zv,H2,I2,r2,q2⟩=>?_;exact MV I2 hN hi hx r2 (λs3 I3=>⟨_,H2,I3,q2⟩) hf
 rcases l with ⟨hk,hm⟩|⟨hk,c,hc,hcell⟩
 .exact wpAny_loadName_local I.ok.kind hk hn hm go
 .rcases hk with hk|hk
  .exact wpAny_loadName_cell I.ok.kind hk hc hcell go
  .rcases hx with k|k
   .have:X.env.scope.names.lookup x=O .free:=hk
    rw[k]at this;cases this
   .have:X.env.scope.names.lookup x=O .free:=hk
    rw[k]at this;cases this
end
section
variable{X:Cx}{pos:Pos}
def qm(c:TT)(tb:TS):TS:=λD σ H=>∃W:Nat->St->Hp->Prop,(∃m,W m σ H)/\∀m σ H,W m σ H ->
 c σ H λb H1=>if b=zQ then ∃N:St->Hp->Prop,(∀σ' H',N σ' H'->∃m',m'<m/\W m' σ' H')/\tb {D with nx:=N,ct:=N,bk:=D.nx} σ H1 else D.nx σ H1
def xS   {tc}{tb}(hp:PassesOwn (model X.prog X.w) X.A X.env X.xe)(hc:PT X c tc)(hb:PSs X body tb):PS X (.While c body [] pos) (qm tc tb):=by
 intro pins s σ H D I h;obtain⟨W,⟨m0,w0⟩,turn⟩:=h;refine wpAny_While (codeAny_whileLoop (λn s'=>∃σ' H',Inv X pins σ' H' s'/\W n σ' H') ?_ m0 ⟨σ,H,I,w0⟩);rintro n s1 ⟨σ1,H1,I1,w1⟩;refine Jw hp (thn (hc pins s1 σ1 H1 _ I1 (turn n σ1 H1 w1)) λb s2 ⟨H2,I2,q2⟩=>?_);cases b with
 |true=>
  obtain⟨N,hN,q2⟩:=q2;refine Jw hp (thn (hb pins s2 σ1 H2 _ I2 q2) λf s3 q3=>?_);cases f with
  |next=>obtain⟨σ3,H3,I3,n3⟩:=q3;obtain⟨m',hm,w3⟩:=hN σ3 H3 n3;exact⟨m',hm,σ3,H3,I3,w3⟩
  |cont=>obtain⟨σ3,H3,I3,n3⟩:=q3;obtain⟨m',hm,w3⟩:=hN σ3 H3 n3;exact⟨m',hm,σ3,H3,I3,w3⟩
  |brk=>exact q3
  |ret v=>exact q3
 |false=>exact wpAny_execs_nil ⟨σ1,H2,I2,q2⟩
end
structure It where
 go:Nat->Hp->Prop
 yld:Nat->Hp->V->Hp->Prop
 stop:Nat->Hp->Prop
def Yh(X:Cx)(pins:List (UA×Obj))(H:Hp)(b:UA):Prop:=
 H b=zP/\b≠X.env.locals/\b∉X.fs/\(b∈X.ex∨X.s₀.heap.objs.size<=b)/\(∀x c,X.env.cells.lookup x=O c->c≠b)/\∀p∈X.pn++pins,p.1≠b
def Inv.fpOk   {σ:St}{H H'}{s}{b:UA}(I:Inv X pins σ H s)(hb:s.heap.objs.size<=b)(hn:H' b=zP):Yh X pins H' b:=by
 refine⟨hn,JJ (QH I.lt hb),I.nofs hb,.inr (QK I.sz hb),λx c e z=>?_,λp hp z=>?_⟩
 .obtain⟨v,q⟩:=I.cell x c e
  exact absurd (QH q.lt (by rw[z];exact hb)) (Jp _)
 .exact absurd (QH (Qh (I.pin p hp).1) (by rw[z];exact hb)) (Jp _)
structure Turn(P:Uz)(w:World)(K:Frag)(tg:UC)(J:It)(fp:zX)(it:UA)(tn:Nat->Heap->Prop):Prop where
 mem:it∈fp
 obj:∀i h,tn i h->∀b∈fp,∃o,h.get? b=O o/\∀v,o.data≠.cell v
 keep:∀i h h',tn i h->(∀b∈fp,∀o,h.get? b=O o->h'.get? b=O o)->tn i h'
 item:∀(X:Cx),X.prog=P->X.w=w->X.K=K->X.calm=zQ->∀(i:Nat)(pins:List (UA×Obj))(s:Uy)(σ:St)(H:Hp)(E:Ux->Uy->Prop),Inv X pins σ H s->(∀b∈fp,Yh X pins H b)->tn i s.heap->J.go i H ->
  UE (model P w) X.A (pyNext (.ref it)) (λr s1=>∃u,r=O u /\
   UE (model P w) X.A (letOwnedTupleGo tg (.ref it) u) (λ_ s2=>∃x H',Inv X pins σ H' s2/\RelV x u/\J.yld i H x H'/\tn (i+1) s2.heap/\∀b∈fp,H' b=zP) E s1) E s
 done:∀(X:Cx),X.prog=P->X.w=w->X.K=K->X.calm=zQ->∀(i:Nat)(pins:List (UA×Obj))(s:Uy)(σ:St)(H:Hp)(E:Ux->Uy->Prop),Inv X pins σ H s->(∀b∈fp,Yh X pins H b)->tn i s.heap->J.stop i H ->
  UE (model P w) X.A (pyNext (.ref it)) (λr s1=>r=zP/\Inv X pins σ H s1) E s
 self:∀(A:Around)(i:Nat)(s:Uy)(Q:Ux->Uy->Prop)(E:Ux->Uy->Prop),tn i s.heap->Q (.ref it) s->UE (model P w) A (pyIter (.ref it)) Q E s
abbrev TI:=St->Hp->(It->Hp->Prop)->Prop
def PIE(X:Cx)(pins:List (UA×Obj))(σ:St)(tg:UC)(R:It->Hp->Prop)(itv:Ux)(s2:Uy):Prop:=
 ∃(it:UA)(fp:zX)(tn:Nat->Heap->Prop)(J:It)(H':Hp),itv=.ref it/\Inv X pins σ H' s2/\Turn X.prog X.w X.K tg J fp it tn/\tn 0 s2.heap/\(∀b∈fp,Yh X pins H' b)/\R J H'
def PI(X:Cx)(tg iter:UC)(wi:TI):Prop:=
 ∀(pins:List (UA×Obj))(s:Uy)(σ:St)(H:Hp)(R:It->Hp->Prop),Inv X pins σ H s->wi σ H R ->
  UE (model X.prog X.w) X.A (eval iter X.env) (λv s1=>UE (model X.prog X.w) X.A (pyIter v) (PIE X pins σ tg R) X.xe s1) X.xe s
def OL  {A:Around}{E}{s:Uy}{tg:UC}{it:UA}{u:Ux}{o:Obj}{n:String}{vs}{Q}(ho:s.heap.get? it=O o)(hc:o.cls=.type n)(hd:o.data=.fields vs)
  (hn:["enumerate", "zip", "dict_itemiterator", "dict_reverseitemiterator", "odict_iterator", "itertools.zip_longest", "itertools.pairwise"].contains n=zR) (hQ:Q () s):UE M A (letOwnedTupleGo tg (.ref it) u) Q E s:=by
 cases tg<;>first
  |exact Qo hQ
  |(cases u<;>first
    |exact Qo hQ
    |(
      refine Qf (wpAny_load ho ?_);rw[hc,hd];show UE M A (if _=zQ then _ else _) Q E s;rw[QJ (by intro h;rw[hn]at h;cases h)];exact Qo hQ))
noncomputable def Itl(K:Frag)(a:UA):It:=
 ⟨λi H=>∃xs x,SqL K H a xs/\xs[i]?=O x,λi H x H'=>H'=H/\∀xs,SqL K H a xs->xs[i]?=O x,λi H=>∃xs,SqL K H a xs/\xs.length<=i⟩
noncomputable def Itt(K:Frag)(a:UA):It:=
 ⟨λi H=>∃xs x,SqT K H a xs/\xs[i]?=O x,λi H x H'=>H'=H/\∀xs,SqT K H a xs->xs[i]?=O x,λi H=>∃xs,SqT K H a xs/\xs.length<=i⟩
noncomputable def Itr(lo:Int)(n:Nat):It:=⟨λi _=>i<n,λi H x H'=>H'=H/\x=.int (lo+i),λi _=>n<=i⟩
def wS{P:Uz}{w:World}{K}{tg:UC}(a it:UA):Turn P w K tg (Itl K a) [it] it (λi h=>h.IsListIter it a i) where
 mem:=by simp
 obj:=λi h st b hb=>by
  have e:b=it:=by simpa using hb
  subst e;obtain⟨o,e,c,d⟩:=st;exact⟨o,e,λv z=>by rw[d]at z;cases z⟩
 keep:=λi h h' st k=>st.at λo e=>k it (by simp) o e
 item:=by
  intro X hP hw hK hc i pins s σ H E I hf st hg;subst hP hw hK;obtain⟨xs,x,hq,hx⟩:=hg;obtain⟨its,rv,p,hz⟩:=I.list hq;obtain⟨u,hu,ru⟩:=rv.get hx;obtain⟨f0,f1,f2,f3,f4,f5⟩:=hf it (by simp);refine wpAny_pyNext_list_item st p.isList (x:=u) (by simpa using hu) λh' st' sb=>?_
  have I1   :=I.turned (t':=s.toks) (λb o hb e=>(sb.2 b hb).trans e) f0 f1 f3 f4 f5;obtain⟨o,e,c,d⟩:=id st';exact⟨u,rfl,OL  e c d (by decide) ⟨x,H,I1,ru,⟨rfl,λys hy=>by rw[I.list_inj hy hq];exact hx⟩,st',λb hb=>(hf b hb).1⟩⟩
 done:=by intro X hP hw hK hc i pins s σ H E I hf st hg;subst hP hw hK;obtain⟨xs,hq,hx⟩:=hg;obtain⟨its,rv,p,hz⟩:=I.list hq;obtain⟨f0,f1,f2,f3,f4,f5⟩:=hf it (by simp);have hl:=rv.length;exact wpAny_pyNext_list_end (I.ok.hd hc) st p.isList (by simp;omega) λh' eb=>⟨rfl,I.turned (t':=s.toks) (λb o hb e=>eb b o hb e) f0 f1 f3 f4 f5⟩
 self:=λ_ _ _ _ _ st h=>wpAny_pyIter_listiter st h
def yh{P:Uz}{w:World}{K:Frag}{tg:UC}(a it:UA):Turn P w K tg (Itt K a) [it] it (λi h=>h.IsTupleIter it a i) where
 mem:=by simp
 obj:=λi h st b hb=>by
  have e:b=it:=by simpa using hb
  subst e;obtain⟨o,e,c,d⟩:=st;exact⟨o,e,λv z=>by rw[d]at z;cases z⟩
 keep:=λi h h' st k=>st.at λo e=>k it (by simp) o e
 item:=by
  intro X hP hw hK hc i pins s σ H E I hf st hg;subst hP hw hK;obtain⟨xs,x,hq,hx⟩:=hg;obtain⟨its,rv,p,hz⟩:=I.tuple hq;obtain⟨u,hu,ru⟩:=rv.get hx;obtain⟨f0,f1,f2,f3,f4,f5⟩:=hf it (by simp);refine wpAny_pyNext_tuple_item st (p) (x:=u) (by simpa using hu) λh' st' sb=>?_
  have I1   :=I.turned (t':=s.toks) (λb o hb e=>(sb.2 b hb).trans e) f0 f1 f3 f4 f5;obtain⟨o,e,c,d⟩:=id st';exact⟨u,rfl,OL  e c d (by decide) ⟨x,H,I1,ru,⟨rfl,λys hy=>by rw[I.tuple_inj hy hq];exact hx⟩,st',λb hb=>(hf b hb).1⟩⟩
 done:=by intro X hP hw hK hc i pins s σ H E I hf st hg;subst hP hw hK;obtain⟨xs,hq,hx⟩:=hg;obtain⟨its,rv,p,hz⟩:=I.tuple hq;obtain⟨f0,f1,f2,f3,f4,f5⟩:=hf it (by simp);have hl:=rv.length;exact wpAny_pyNext_tuple_end (I.ok.hd hc) st (p) (by simp;omega) λh' eb=>⟨rfl,I.turned (t':=s.toks) (λb o hb e=>eb b o hb e) f0 f1 f3 f4 f5⟩
 self:=λ_ _ _ _ _ st h=>wpAny_pyIter_tupleiter st h
def yg{P:Uz}{w:World}{K:Frag}{tg:UC}(it:UA)(lo:Int)(n:Nat):Turn P w K tg (Itr lo n) [it] it (λi h=>IsRangeIter h it (lo+(i:Nat)*1) ((n:Int)-(i:Nat)) 1) where
 mem:=by simp
 obj:=λi h st b hb=>by
  have e:b=it:=by simpa using hb
  subst e;exact⟨_,st,λv z=>by have z'   :=z;cases z'⟩
 keep:=λi h h' st k=>k it (by simp) _ st
 item:=by
  intro X hP hw hK hc i pins s σ H E I hf st hg;subst hP hw hK;obtain⟨f0,f1,f2,f3,f4,f5⟩:=hf it (by simp);have W:=Walks.range (prog:=X.prog) (w:=X.w) (I.ok.hd hc) it lo 1 n;refine W.item i s _ _ hg st λv h' tk hv st' kk=>?_
  obtain⟨t,rfl⟩:=hv;have I1:Inv X pins σ H {s with heap:=h',toks:=tk}:=I.turned (λb o hb e=>kk b o (by simpa using hb) e) f0 f1 f3 f4 f5;refine⟨_,rfl,OL   st' zO zO (by decide) ⟨.int (lo+i),H,I1,⟨t,?_⟩,⟨rfl,rfl⟩,st',λb hb=>(hf b hb).1⟩⟩;rw[Int.mul_one]
 done:=by intro X hP hw hK hc i pins s σ H E I hf st hg;obtain⟨f0,f1,f2,f3,f4,f5⟩:=hf it (by simp);exact wpAny_pyNext_range_end (I.ok.hd hc) st (by have:n<=i:=hg;omega) λh' eb=>⟨rfl,I.turned (t':=s.toks) (λb o hb e=>eb b o hb e) f0 f1 f3 f4 f5⟩
 self:=λ_ _ _ _ _ st h=>wpAny_pyIter_rangeiter st h
section
variable{X:Cx}{tg:UC}
def Eg  {σ:St}{H:Hp}{s}{R}{E}{lo hi:Int}{t u v:Tok}{tk:Nat}(I:Inv X pins σ H s)(h1 : -(2 ^ 62)<=lo)(h2:lo<2 ^ 62)(h3 : -(2 ^ 62)<=hi)(h4:hi<2 ^ 62)
  (q:R (Itr lo (hi-lo).toNat) H):UE (model X.prog X.w) X.A (pyIter (.ref s.heap.objs.size)) (PIE X pins σ tg R) E {s with heap:=s.heap.push {cls:=.type "range", data:=.fields #[.int lo t,.int hi u,.int 1 v]},toks:=tk}:=by
 refine wpAny_pyIter_range (IsRange.new ..) (small_one h1 h2 h3 h4) ?_;have I1:Inv X pins σ H {s with heap:=s.heap.push {cls:=.type "range", data:=.fields #[.int lo t,.int hi u,.int 1 v]},toks:=tk}:=I.kept λb o e=>Qj _ e
 refine⟨(s.heap.push {cls:=.type "range", data:=.fields #[.int lo t,.int hi u,.int 1 v]}).objs.size,[(s.heap.push {cls:=.type "range", data:=.fields #[.int lo t,.int hi u,.int 1 v]}).objs.size],_,_,H,rfl,
  I1.kept  λb o e=>Qj _ e,yg _ lo (hi-lo).toNat,?_,λb hb=>?_,q⟩
 .have e1:lo+((0:Nat):Int)*1=lo:=by simp
  have e2:(((hi-lo).toNat:Nat):Int)-((0:Nat):Int)=Builtin.Range.rangeSize lo hi 1:=by rw[rangeSize_one];split<;>omega
  rw[e1,e2];exact QF _ zO
 .have e:b=(s.heap.push {cls:=.type "range", data:=.fields #[.int lo t,.int hi u,.int 1 v]}).objs.size:=by simpa using hb
  subst e;exact I1.fpOk (Qv _) (I1.hok.fresh (Qv _))
def Bo(ta:TA):TI:=λσ H R=>ta σ H λvs H1=>∃j:Int,vs=[.int j] /\ -(2 ^ 62)<=j/\j<2 ^ 62/\R (Itr 0 j.toNat) H1
def Bm(ta:TA):TI:=λσ H R=>ta σ H λvs H1=>∃i j:Int,vs=[.int i,.int j]/\(-(2 ^ 62)<=i/\i<2 ^ 62 /\ -(2 ^ 62)<=j/\j<2 ^ 62)/\R (Itr i (j-i).toNat) H1
def wR    (hg:Gl X "range")(hm:X.mg "range" = zP)(ha:PA X [a] ta)(hs:UF [a] X.env=[(zR,eval a X.env)]:=by rfl):PI X tg (.Call (.Name "range" p) [a] [] pos) (Bo ta):=by
 intro pins s σ H R I h;refine Call_ (T8 I hg hm boot_range (JM (thn (ha pos pins s σ H _ I h) λus s1 ⟨vs,H1,I1,r1,q1⟩=>?_) hs zO));obtain⟨j,e,q1,q2,q⟩:=q1;subst e;cases r1 with
 |cons r rr=>cases rr;obtain⟨t,rfl⟩:=r;exact call_range_1 (Eg I1 (by omega) (by omega) q1 q2 (by simp_all))
def wQ   {p pos}(hg:Gl X "range")(hm:X.mg "range" = zP)(ha:PA X [a,b] ta)(hs:UF [a,b] X.env=[(zR,eval a X.env),(zR,eval b X.env)]:=by rfl)(hs2:UF [b] X.env=[(zR,eval b X.env)]:=by rfl) :
  PI X tg (.Call (.Name "range" p) [a,b] [] pos) (Bm ta):=by
 intro pins s σ H R I h;refine Call_ (T8 I hg hm boot_range (PyProof.Rows.callWith_type1 (thn (ha pos pins s σ H _ I h) λus s1 ⟨vs,H1,I1,r1,q1⟩=>?_) (by simp_all) (by rw[hs2];rfl)));obtain⟨i,j,e,⟨q1,q2,q3,q4⟩,q⟩:=q1;subst e;cases r1 with
 |cons r rr=>
  cases rr with
  |cons r' rr=>cases rr;obtain⟨t,rfl⟩:=r;obtain⟨t',rfl⟩:=r';exact call_range_2 (Eg I1 q1 q2 q3 q4 q)
def tFor(wi:TI)(g:TG)(tb:TS):TS:=λD σ H=>wi σ H λJ H1=>∃W:Nat->Nat->St->Hp->Prop,(∃m,W 0 m σ H1)/\∀i m σ H,W i m σ H ->
 (J.stop i H/\D.nx σ H)∨(J.go i H/\∃N:St->Hp->Prop,(∀σ' H',N σ' H'->∃m',m'<m/\W (i+1) m' σ' H')/\∀x H',J.yld i H x H'->g x σ H' λσ2 H2=>tb {D with nx:=N,ct:=N,bk:=D.nx} σ2 H2)
noncomputable def OY(fp:zX)(h:Heap):List (UA×Obj):=fp.filterMap λb=>(h.get? b).map λo=>(b,o)
def NC   {b}{o}(hb:b∈fp)(e:h.get? b=O o):(b,o)∈OY fp h:=List.mem_filterMap.mpr ⟨b,hb,by simp_all⟩
def wP    (hp:p∈OY fp h):p.1∈fp/\h.get? p.1=O p.2:=by
 obtain⟨b,hb,e⟩:=Jo.mp hp;cases q:h.get? b with
 |none=>simp_all
 |some o=>rw[q]at e;have e'   :=Ja e;subst e';exact⟨hb,q⟩
def Inv.pinned  {σ:St}{H}{s}{fp}(I:Inv X pins σ H s)(hf:∀b∈fp,Yh X pins H b)(ho:∀b∈fp,∃o,s.heap.get? b=O o/\∀v,o.data≠.cell v):Inv X (pins++OY fp s.heap) σ H s:=
 I.pins_of λp hp=>(Qz.mp hp).elim (λz=>I.pin p (QN _ z)) λz=>by obtain⟨hb,e⟩:=wP z;obtain⟨f0,f1,f2,_⟩:=hf p.1 hb;obtain⟨o,e',d⟩:=ho p.1 hb;rw[e]at e';cases e';exact⟨e,f0,f1,f2,d⟩
def Inv.unpinned  {σ:St}{H}{s}(I:Inv X (pins++pl) σ H s):Inv X pins σ H s:=I.pins_of λp hp=>I.pin p (QN _ (Q4 _ hp))
def ql{iter:UC}{body:List Stmt}{wi:TI}{g:TG}{tb:TS}{pos:Pos}(hp:PassesOwn (model X.prog X.w) X.A X.env X.xe)(hc:X.calm=zQ)(hi:PI X tg iter wi)(hg:PG X tg g)(hb:PSs X body tb)
  (hs:∀x,UV iter X.env x=pure x:=by intro _;rfl):PS X (.For tg iter body [] pos) (tFor wi g tb):=by
 intro pins s σ H D I h;refine wpAny_For (thn (hi pins s σ H _ I h) λv s1 h1=>thn h1 λitv s2 h2=>?_) hs;obtain⟨it,fp,tn,J,H2,e,I2,T,st2,f2,W,⟨m0,w0⟩,turn⟩:=h2;subst e;have stat:∀{H':Hp},(∀b∈fp,H' b=zP)->∀b∈fp,Yh X pins H' b:=λhn b hb=>⟨hn b hb,(f2 b hb).2⟩;refine codeAny_forLoop_any (λn s'=>∃i σ' H',Inv X pins σ' H' s'/\tn i s'.heap/\(∀b∈fp,H' b=zP)/\W i n σ' H') ?_ m0 ⟨0,σ,H2,I2,st2,λb hb=>(f2 b hb).1,w0⟩;rintro n s3 ⟨i,σ3,H3,I3,st3,fr3,w3⟩;rcases turn i n σ3 H3 w3 with ⟨stop,qn⟩|⟨go,N,hN,step⟩
 .refine Jw hp (thn (T.done X zO zO zO hc i pins s3 σ3 H3 X.xe I3 (stat fr3) st3 stop) λr s4 ⟨hr,I4⟩=>?_)
  subst hr;exact wpAny_execs_nil ⟨σ3,H3,I4,qn⟩
 .refine Jw hp (thn (T.item X zO zO zO hc i pins s3 σ3 H3 X.xe I3 (stat fr3) st3 go) λr s4 ⟨u,hr,h4⟩=>?_)
  subst hr;refine Jw hp (thn h4 λ_ s5 ⟨x,H5,I5,r5,y5,aO,fr5⟩=>?_);have I5':=I5.pinned (stat fr5) (T.obj _ _ aO);refine Jw hp (thn (hg _ s5 σ3 H5 x u _ I5' r5 (step x H5 y5)) λ_ s6 ⟨σ6,H6,I6,q6⟩=>?_);refine Jw hp (thn (hb _ s6 σ6 H6 _ I6 q6) λf s7 q7=>?_);have again:∀{σ7:St}{H7:Hp},Inv X _ σ7 H7 s7->N σ7 H7->∃m,m<n/\∃i σ' H',Inv X pins σ' H' s7/\tn i s7.heap/\(∀b∈fp,H' b=zP)/\W i m σ' H':=λ{σ7 H7} I7 n7=>by obtain⟨m',hm,w7⟩:=hN σ7 H7 n7;refine⟨m',hm,i+1,σ7,H7,I7.unpinned,T.keep _ _ _ aO λb hb o e=>(I7.pin (b,o) (QN _ (QN _ (NC hb e)))).1,λb hb=>?_,w7⟩;obtain⟨o,e,d⟩:=T.obj _ _ aO b hb;exact(I7.pin (b,o) (QN _ (QN _ (NC hb e)))).2.1
  cases f with
  |next=>obtain⟨σ7,H7,I7,n7⟩:=q7;exact again I7 n7
  |cont=>obtain⟨σ7,H7,I7,n7⟩:=q7;exact again I7 n7
  |brk=>obtain⟨σ7,H7,I7,q7⟩:=q7;exact⟨σ7,H7,I7.unpinned,q7⟩
  |ret v=>obtain⟨x7,σ7,H7,I7,r7,q7⟩:=q7;exact⟨x7,σ7,H7,I7.unpinned,r7,q7⟩
end
abbrev R2:=V->V->Hp->VK->Prop
def OpR(X:Cx)(f:Ux->Ux->Sem Ux)(r:R2):Prop:=
 ∀(pins:List (UA×Obj))(s:Uy)(σ:St)(H:Hp)(x y:V)(v u:Ux)(Q:VK),Inv X pins σ H s->RelV x v->RelV y u->r x y H Q ->
  UE (model X.prog X.w) X.A (f v u) (EP X pins σ Q) X.xe s
def UnR(X:Cx)(f:Ux->Sem Ux)(r:V->Hp->VK->Prop):Prop:=
 ∀(pins:List (UA×Obj))(s:Uy)(σ:St)(H:Hp)(x:V)(v:Ux)(Q:VK),Inv X pins σ H s->RelV x v->r x H Q ->
  UE (model X.prog X.w) X.A (f v) (EP X pins σ Q) X.xe s
def Xn(X:Cx)(f:Ux)(r:List V->Hp->VK->Prop):Prop:=
 ∀(pins:List (UA×Obj))(s:Uy)(σ:St)(H:Hp)(xs:List V)(us:zW)(Q:VK),Inv X pins σ H s->Vals xs us->r xs H Q ->
  UE (model X.prog X.w) X.A (call f us) (EP X pins σ Q) X.xe s
def TruR(X:Cx)(r:V->Hp->(Bool->Hp->Prop)->Prop):Prop:=
 ∀(pins:List (UA×Obj))(s:Uy)(σ:St)(H:Hp)(x:V)(v:Ux)(Q:Bool->Hp->Prop),Inv X pins σ H s->RelV x v->r x H Q ->
  UE (model X.prog X.w) X.A (truthy v) (TP X pins σ Q) X.xe s
noncomputable def tOp(r:R2)(ta tb:TE):TE:=λσ H Q=>ta σ H λx H1=>tb σ H1 λy H2=>r x y H2 Q
noncomputable def tUn(r:V->Hp->VK->Prop)(ta:TE):TE:=λσ H Q=>ta σ H λx H1=>r x H1 Q
noncomputable def rI(C:Int->Int->Prop)(g:Int->Int->V):R2:=λx y H Q=>∃i j,x=.int i/\y=.int j/\C i j/\Q (g i j) H
noncomputable def rI0(g:Int->Int->V):R2:=λx y H Q=>∃i j,x=.int i/\y=.int j/\Q (g i j) H
noncomputable def rU(g:Int->V):V->Hp->VK->Prop:=λx H Q=>∃i,x=.int i/\Q (g i) H
section
variable{X:Cx}{a b c:UC}{ta tb tc:TE}{pos:Pos}
def RS(ha:PE X a ta)(hb:PE X b tb){pins}{s}{σ:St}{H}{R:V->V->Hp->Prop}(I:Inv X pins σ H s)
  (h:ta σ H λx H1=>tb σ H1 λy H2=>R x y H2) {Q} {f:Ux->Ux->Sem Ux}
  (hf:∀v u s2 x y H2,Inv X pins σ H2 s2->RelV x v->RelV y u->R x y H2->UE (model X.prog X.w) X.A (f v u) Q X.xe s2) :
  UE (model X.prog X.w) X.A (eval a X.env) (λv s₁=>UE (model X.prog X.w) X.A (eval b X.env) (λu s₂=>UE (model X.prog X.w) X.A (f v u) Q X.xe s₂) X.xe s₁) X.xe s:=by
 refine thn (ha pins s σ H _ I h) λv s1 ⟨x,H1,I1,r1,q1⟩=>?_;refine thn (hb pins s1 σ H1 _ I1 q1) λu s2 ⟨y,H2,I2,r2,q2⟩=>?_;exact hf v u s2 x y H2 I2 r1 r2 q2
def Hk   (ho:OpR X (binaryOp op) r)(ha:PE X a ta)(hb:PE X b tb):PE X (.BinOp a op b pos) (tOp r ta tb):=by intro pins s σ H Q I h;exact wpAny_BinOp (RS ha hb I h λv u s2 x y H2 I2 rx ry q=>ho pins s2 σ H2 x y v u Q I2 rx ry q)
def Bl   (ho:UnR X (unaryOp op) r)(ha:PE X a ta):PE X (.UnaryOp op a pos) (tUn r ta):=by intro pins s σ H Q I h;exact UnaryOp_ (thn (ha pins s σ H _ I h) λv s1 ⟨x,H1,I1,r1,q1⟩=>ho pins s1 σ H1 x v Q I1 r1 q1)
def opI  {C}{g:Int->Int->Int}
  (rule:∀(i j)(t u)(s)(Q)(E),C i j->Q (.int (g i j) s.toks) {s with toks:=s.toks+1}->UE (model X.prog X.w) X.A (f (.int i t) (.int j u)) Q E s) :
  OpR X f (rI C λi j=>.int (g i j)):=by
 intro pins s σ H x y v u Q I rx ry h;obtain⟨i,j,rfl,rfl,hc,q⟩:=h;obtain⟨t,rfl⟩:=rx;obtain⟨t',rfl⟩:=ry;exact rule i j t t' s _ _ hc ⟨.int _,H,I.tok _,⟨_,rfl⟩,q⟩
def opI0  {g:Int->Int->Int}
  (rule:∀(i j)(t u)(s)(Q)(E),Q (.int (g i j) s.toks) {s with toks:=s.toks+1}->UE (model X.prog X.w) X.A (f (.int i t) (.int j u)) Q E s) :
  OpR X f (rI0 λi j=>.int (g i j)):=by
 intro pins s σ H x y v u Q I rx ry h;obtain⟨i,j,rfl,rfl,q⟩:=h;obtain⟨t,rfl⟩:=rx;obtain⟨t',rfl⟩:=ry;exact rule i j t t' s _ _ ⟨.int _,H,I.tok _,⟨_,rfl⟩,q⟩
def V3  {g:Int->Int->Bool}
  (rule:∀(i j)(t u)(s)(Q)(E),Q (.bool (g i j)) s->UE (model X.prog X.w) X.A (f (.int i t) (.int j u)) Q E s) :
  OpR X f (rI0 λi j=>.bl (g i j)):=by
 intro pins s σ H x y v u Q I rx ry h;obtain⟨i,j,rfl,rfl,q⟩:=h;obtain⟨t,rfl⟩:=rx;obtain⟨t',rfl⟩:=ry;exact rule i j t t' s _ _ ⟨.bl _,H,I,rfl,q⟩
def CPow(i j:Int):Prop:=0<=j/\j<=1000000/\i.natAbs<2 ^ 64
def CMul(i j:Int):Prop:=(-(2 ^ 64)<i/\i<2 ^ 64)∨(-(2 ^ 64)<j/\j<2 ^ 64)
noncomputable def CMul.ok  (h:CMul i j):IntMulOk i j:=by
 rcases h with ⟨h1,h2⟩|⟨h1,h2⟩
 .exact .of_left (intBits_le_64 h1 h2)
 .exact .of_right (intBits_le_64 h1 h2)
def qk:OpR X (binaryOp .Add) (rI0 λi j=>.int (i+j)):=opI0 λ_ _ _ _ _ _ _ q=>add_int q
def qi:OpR X (binaryOp .Sub) (rI0 λi j=>.int (i-j)):=opI0 λ_ _ _ _ _ _ _ q=>sub_int q
def qh:OpR X (binaryOp .Mult) (rI CMul λi j=>.int (i*j)):=opI λ_ _ _ _ _ _ _ hc q=>mul_int q hc.ok
def qg:OpR X (binaryOp .Mod) (rI (λ_ j=>0<j) λi j=>.int (i % j)):=opI λi j _ _ _ _ _ hc q=>by exact mod_int' (by omega) (by rw[Int.fmod_eq_emod_of_nonneg i (by omega)];exact q)
def qf:OpR X (binaryOp .Pow) (rI CPow λi j=>.int (i ^ j.toNat)):=opI λ_ _ _ _ _ _ _ hc q=>pow_int_small hc.1 hc.2.1 hc.2.2 q
def jS:OpR X (inplaceOp .Mult) (rI CMul λi j=>.int (i*j)):=opI λ_ _ _ _ _ _ _ hc q=>imul_int q hc.ok
def unI  {g:Int->Int}
  (rule:∀(i)(t)(s)(Q)(E),Q (.int (g i) s.toks) {s with toks:=s.toks+1}->UE (model X.prog X.w) X.A (f (.int i t)) Q E s) :
  UnR X f (rU λi=>.int (g i)):=by
 intro pins s σ H x v Q I rx h;obtain⟨i,rfl,q⟩:=h;obtain⟨t,rfl⟩:=rx;exact rule i t s _ _ ⟨.int _,H,I.tok _,⟨_,rfl⟩,q⟩
def qe:UnR X (unaryOp .USub) (rU λi=>.int (-i)):=unI λ_ _ _ _ _ q=>neg_int q
end
section
variable{X:Cx}{a b c:UC}{ta tb tc:TE}{pos:Pos}
noncomputable def Mk  {σ:St}{H}{s}{Q}{k k'}(I:Inv X pins σ H s)(q:Q (.bl k) H)(e:k=k'):EP X pins σ Q (.bool k') s:=by subst e;exact⟨.bl k,H,I,rfl,q⟩
def Bk:OpR X (UG .Lt) (rI0 λi j=>.bl (decide (i<j))):=V3 λ_ _ _ _ _ _ _ q=>lt_int q
def Bj:OpR X (UG .LtE) (rI0 λi j=>.bl (decide (i<=j))):=V3 λ_ _ _ _ _ _ _ q=>le_int q
def Bh:OpR X (UG .Gt) (rI0 λi j=>.bl (decide (j<i))):=V3 λ_ _ _ _ _ _ _ q=>gt_int q
def Bg:OpR X (UG .GtE) (rI0 λi j=>.bl (decide (j<=i))):=V3 λ_ _ _ _ _ _ _ q=>ge_int q
def wO:OpR X (UG .In) (λx y H Q=>∃i j,x=.str i/\y=.str j/\Q (.bl (!(Builtin.Str.occurrences j i 0 j.length 1).isEmpty)) H):=by intro pins s σ H x y v u Q I rx ry h;obtain⟨i,j,rfl,rfl,q⟩:=h;obtain⟨t,rfl⟩:=rx;obtain⟨t',rfl⟩:=ry;exact in_str (Mk I q zO)
def zh:OpR X (UG .NotIn) (λx y H Q=>∃i j,x=.str i/\y=.str j/\Q (.bl (!(!(Builtin.Str.occurrences j i 0 j.length 1).isEmpty))) H):=by intro pins s σ H x y v u Q I rx ry h;obtain⟨i,j,rfl,rfl,q⟩:=h;obtain⟨t,rfl⟩:=rx;obtain⟨t',rfl⟩:=ry;exact notIn_str (Mk I q zO)
noncomputable def OpR.or   (h:OpR X f r)(h':OpR X f r'):OpR X f (λx y H Q=>r x y H Q∨r' x y H Q):=by
 intro pins s σ H x y v u Q I rx ry q;rcases q with q|q
 .exact h pins s σ H x y v u Q I rx ry q
 .exact h' pins s σ H x y v u Q I rx ry q
noncomputable def Mj(b){op}(h:op≠.In:=by decide)(h2:op≠.NotIn:=by decide):behindInMarks op b=zR:=by
 have e1:(op==CmpOp.In)=zR:=by lia
 have e2:(op==CmpOp.NotIn)=zR:=by lia
 cases b<;>simp[behindInMarks,e1,e2]
def Ft   (ho:OpR X (UG op) r)(ha:PE X a ta)(hb:PE X b tb)(hm:behindInMarks op b=zR):PE X (.Compare a [op] [b] pos) (tOp r ta tb):=by intro pins s σ H Q I h;exact wpAny_Compare1 (RS ha hb I h λv u s2 x y H2 I2 rx ry q=>ho pins s2 σ H2 x y v u Q I2 rx ry q) hm
noncomputable def Hj(t:TE):TT:=λσ H Q=>t σ H λx H'=>∃k,x=.bl k/\Q k H'
def MM   (ho:OpR X (UG op) r)(ha:PE X a ta)(hb:PE X b tb)(hm:behindInMarks op b=zR):PT X (.Compare a [op] [b] pos) (Hj (tOp r ta tb)):=by
 intro pins s σ H Q I h
 refine wpAny_isTrue_Compare1 (thn (ha pins s σ H _ I h) λv s1 ⟨x,H1,I1,r1,q1⟩=>thn (hb pins s1 σ H1 _ I1 q1) λu s2 ⟨y,H2,I2,r2,q2⟩=>
  thn (ho pins s2 σ H2 x y v u _ I2 r1 r2 q2) λc s3 ⟨z,H3,I3,r3,k,e,q3⟩=>?_) hm
 subst e;cases r3;exact Q3 ⟨H3,I3,q3⟩
noncomputable def Hr(r r':R2)(ta tb tc:TE):TE:=λσ H Q=>ta σ H λx H1=>tb σ H1 λy H2=>r x y H2 λz H3=>∃k,z=.bl k /\
 (if k=zQ then tc σ H3 λw' H4=>r' y w' H4 Q else Q (.bl zR) H3)
def xR  {r r'}(ho:OpR X (UG op) r)(ho':OpR X (UG op') r')(ha:PE X a ta)(hb:PE X b tb)(hc:PE X c tc)
  (hm:lastMarks [op,op'] [b,c]=zR:=by with_unfolding_all rfl):PE X (.Compare a [op,op'] [b,c] pos) (Hr r r' ta tb tc):=by
 intro pins s σ H Q I h
 refine Compare_chain (thn (ha pins s σ H _ I h) λv s1 ⟨x,H1,I1,r1,q1⟩=>chain_link (thn (hb pins s1 σ H1 _ I1 q1) λu s2 ⟨y,H2,I2,r2,q2⟩=>
  thn (ho pins s2 σ H2 x y v u _ I2 r1 r2 q2) λd s3 ⟨z,H3,I3,r3,k,e,q3⟩=>?_)) hm
 subst e;cases r3;refine Q3 ?_;cases k with
 |false=>exact ite_ff ⟨.bl zR,H3,I3,rfl,q3⟩
 |true=>exact ite_tt (chain_last (thn (hc pins s3 σ H3 _ I3 q3) λw' s4 ⟨z',H4,I4,r4,q4⟩=>ho' pins s4 σ H4 y z' u w' Q I4 r2 r4 q4))
def xQ  {r r'}(ho:OpR X (UG op) r)(ho':OpR X (UG op') r')(ha:PE X a ta)(hb:PE X b tb)(hc:PE X c tc)
  (hm:lastMarks [op,op'] [b,c]=zR:=by with_unfolding_all rfl):PT X (.Compare a [op,op'] [b,c] pos) (Hj (Hr r r' ta tb tc)):=by
 intro pins s σ H Q I h
 refine isTrue_chain (thn (ha pins s σ H _ I h) λv s1 ⟨x,H1,I1,r1,q1⟩=>test_link (thn (hb pins s1 σ H1 _ I1 q1) λu s2 ⟨y,H2,I2,r2,q2⟩=>
  thn (ho pins s2 σ H2 x y v u _ I2 r1 r2 q2) λd s3 ⟨z,H3,I3,r3,k,e,q3⟩=>?_)) hm
 subst e;cases r3;refine Q3 ?_;cases k with
 |false=>obtain⟨k',e',q'⟩:=q3;cases e';exact ite_ff ⟨H3,I3,q'⟩
 |true=>refine ite_tt (test_last (thn (hc pins s3 σ H3 _ I3 q3) λw' s4 ⟨z',H4,I4,r4,q4⟩=>thn (ho' pins s4 σ H4 y z' u w' _ I4 r2 r4 q4) λd' s5 ⟨z2,H5,I5,r5,k2,e2,q5⟩=>?_));subst e2;cases r5;exact Q3 ⟨H5,I5,q5⟩
def TruV(K:Frag)(x:V)(H:Hp)(k:Bool):Prop:=
 match x with
 |.non=>k=zR
 |.bl b=>k=b
 |.int i=>k=(i != 0)
 |.str y=>y.length<=UD/\k=((y.length:Int) != 0)
 |.byt y=>y.size<=UD/\k=((y.size:Int) != 0)
 |.ref p=>(∃xs,SqL K H p xs/\k = !xs.isEmpty)∨(∃xs,SqT K H p xs/\k = !xs.isEmpty) ∨ ∃kvs,H p=O (.dK kvs)/\k = !kvs.isEmpty
 |_=>False
def yf  {kvs:List (κ×V)}{vs}(r:KV kvs vs):(!vs.isEmpty) = !kvs.isEmpty:=by cases r<;>rfl
def DJ   (r:Vals xs its):(!its.toArray.isEmpty) = !xs.isEmpty:=by cases r<;>simp
noncomputable def OX:(UD:Nat)<2 ^ 63:=by rw[sizeLine_eq];decide
def BW:TruR X (λx H Q=>∃k,TruV X.K x H k/\Q k H):=by
 intro pins s σ H x v Q I rx h;obtain⟨k,e,q⟩:=h;have hl:=OX;have hs:UD=16777216:=sizeLine_eq;cases x with
 |non=>cases rx;have e':k=zR:=e;subst e';exact truthy_none ⟨H,I,q⟩
 |bl b=>cases rx;have e':k=b:=e;subst e';exact Q3 ⟨H,I,q⟩
 |int i=>obtain⟨t,rfl⟩:=rx;have e':k=(i != 0):=e;subst e';exact PySem.P.truthy_int ⟨H,I,q⟩
 |str y=>obtain⟨t,rfl⟩:=rx;obtain⟨hy,e'⟩:y.length<=UD/\k=((y.length:Int) != 0):=e;subst e';exact PySem.P.truthy_str (by omega) ⟨H,I.tok _,q⟩
 |byt y=>obtain⟨t,rfl⟩:=rx;obtain⟨hy,e'⟩:y.size<=UD/\k=((y.size:Int) != 0):=e;subst e';exact PySem.W.truthy_bytes (by omega) ⟨H,I.tok _,q⟩
 |ref p=>
  cases rx;have e'   :=e;rcases e' with ⟨xs,hx,e'⟩|⟨xs,hx,e'⟩|⟨kvs,hx,e'⟩
  .subst e'
   obtain⟨its,r,pl,hz⟩:=I.list hx;have hlen:=r.length;exact wpAny_truthy_list pl.isList (by simp only[Jh];omega) ⟨H,I.tok _,by rw[DJ r];exact q⟩
  .subst e'
   obtain⟨its,r,pl,hz⟩:=I.tuple hx;have hlen:=r.length;exact truthy_tuple pl (by simp only[Jh];omega) ⟨H,I.tok _,by rw[DJ r];exact q⟩
  .subst e'
   obtain⟨hz,hS,vs,r,m⟩:kvs.length<=UD/\(p==sysModules)=zR/\∃vs,KV kvs vs/\s.heap.DictOf (XQ X.prog X.w) p vs:=I.hok p _ hx;have hlen:kvs.length=vs.length:=Paired.length r;exact wpAny_truthy_dict hS m (by omega) ⟨H,I.tok _,by rw[yf r];exact q⟩
 |_=>exact(show False from e).elim
def xP(ha:PE X a ta)(he:∀whole,isTrue a X.env whole=(do let v ←whole;standAt a.pos;holding [v] (truthy v))) :
  PT X a (λσ H Q=>ta σ H λx H'=>∃k,TruV X.K x H' k/\Q k H'):=by
 intro pins s σ H Q I h;exact isTrue_plain (thn (ha pins s σ H _ I h) λv s1 ⟨x,H1,I1,r1,q1⟩=>BW pins s1 σ H1 x v Q I1 r1 q1) (he _)
def ye:OpR X (binaryOp .Add) (λx y H Q=>∃i j,x=.str i/\y=.str j/\i.length+j.length<=UD/\Q (.str (i++j)) H):=by intro pins s σ H x y v u Q I rx ry h;obtain⟨i,j,rfl,rfl,hz,q⟩:=h;obtain⟨t,rfl⟩:=rx;obtain⟨t',rfl⟩:=ry;exact add_str (λt' tk=>⟨.str _,H,I.tok _,⟨_,rfl⟩,q⟩) hz
def OH   (r:Vals [x] us):∃u,us=[u]/\RelV x u:=by
 cases r with
 |cons r1 r2=>cases r2;exact⟨_,rfl,r1⟩
def NZ   (r:Vals [x,y] us):∃u w',us=[u,w']/\RelV x u/\RelV y w':=by
 cases r with
 |cons r1 r2=>
  cases r2 with
  |cons r3 r4=>cases r4;exact⟨_,_,rfl,r1,r3⟩
def wN(hc:X.calm=zQ):Xn X (.builtin "max") (λxs H Q=>∃i j,xs=[.int i,.int j]/\Q (.int (if j > i then j else i)) H):=by
 intro pins s σ H xs us Q I r h;obtain⟨i,j,rfl,q⟩:=h;obtain⟨u,w',rfl,⟨t,rfl⟩,⟨t',rfl⟩⟩:=NZ r;refine max_two_ints (I.ok.hd hc) λh' tk k=>⟨_,H,I.kept k,?_,q⟩
 by_cases hj:j > i
 .rw[Qu hj,Qu hj];exact⟨_,rfl⟩
 .rw[QJ hj,QJ hj];exact⟨_,rfl⟩
def wM:Xn X (.type "int") (λxs H Q=>(∃i,xs=[.int i]/\Q (.int i) H) ∨ ∃k,xs=[.bl k]/\Q (.int (if k then 1 else 0)) H):=by
 intro pins s σ H xs us Q I r h;rcases h with ⟨i,rfl,q⟩|⟨k,rfl,q⟩
 .obtain⟨u,rfl,t,rfl⟩:=OH r
  exact call_int_int ⟨.int i,H,I,⟨_,rfl⟩,q⟩
 .obtain⟨u,rfl,r1⟩:=OH r
  cases r1;exact call_int_bool ⟨.int _,H,I.tok _,⟨_,rfl⟩,q⟩
def LenV(K:Frag)(x:V)(H:Hp)(n:Nat):Prop:=
 match x with
 |.str y=>y.length<=UD/\n=y.length
 |.byt y=>y.size<=UD/\n=y.size
 |.ref p=>(∃xs,SqL K H p xs/\n=xs.length) ∨ ∃xs,SqT K H p xs/\n=xs.length
 |_=>False
def Ef:Xn X (.builtin "len") (λxs H Q=>∃x n,xs=[x]/\LenV X.K x H n/\Q (.int n) H):=by
 intro pins s σ H xs us Q I r h;obtain⟨x,n,rfl,e,q⟩:=h;obtain⟨u,rfl,rx⟩:=OH r;have hs   :=sizeLine_eq;cases x with
 |str y=>obtain⟨t,rfl⟩:=rx;obtain⟨hy,e'⟩:y.length<=UD/\n=y.length:=e;subst e';exact len_str (by omega) ⟨.int _,H,I.tok _,⟨_,rfl⟩,q⟩
 |byt y=>obtain⟨t,rfl⟩:=rx;obtain⟨hy,e'⟩:y.size<=UD/\n=y.size:=e;subst e';exact PySem.W.len_bytes (by omega) ⟨.int _,H,I.tok _,⟨_,rfl⟩,q⟩
 |ref p=>
  cases rx;have e'   :=e;rcases e' with ⟨xs,hx,e'⟩|⟨xs,hx,e'⟩
  .subst e'
   obtain⟨its,r',pl,hz⟩:=I.list hx;have hlen:=r'.length;exact Calls.call_len_list pl.isList (by simp only[Jh];omega) ⟨.int xs.length,H,I.tok _,⟨_,by simp only[Jh];rw[hlen]⟩,q⟩
  .subst e'
   obtain⟨its,r',pl,hz⟩:=I.tuple hx;have hlen:=r'.length;exact len_tuple pl (by simp only[Jh];omega) ⟨.int xs.length,H,I.tok _,⟨_,by simp only[Jh];rw[hlen]⟩,q⟩
 |_=>exact(e).elim
end
def RelO.some_of   (r:RelO (O v) o):∃u,o=O u/\RelV v u:=by
 cases o with
 |none=>exact(r).elim
 |some u=>exact⟨u,rfl,r⟩
structure Room(k:Nat)(A:Around):Prop where
 hd:A.handled=zP
 dp:A.depth+3*k+5<recursionLimit
 un:A.units+16*k+200<cLine
 gd:A.guards=O []
def Room.mono{j k}{A}(r:Room k A)(h:j<=k):Room j A:=⟨r.hd,by have:=r.dp;omega,by have:=r.un;omega,r.gd⟩
def Room.deeper   (r:Room (k+1) A)(env):Room k (A.deeper env):=
 ⟨r.hd,by have:=r.dp;show A.depth+1+3*k+5<_;omega,by have:=r.un;show A.units+3+16*k+200<_;omega,r.gd⟩
noncomputable def Room.depth{k:Nat}{A:Around}(r:Room k A):A.depth<recursionLimit:=by have:=r.dp;omega
def Room.units{k:Nat}{A:Around}(r:Room k A):A.units+64<cLine:=by have:=r.un;omega
noncomputable def tNil:TA:=λ_ H Q=>Q [] H
noncomputable def Bf(ta:TE)(tr:TA):TA:=λσ H Q=>ta σ H λx H1=>tr σ H1 λxs H2=>Q (x::xs) H2
section
variable{X:Cx}{e:UC}{es:zV}{te:TE}{t:TA}{pos:Pos}
def Pg:PA X [] tNil:=λ_ _ _ _ H Q I h=>Calls.spliced_nil ⟨[],H,I,.nil,h⟩
def SB(ha:PE X e te)(hr:PA X es t)(hs:UF (e::es) X.env=(zR,eval e X.env)::UF es X.env:=by rfl):PA X (e::es) (Bf te t):=by intro pos pins s σ H Q I h;rw[hs];refine Calls.spliced_cons (thn (ha pins s σ H _ I h) λu s1 ⟨x,H1,I1,r1,q1⟩=>?_);exact thn (hr pos pins s1 σ H1 _ I1 q1) λus s2 ⟨xs,H2,I2,r2,q2⟩=>⟨x::xs,H2,I2,.cons r1 r2,q2⟩
def tTup(t:TA):TE:=λσ H Q=>t σ H λxs H1=>xs.length<=UD/\∀p,H1 p=zP->Q (.ref p) (upd H1 p (.tup xs))
def tLst(t:TA):TE:=λσ H Q=>t σ H λxs H1=>xs.length<=UD/\∀p,H1 p=zP->Q (.ref p) (upd H1 p (.lst xs))
def BV  (h:PA X es t):PE X (.Tuple es x1 pos) (tTup t):=by intro pins s σ H Q I hq;refine wpAny_Tuple_spliced (thn (h pos pins s σ H _ I hq) λus s1 ⟨xs,H1,I1,r,z,q⟩=>⟨by rw[←r.length];exact z,?_⟩);have hf   :=I1.hok.fresh (Qv _);refine⟨.ref s1.heap.objs.size,upd H1 s1.heap.objs.size _,I1.laid  (λb u e=>Qj _ e) (Qv _) ?_,rfl,q _ hf⟩;exact⟨z,us,r,⟨_,QF _ zO,rfl,_,rfl⟩⟩
def Hq(h:PA X es t):PE X (.List es pos) (tLst t):=by intro pins s σ H Q I hq;refine wpAny_List_spliced (thn (h pos pins s σ H _ I hq) λus s1 ⟨xs,H1,I1,r,z,q⟩=>⟨by rw[←r.length];exact z,?_⟩);have hf   :=I1.hok.fresh (Qv _);refine⟨.ref s1.heap.objs.size,upd H1 s1.heap.objs.size _,I1.laid  (λb u e=>Qj _ e) (Qv _) ?_,rfl,q _ hf⟩;exact⟨z,us,0,r,QF _ zO⟩
end
abbrev Sp:=List V->Hp->VK->XK->Prop
abbrev CXT:=List Env->Hp->Uy->XK->Ux->Uy->Prop
structure Env0(P:Uz)(w:World)(K:Frag)(mg:Str->zY)(base:Heap)(A:Around)(outer:List Env)(s:Uy)(H:Hp):Prop where
 frames:A.frames=O outer
 mod:Mod K mg base
 bs:∀b o,base.get? b=O o->s.heap.get? b=O o/\H b=zP
 bsz:base.objs.size<=s.heap.objs.size
 funs:s.heap.FunFrames base outer
 frf:∀b∈frs outer,H b=zP
 hok:HOk P w H s.heap
 bare:AllBare s.gens
def CE(outer:List Env)(P:Uz)(w:World)(H:Hp)(s:Uy)(Q:VK)(u:Ux)(s':Uy):Prop:=
 ∃v H',s'.os=s.os/\AllBare s'.gens/\Un (frs outer) [] H H' s.heap s'.heap/\HOk P w H' s'.heap/\RelV v u/\Q v H'
def CR(CX:CXT)(outer:List Env)(P:Uz)(w:World)(H:Hp)(s:Uy)(Q:VK)(E:XK)(r:Result)(s':Uy):Prop:=
 match r with
 |.ok (.ret u)=>CE outer P w H s Q u s'
 |.ok _=>False
 |.error e=>CX outer H s E e s'
structure FnOk(P:Uz)(w:World)(K:Frag)(mg:Str->zY)(base:Heap)(CX:CXT)(k:Nat)(f:UA)(fd:UB)(ps:List Str)(sp:Sp):Prop where
 len:∀vs H Q E,sp vs H Q E->vs.length=ps.length
 run:∀(A:Around)(outer:List Env)(s:Uy)(H:Hp)(args:Args)(us:zW)(vs:List V)(Q:VK)(E:XK),Room k A->Env0 P w K mg base A outer s H->BindsTo s fd args (ps.zip us)->Vals vs us->sp vs H Q E ->
  codeAny (model P w) A (.call (.ref f) args) (CR CX outer P w H s Q E) s
section
variable{X:Cx}{pins:List (UA×Obj)}{σ:St}{H:Hp}{s s':Uy}
def Inv.env0(I:Inv X pins σ H s):Env0 X.prog X.w X.K X.mg X.base X.A X.stack s H:=
 ⟨I.ok.frames,I.ok.mod,I.bs,QK I.ok.bsz I.sz,I.stack,I.stkFree,I.hok,I.bare⟩
def Inv.after   (I:Inv X pins σ H s)(h:CE X.stack X.prog X.w H s Q u s'):EP X pins σ Q u s':=by obtain⟨v,H',os,bare,un,hok,r,q⟩:=h;obtain⟨hh,g,d,t,os'⟩:=s';obtain rfl:os'=s.os:=os;exact⟨v,H',I.call      un hok bare (λb z=>absurd z (by simp)),r,q⟩
end
noncomputable def Be(sp:Sp)(dvs:List V)(E:XK)(t:TA):TE:=λσ H Q=>t σ H λvs H1=>sp (vs++dvs) H1 Q E
def T2(K:Frag)(fd:UB)(ps:List Str)(ds:zW):Prop:=
 ∀(s:Uy)(us:zW),K.In s.heap->(us++ds).length=ps.length->BindsTo s fd ⟨us,[]⟩ (ps.zip (us++ds))
def T2.all{K}{fd}{ps}(h:∀us:zW,us.length=ps.length->bindArgs fd ⟨us,[]⟩=pure (ps.zip us)):T2 K fd ps []:=λs us _ hl=>by rw[Jg]at hl⊢;exact .of_eq (h us hl)
def Mi(CX:CXT)(X:Cx)(E:XK):Prop:=∀(pins:List (UA×Obj))(σ:St)(H:Hp)(s:Uy)(e:Ux)(s':Uy),Inv X pins σ H s->CX X.stack H s E e s'->X.xe e s'
section
variable{X:Cx}{CX:CXT}{k:Nat}{f C:UA}{fd:UB}{ps:List Str}{sp:Sp}{dvs:List V}{ds:zW}{E:XK}{x m:Str}{p pos apos:Pos}{e o:UC}{es:zV}{ta:TE}{t:TA}
def BU  {σ:St}{H:Hp}{s:Uy}{Q:VK}{us}{vs}(F:FnOk X.prog X.w X.K X.mg X.base CX k f fd ps sp)(hr:Room k X.A)(hb:T2 X.K fd ps ds)(hd:Vals dvs ds)(hx:Mi CX X E)
  (I:Inv X pins σ H s) (r:Vals vs us) (h:sp (vs++dvs) H Q E):UE (model X.prog X.w) X.A (call (.ref f) us) (EP X pins σ Q) X.xe s:=by
 have r2   :=r.append hd;have hl:(us++ds).length=ps.length:=by rw[←r2.length];exact F.len _ _ _ _ h
 refine wpAny_call (codeAny_mono (F.run X.A X.stack s H ⟨us,[]⟩ _ _ Q E hr I.env0 (hb s us I.kIn hl) r2 h) λr s' hq=>?_);cases r with
 |error e=>exact hx pins σ H s e s' I hq
 |ok fl=>
  cases fl with
  |ret u=>exact I.after hq
  |next=>exact False.elim hq
  |brk=>exact False.elim hq
  |cont=>exact False.elim hq
def jR(F:FnOk X.prog X.w X.K X.mg X.base CX k f fd ps sp)(hr:Room k X.A)(hg:Gl X x)(hm:X.mg x=O (.ref f))(hk:PySem.W.keepIn X.K (.ref f)=zQ)(hb:T2 X.K fd ps ds)(hd:Vals dvs ds)(hx:Mi CX X E)
  (ha:PA X (e::es) t) (hdb:(x==("__debug__" : Str))=zR:=by decide) (he:UF (e::es) X.env=(zR,eval e X.env)::UF es X.env:=by rfl) (hpl:(backTo pos (UF es X.env)).any (·.1)=zR:=by rfl) :
  PE X (.Call (.Name x p) (e::es) [] pos) (Be sp dvs E t):=by
 intro pins s σ H Q I h;refine wpAny_Call_Name_kw (Fw I hg hm ?_ hdb);refine PySem.W.callWith_K  I.ok.mod.kin hk (thn (ha pos pins s σ H _ I h) λus s1 ⟨vs,H1,I1,r,q⟩=>⟨I1.kIn,?_⟩) he hpl;exact BU F hr hb hd hx I1 r q
end
structure Og(N P:List Str)(sc:Scope):Prop where
 kind:sc.kind=.function
 co:sc.isCoroutine=zR
 gen:sc.isGenerator=zR
 nd:N.Nodup
 pre:N.take P.length=P
 par:∀x∈P,sc.names.lookup x=O .local∨sc.names.lookup x=O .cell
 nofree:∀y∈sc.names,y.2≠.free
theorem EV{kindOf}{x}:∀{binds}{m},(∀v,(x,v)∉binds)->bindL kindOf binds m x=m x
 |[],_,_=>rfl
 |(n,v)::r,m,h=>by
  unfold bindL;rw[EV λw hw=>h w (Qk _ hw)];split
  .have:x≠n:=by rintro rfl;exact h v Ql
   simp[this]
  .rfl
theorem EU{kindOf}{x}:∀{binds}{m},(∀v,(x,v)∉binds)->bindC kindOf binds m x=m x
 |[],_,_=>rfl
 |(n,v)::r,m,h=>by
  unfold bindC;rw[EU λw hw=>h w (Qk _ hw)];split
  .rfl
  .have:x≠n:=by rintro rfl;exact h v Ql
   simp[this]
theorem ET{kindOf}{x}{v}:∀{P:List Str}{vs}{i:Nat}{m},P.Nodup->P[i]?=O x->vs[i]?=O v->kindOf x=O .local ->
  bindL kindOf (P.zip vs) m x=O v
 |[],_,_,_,_,h,_,_=>by simp at h
 |_::_,[],_,_,_,_,h,_=>by simp at h
 |p::P,w::vs,0,m,nd,h1,h2,hk=>by simp at h1 h2;subst h1;subst h2;show bindL kindOf ((p,w)::P.zip vs) m p=_;unfold bindL;rw[EV λv hv=>(Um.mp nd).1 (JT hv).1,Qu hk];simp
 |p::P,w::vs,i+1,m,nd,h1,h2,hk=>by unfold bindL;exact ET  (List.nodup_cons.mp nd).2 (by simpa using h1) (by simpa using h2) hk
theorem ES{kindOf}{x}{v}:∀{P:List Str}{vs}{i:Nat}{m},P.Nodup->P[i]?=O x->vs[i]?=O v->kindOf x≠O .local ->
  bindC kindOf (P.zip vs) m x=O v
 |[],_,_,_,_,h,_,_=>by simp at h
 |_::_,[],_,_,_,_,h,_=>by simp at h
 |p::P,w::vs,0,m,nd,h1,h2,hk=>by simp at h1 h2;subst h1;subst h2;show bindC kindOf ((p,w)::P.zip vs) m p=_;unfold bindC;rw[EU λv hv=>(Um.mp nd).1 (JT hv).1,QJ hk];simp
 |p::P,w::vs,i+1,m,nd,h1,h2,hk=>by unfold bindC;exact ES  (List.nodup_cons.mp nd).2 (by simpa using h1) (by simpa using h2) hk
noncomputable def WZ(N:List Str)(vs:List V):St:=vs.map O++UI (N.length-vs.length) zP
noncomputable def X3(CX:CXT)(P:Uz)(w:World)(K:Frag)(mg:Str->zY)(base:Heap)(N:List Str)(qual:Str)(scope:Scope)(f:UA)(cd:Ux)(A:Around)(outer:List Env)(s:Uy)(H:Hp)(E:XK):Cx where
 prog:=P
 w:=w
 K:=K
 mg:=mg
 base:=base
 A:=A.deeper (envOfC qual scope s.heap.objs.size f cd)
 N:=N
 s₀:=s
 H₀:=H
 env:=envOfC qual scope s.heap.objs.size f cd
 outer:=outer
 stack:=envOfC qual scope s.heap.objs.size f cd::outer
 ex:=[]
 calm:=zQ
 fn:=λ_=>zQ
 pn:=[]
 xe:=λe s'=>UE (model P w) (A.deeper (envOfC qual scope s.heap.objs.size f cd)) (leaving (envOfC qual scope s.heap.objs.size f cd) e) (λ_ s''=>CX outer H s E e s'') (λe' s''=>CX outer H s E e' s'') s'
noncomputable def MU{sc:Scope}{n}{x}(h:sc.names.lookup x=O .cell):∃c,(cellsFrom n sc.names []).lookup x=O c:=by have q:=PySem.W.cellsFrom_some sc.names n [] (.inl h);exact Option.isSome_iff_exists.mp q
def wL{CX:CXT}{P:Uz}{w:World}{K:Frag}{mg:Str->zY}{base:Heap}{N ps:List Str}{qual:Str}{scope:Scope}{f:UA}{cd:Ux}{A:Around}{outer:List Env}{s s1:Uy}{H:Hp}{E:XK}{us:zW}{vs:List V}
  (S:Og N ps scope) (hd:A.handled=zP) (e0:Env0 P w K mg base A outer s H) (hl:vs.length=ps.length) (r:Vals vs us)
  (x:InCallC s s.heap.objs.size (bindL (envOfC qual scope s.heap.objs.size f cd).kindOf (ps.zip us) λ_=>zP) (cellsFrom (s.heap.objs.size+1) scope.names []) (bindC (envOfC qual scope s.heap.objs.size f cd).kindOf (ps.zip us) λ_=>zP) s1) :
  Inv (X3 CX P w K mg base N qual scope f cd A outer s H E) [] (WZ N vs) H s1:=by
 have hpl:ps.length<=N.length:=by have:=J5 List.length S.pre;rw[QY]at this;omega
 obtain⟨h1,tk,rfl,hk⟩:=x.done;have noA:∀b:UA,b∉(X3 CX P w K mg base N qual scope f cd A outer s H E).ex:=λb z=>absurd (show b∈([]:zX)from z) (by simp)
 refine⟨⟨e0.mod,S.kind,rfl,rfl,Qv _,λy z c h1 h2=>?_,λy hy=>?_,λy c _ h=>?_,λ_=>hd,Around.frames_deeper e0.frames,.inr ⟨rfl,rfl⟩,λb z=>absurd z (noA b),e0.bs,e0.bsz,λb _ _=>noA b,λb z=>absurd z (noA b),e0.funs,e0.frf⟩,
  rfl,e0.bare,Un.kept hk,⟨_,x.toInCall.ns,λi y v h1 h2 h3=>?_⟩,λy c h=>⟨_,x.cell y c h⟩,e0.hok.fresh (Nat.le_refl _),λy c h=>?_,λp hp=>absurd (show p∈([]:List (UA×Obj))from hp) (by simp),e0.hok.kept hk,?_⟩
 .exact name_of_addr x.apart (Ji h1) (Ji h2)
 .rcases hy with hy|hy
  .exact MU hy
  .exact absurd zO (S.nofree _ (Ji hy))
 .exact Us (x.above y c (Ji h))
 .have hi:i<vs.length:=by
   unfold WZ at h2;by_cases hi:i<vs.length
   .exact hi
   .rw[List.getElem?_append_right (by simpa using hi)]at h2
    rw[QA]at h2;split at h2<;>cases h2
  have ha:vs[i]?=O v:=by
   unfold WZ at h2;rw[List.getElem?_append_left (by simpa using hi),List.getElem?_map]at h2;cases e:vs[i]? with
   |none=>rw[e]at h2;cases h2
   |some a=>rw[e]at h2;cases h2;rfl
  obtain⟨u,hu,rv⟩:=r.get ha;have hp:ps[i]?=O y:=by rw[←S.pre,List.getElem?_take_of_lt (by omega)];exact h1
  have ndP:ps.Nodup:=by rw[←S.pre];exact S.nd.sublist (List.take_sublist _ _)
  refine⟨u,rv,?_⟩;rcases S.par y (Qr hp)with k|k
  .exact .inl ⟨k,ET ndP hp hu k⟩
  .obtain⟨c,e⟩:=MU  k
   refine .inr ⟨.inl k,c,e,?_⟩;have q:=x.cell y c e;rw[ES ndP hp hu (by show scope.names.lookup y≠_;rw[k];decide)]at q;exact q
 .exact e0.hok.fresh (Us (x.above y c (Ji h)))
 .unfold WZ
  show _=N.length;rw[Qi,Qb,QO];omega
def Bd{CX:CXT}{P:Uz}{w:World}{K:Frag}{mg}{base:Heap}{k:Nat}{f:UA}{name qual:Str}{params:Arguments}{body:List Stmt}{scope:Scope}{dV kV doc pm cdv ct oc:Ux}{an od:af}
  {osl} {N ps:List Str} {sp:Sp} (lk:K.lookup f=O ⟨oc,od,.func (PySem.W.fnOf name qual params body scope dV kV doc pm an cdv ct),osl⟩) (hcd:PySem.W.codeIn K cdv qual=zQ) (S:Og N ps scope)
  (len:∀vs H Q E,sp vs H Q E->vs.length=ps.length)
  (hbody:∀(A:Around)(outer:List Env)(s:Uy)(H:Hp)(vs:List V)(Q:VK)(E:XK),Room k (A.deeper (envOfC qual scope s.heap.objs.size f cdv))->sp vs H Q E ->
   ∃t,PSs (X3 CX P w K mg base N qual scope f cdv A outer s H E) body t/\t {nx:=λ_ H'=>Q .non H',rt:=Q} (WZ N vs) H) :
  FnOk P w K mg base CX (k+1) f (PySem.W.fnOf name qual params body scope dV kV doc pm an cdv ct) ps sp:=by
 refine⟨len,λA outer s H args us vs Q E hr e0 hb r bO=>?_⟩;have hl:=len _ _ _ _ bO;have KX:K.In s.heap:=e0.mod.kin.keeps λb o e=>(e0.bs b o e).1;have lim:s.heap.NoLimit:=e0.mod.nolimit.keeps λb o e=>(e0.bs b o e).1
 have hkind:∀y∈ps.zip us,scope.names.lookup y.1=O .local∨(scope.names.lookup y.1=O .cell/\((cellsFrom (s.heap.objs.size+1) scope.names []).lookup y.1).isSome=zQ):=λ⟨n,v⟩ hy=>by
  rcases S.par n (JT hy).1 with q|q
  .exact .inl q
  .exact .inr ⟨q,PySem.W.cellsFrom_some _ _ _ (.inl q)⟩
 refine codeAny_call_function hr.depth (KX _ _ lk) zO S.co S.gen zO (PySem.W.codeRec_of KX hcd) (hb _ _ _ _ ?_);refine wpAny_newFunctionEnv_cells S.kind hkind λenv he s1 x=>?_;subst he
 refine⟨lim.keeps x.toInCall.keep,codeAny_func ?_⟩;obtain⟨t,ht,hq⟩:=hbody A outer s H vs Q E (hr.deeper _) bO;have I:Inv (X3 CX P w K mg base N qual scope f cdv A outer s H E) [] (WZ N vs) H s1:=wL S hr.hd e0 hl r x;refine QS (ht [] s1 (WZ N vs) H _ I hq) (λfl s' hs=>?_) λe s' hs=>hs
 have fin:∀{σ':St}{H':Hp}{v:V}{u:Ux},Inv (X3 CX P w K mg base N qual scope f cdv A outer s H E) [] σ' H' s'->RelV v u->Q v H'->CE outer P w H s Q u s':=
  λ{σ' H' v u} J rv q=>⟨v,H',J.os,J.bare,J.base,J.hok,rv,q⟩
 cases fl with
 |ret u=>obtain⟨v,σ',H',J,rv,q⟩:=hs;exact fin J rv q
 |next=>obtain⟨σ',H',J,q⟩:=hs;exact fin (v:=V.non)  J zO q
 |brk=>obtain⟨_,_,_,q⟩:=hs;exact False.elim q
 |cont=>obtain⟨_,_,_,q⟩:=hs;exact False.elim q
section
variable{X:Cx}{x:Str}{p pos:Pos}{e:UC}{es:zV}{t:TA}{id T:String}{r:List V->Hp->VK->Prop}
noncomputable def tCB(r:List V->Hp->VK->Prop)(t:TA):TE:=λσ H Q=>t σ H λvs H1=>r vs H1 Q
def Nx(hc:Xn X (.builtin id) r)(hg:Gl X x)(hm:X.mg x=zP)(hv:bootBuiltins x=O (.builtin id))(ha:PA X (e::es) t)(hn:x ≠ "__name__" :=by decide)(hdb:(x==("__debug__" : Str))=zR:=by decide)
  (he:UF (e::es) X.env=(zR,eval e X.env)::UF es X.env:=by rfl) (hpl:(backTo pos (UF es X.env)).any (·.1)=zR:=by rfl):PE X (.Call (.Name x p) (e::es) [] pos) (tCB r t):=by
 intro pins s σ H Q I h;refine wpAny_Call_Name_kw (T8 I hg hm hv ?_ hn hdb);exact PyProof.Rows.callWith_builtin1 (thn (ha pos pins s σ H _ I h) λus s1 ⟨vs,H1,I1,r1,q1⟩=>hc pins s1 σ H1 vs us Q I1 r1 q1) he hpl
def Lo(hc:Xn X (.type T) r)(hg:Gl X x)(hm:X.mg x=zP)(hv:bootBuiltins x=O (.type T))(ha:PA X (e::es) t)(hn:x ≠ "__name__" :=by decide)(hdb:(x==("__debug__" : Str))=zR:=by decide)
  (he:UF (e::es) X.env=(zR,eval e X.env)::UF es X.env:=by rfl) (hpl:(backTo pos (UF es X.env)).any (·.1)=zR:=by rfl):PE X (.Call (.Name x p) (e::es) [] pos) (tCB r t):=by
 intro pins s σ H Q I h;refine wpAny_Call_Name_kw (T8 I hg hm hv ?_ hn hdb);exact JM (thn (ha pos pins s σ H _ I h) λus s1 ⟨vs,H1,I1,r1,q1⟩=>hc pins s1 σ H1 vs us Q I1 r1 q1) he hpl
end
end L2
namespace HT
open PySem PyProof.Rows
section
variable{prog:Uz}{w:World}{A:Around}{E:Ux->Uy->Prop}{s:Uy}
noncomputable def sIx(n d:Nat):zZ->Nat
 |none=>d
 |some v=>if v<0 then(v+(n:Int)).toNat else min v.toNat n
end
end HT
namespace L2
open PySem PySem.Spec PyProof.Rows
abbrev TO:=St->Hp->(zZ->Hp->Prop)->Prop
def PO(X:Cx)(e:Option UC)(t:TO):Prop:=
 ∀(pins:List (UA×Obj))(s:Uy)(σ:St)(H:Hp)(Q:zZ->Hp->Prop),Inv X pins σ H s->t σ H Q ->
  UE (model X.prog X.w) X.A (evalPart e X.env) (λu s'=>∃o H',Inv X pins σ H' s'/\IsPart u o/\Q o H') X.xe s
noncomputable def jQ:TO:=λ_ H Q=>Q zP H
noncomputable def Bc(t:TE):TO:=λσ H Q=>t σ H λx H1=>∃i,x=.int i/\Q (O i) H1
section
variable{X:Cx}{e:UC}{te:TE}{lo hi:Option UC}{tl th:TO}{pos p2:Pos}
def jP:PO X zP jQ:=by intro pins s σ H Q I h;exact Qo ⟨zP,H,I,.none,h⟩
def jO(h:PE X e te):PO X (O e) (Bc te):=by
 intro pins s σ H Q I hw;refine thn (h pins s σ H _ I hw) λu s1 ⟨x,H1,I1,r1,q1⟩=>?_
 obtain⟨i,rfl,q⟩:=q1;obtain⟨t,rfl⟩:=r1;exact⟨O i,H1,I1,.int i t,q⟩
def SlR(X:Cx)(r:V->zZ->zZ->Hp->VK->Prop):Prop:=
 ∀(pins:List (UA×Obj))(s:Uy)(σ:St)(H:Hp)(x:V)(v vl vu:Ux)(lo hi:zZ)(sl:UA)(Q:VK),Inv X pins σ H s->RelV x v->s.heap.IsSliceOf sl vl vu .none->IsPart vl lo->IsPart vu hi->r x lo hi H Q ->
  ∃T id,typeLookup (.type T) "__getitem__" = pure (O (.builtin id))/\s.TypeIs v T/\UE (model X.prog X.w) X.A (getItem v (.ref sl)) (EP X pins σ Q) X.xe s
noncomputable def SlR.or  (h:SlR X r)(h':SlR X r'):SlR X (λx lo hi H Q=>r x lo hi H Q∨r' x lo hi H Q):=by
 intro pins s σ H x v vl vu lo hi sl Q I rx hs pl pu q;rcases q with q|q
 .exact h pins s σ H x v vl vu lo hi sl Q I rx hs pl pu q
 .exact h' pins s σ H x v vl vu lo hi sl Q I rx hs pl pu q
noncomputable def tSl(r:V->zZ->zZ->Hp->VK->Prop)(te:TE)(tl th:TO):TE:=λσ H Q=>te σ H λx H1=>tl σ H1 λl H2=>th σ H2 λu H3=>r x l u H3 Q
def ku  (hr:SlR X r)(he:PE X e te)(hl:PO X lo tl)(hu:PO X hi th):PE X (.Subscript e (.Slice lo hi zP p2) pos) (tSl r te tl th):=by
 intro pins s σ H Q I h;refine Subscript_ (thn (he pins s σ H _ I h) λv s1 ⟨x,H1,I1,r1,q1⟩=>?_);refine wpAny_Slice (thn (hl pins s1 σ H1 _ I1 q1) λvl s2 ⟨l,H2,I2,pl,q2⟩=>thn (hu pins s2 σ H2 _ I2 q2) λvu s3 ⟨u,H3,I3,pu,q3⟩=>?_);refine Qo ?_;have I4:Inv X pins σ H3 {s3 with heap:=s3.heap.push {cls:=.type "slice", data:=.fields #[vl,vu,.none]}}:=I3.kept  λb ob q=>Qj _ q
 obtain⟨T,id,hT,ht,hg⟩:=hr pins {s3 with heap:=s3.heap.push {cls:=.type "slice", data:=.fields #[vl,vu,.none]}} σ H3 x v vl vu l u s3.heap.objs.size Q I4 r1 (Heap.IsSliceOf.new ..) pl pu q3;exact tail_any  ht hT hg (by with_unfolding_all rfl)
def Vc(xs:List V)(lo hi:zZ):List V:=(xs.drop (HT.sIx xs.length 0 lo)).take (HT.sIx xs.length xs.length hi-HT.sIx xs.length 0 lo)
def yP(xs)(lo hi):(Vc xs lo hi).length<=xs.length:=by unfold Vc;rw[QY,Q8];omega
end
noncomputable def ixN(n:Nat)(i:Int):Option Nat:=if 0<=i then(if i<n then O i.toNat else zP)else if -(n:Int)<=i then O (i+n).toNat else zP
def atI{α:Type}(xs:List α)(i:Int):Option α:=(ixN xs.length i).bind λj=>xs[j]?
def qN    (h:ixN n i=O j):seqIndex? i n=O j/\j<n /\ -(n:Int)<=i/\i<n:=by
 unfold ixN at h;by_cases h0:0<=i
 .rw[Qu h0]at h
  by_cases h1:i<n
  .rw[Qu h1]at h
   have e   :=Ja h;exact⟨by rw[seqIndex_of h0 h1,e],by omega,by omega,h1⟩
  simp_all
 .rw[QJ h0]at h
  by_cases h1 : -(n)<=i
  .rw[Qu h1]at h
   have e   :=Ja h;exact⟨by rw[seqIndex_neg (by omega) h1,e],by omega,h1,by omega⟩
  .rw[QJ h1]at h;cases h
def ML    {v:α}(h:atI xs i=O v):∃j,seqIndex? i xs.length=O j/\xs[j]?=O v/\j<xs.length /\ -(xs.length:Int)<=i/\i<xs.length:=by
 unfold atI at h;cases e:ixN xs.length i with
 |none=>simp_all
 |some j=>rw[e]at h;obtain⟨h1,h2,h3,h4⟩:=qN e;exact⟨j,h1,h,h2,h3,h4⟩
def Zv   {j:Nat}{v:α}(h:xs[j]?=O v):atI xs (j:Int)=O v:=by
 have hj   :=(Qg.mp h).1;have e:ixN xs.length (j)=O j:=by unfold ixN;simp_all
 unfold atI;rw[e];exact h
def MK(b:UC):Prop:=∀o i,subscripted b zR o i=operate [o,i] (getItem o i)
def IxR(X:Cx)(r:R2):Prop:=
 ∀(value slice:UC)(pins:List (UA×Obj))(s:Uy)(σ:St)(H:Hp)(x y:V)(v u:Ux)(Q:VK),Inv X pins σ H s->RelV x v->RelV y u->r x y H Q ->
  subscripted slice zR v u=operate [v,u] (getItem v u)->UE (model X.prog X.w) X.A (subscriptTail value slice v u) (EP X pins σ Q) X.xe s
def MtR(X:Cx)(id:String)(r:V->List V->Hp->VK->Prop):Prop:=
 ∀(pins:List (UA×Obj))(s:Uy)(σ:St)(H:Hp)(x:V)(xs:List V)(v:Ux)(us:zW)(Q:VK),Inv X pins σ H s->RelV x v->Vals xs us->r x xs H Q ->
  UE (model X.prog X.w) X.A (call (.builtin id) (v::us)) (EP X pins σ Q) X.xe s
section
variable{X:Cx}{a b:UC}{ta tb:TE}{pos:Pos}
noncomputable def IxR.or  (h:IxR X r)(h':IxR X r'):IxR X (λx y H Q=>r x y H Q∨r' x y H Q):=by
 intro value slice pins s σ H x y v u Q I rx ry q hs;rcases q with q|q
 .exact h value slice pins s σ H x y v u Q I rx ry q hs
 .exact h' value slice pins s σ H x y v u Q I rx ry q hs
def Hb  (hr:IxR X r)(ha:PE X a ta)(hb:PE X b tb)(hs:MK b):PE X (.Subscript a b pos) (tOp r ta tb):=by intro pins s σ H Q I h;exact Subscript_ (RS ha hb I h λv u s2 x y H2 I2 rx ry q=>hr a b pins s2 σ H2 x y v u Q I2 rx ry q (hs _ _))
def rIxL(K:Frag):R2:=λx y H Q=>∃p xs i v,x=.ref p/\y=.int i/\SqL K H p xs/\atI xs i=O v/\Q v H
def rIxT(K:Frag):R2:=λx y H Q=>∃p xs i v,x=.ref p/\y=.int i/\SqT K H p xs/\atI xs i=O v/\Q v H
def rIxS:R2:=λx y H Q=>∃z i c,x=.str z/\y=.int i/\z.length<=UD/\atI z.cps.toList i=O c/\Q (.str ⟨#[c]⟩) H
def qM:IxR X (rIxL X.K):=by
 intro value slice pins s σ H x y v u Q I rx ry h hs;obtain⟨p,xs,i,z,rfl,rfl,hq,he,q⟩:=h;cases rx;obtain⟨t,rfl⟩:=ry;obtain⟨its,r,pl,hz⟩:=I.list hq;obtain⟨j,h1,h2,h3,h4,h5⟩:=ML he;obtain⟨w,ew,ay⟩:=r.get h2;have hl:=r.length;have hn:=OX;have fin:EP X pins σ Q w s:=⟨z,H,I,ay,q⟩
 by_cases h0:0<=i
 .have hj   :=by
   rw[seqIndex_of h0 h5]at h1;exact Ja h1
  exact item_listR pl.isList h0 (by omega) (by rw[hj];simpa using ew) fin hs
 .have hj:(i+(its.toArray.size:Int)).toNat=j:=by
   rw[seqIndex_neg (by omega) h4]at h1;rw[Jh,←hl];exact Ja h1
  exact subscriptTail_builtinR (x:=w) pl.isList.typeIs slot_list_getitem.lookup
   (wpAny_getItem_list_neg  pl.isList (by omega) (by rw[List.size_toArray]<;>omega) (by omega) (by rw[hj];simpa using ew) ⟨rfl,fin⟩) hs
def BS:IxR X (rIxT X.K):=by
 intro value slice pins s σ H x y v u Q I rx ry h hs;obtain⟨p,xs,i,z,rfl,rfl,hq,he,q⟩:=h;cases rx;obtain⟨t,rfl⟩:=ry;obtain⟨its,r,pl,hz⟩:=I.tuple hq;obtain⟨j,h1,h2,h3,h4,h5⟩:=ML he;obtain⟨w,ew,ay⟩:=r.get h2;have hl:=r.length;have hn:=OX;have fin:EP X pins σ Q w s:=⟨z,H,I,ay,q⟩
 exact subscriptTail_builtinR  pl.typeIs slot_tuple_getitem.lookup
  (getItem_tuple   pl (by omega) (by omega) (by rw[List.size_toArray,←hl];exact h1) (by simpa using ew) ⟨rfl,fin⟩) hs
def BR:IxR X rIxS:=by
 intro value slice pins s σ H x y v u Q I rx ry h hs;obtain⟨z,i,c,rfl,rfl,hz,he,q⟩:=h;obtain⟨t,rfl⟩:=rx;obtain⟨t',rfl⟩:=ry;obtain⟨j,h1,h2,h3,h4,h5⟩:=ML he;have hl:z.cps.toList.length=z.length:=by simp[Str.length]
 rw[hl]at h1 h4 h5;have hn:=OX;exact tail_any (typeIs_str s z t) slot_str_getitem.lookup (getItem_str  (by have e1:decide (i < -(2 ^ 63:Int))=zR:=QG (by omega);have e2:decide (i ≥ 2 ^ 63)=zR:=QG (by omega);rw[e1,e2,Bool.or_false]) (by rw[h1];simpa using h2) ⟨.str ⟨#[c]⟩,H,I.tok _,⟨_,rfl⟩,q⟩) hs
def rIx(K:Frag):R2:=λx y H Q=>rIxL K x y H Q∨rIxT K x y H Q∨rIxS x y H Q
def Hn:IxR X (rIx X.K):=qM.or (BS.or BR)
def zd(lo hi)(n):(sliceBounds lo hi zP n).1=((HT.sIx n 0 lo:Nat):Int)/\(sliceBounds lo hi zP n).2.1=((HT.sIx n n hi:Nat):Int)/\(sliceBounds lo hi zP n).2.2=1:=by
 refine⟨?_,?_,rfl⟩
 .cases lo with
  |none=>simp[sliceBounds,HT.sIx]
  |some i=>
   simp only[sliceBounds,HT.sIx,Option.getD_none,show(1:Int) > 0 by decide,if_true];by_cases h:i<0
   .simp only[h,if_true]<;>omega
   .simp only[h,if_false]<;>omega
 .cases hi with
  |none=>simp[sliceBounds,HT.sIx]
  |some i=>
   simp only[sliceBounds,HT.sIx,Option.getD_none,show(1:Int) > 0 by decide,if_true];by_cases h:i<0
   .simp only[h,if_true]<;>omega
   .simp only[h,if_false]<;>omega
def zp(its:zW)(lo hi):slicePick its.toArray lo hi zP=((its.drop (HT.sIx its.length 0 lo)).take (HT.sIx its.length its.length hi-HT.sIx its.length 0 lo)).toArray:=by obtain⟨h1,h2,h3⟩:=zd lo hi its.toArray.size;unfold slicePick;rw[h1,h2,h3];simp only[sliceRange_one,pick_run]<;>rfl
def rSlL(K:Frag):V->zZ->zZ->Hp->VK->Prop:=λx lo hi H Q=>∃a xs,x=.ref a/\SqL K H a xs/\∀p,H p=zP->Q (.ref p) (upd H p (.lst (Vc xs lo hi)))
def qL:SlR X (rSlL X.K):=by intro pins s σ H x v vl vu lo hi sl Q I rx hs pl pu h;obtain⟨a,xs,rfl,hx,q⟩:=h;cases rx;obtain⟨its,r,ht,hz⟩:=I.list hx;have hlen:=r.length;refine⟨"list", _,slot_list_getitem.lookup,ht.isList.typeIs,?_⟩;refine wpAny_getItem_list_slice ht.isList hs pl pu .none (by simp) ?_ (by grind);rw[zp,←hlen];refine⟨.ref s.heap.objs.size,_,I.laid   (λb ob q=>Qj _ q) (Qv _) ?_,rfl,q _ (I.hok.fresh (Qv _))⟩;exact⟨QK (yP xs lo hi) hz,_,0,(r.drop _).take _,QF _ zO⟩
def za:Xn X (.type "list") (λxs H Q=>∃p ys,xs=[.ref p]/\(SqL X.K H p ys∨SqT X.K H p ys)/\∀l,H l=zP->Q (.ref l) (upd H l (.lst ys))):=by
 intro pins s σ H xs us Q I r h;obtain⟨p,ys,rfl,hq,q⟩:=h;obtain⟨u,rfl,rx⟩:=OH r;cases rx
 have fin:∀(its:zW),Vals ys its->ys.length<=UD->∀(h':Heap)(c':Nat),_ ->
   h'.get? s.heap.objs.size=O {cls:=.type "list", dict:=zP,data:=.seq its.toArray c',slots:=#[]}->EP X pins σ Q _ {s with heap:=h'}:=λits r' hz h' c' kp e=>
  ⟨.ref s.heap.objs.size,_,I.laid  kp (Qv _) (show YU X.prog X.w _ h' _ (.lst ys)from⟨hz,its,c',r',e⟩),rfl,q _ (I.hok.fresh (Qv _))⟩
 rcases hq with hq|hq
 .obtain⟨its,r',pl,hz⟩:=I.list hq
  have hlen:=r'.length;obtain⟨o,ho,hc,n,hd⟩:=pl.isList;exact call_list_seq p (.inl zO) ho hc hd (λh' c' kp e=>fin its r' hz h' c' kp e) (by simp_all)
 .obtain⟨its,r',pl,hz⟩:=I.tuple hq
  have hlen:=r'.length;obtain⟨o,ho,hc,n,hd⟩:=pl;exact call_list_seq p (.inr zO) ho hc hd (λh' c' kp e=>fin its r' hz h' c' kp e) (by simp_all)
def tyV(K:Frag)(T:String)(x:V)(H:Hp):Prop:=match x with
 |.str _=>T = "str"
 |.int _=>T = "int"
 |.ref p=>(T = "list" /\ ∃xs,SqL K H p xs)∨(T = "tuple" /\ ∃o,K.lookup p=O o/\o.cls=.type "tuple" /\ o.dict=zP) ∨
   (T = "dict" /\ ((∃kvs,H p=O (.dK kvs)) ∨ ∃kvs,H p=O (.dT kvs)))∨(T = "set" /\ ∃S n,H p=O (.set S n))
 |_=>False
def BQ  {σ:St}{H:Hp}{s:Uy}{T:String}{x:V}{v:Ux}(I:Inv X pins σ H s)(r:RelV x v)(ty:tyV X.K T x H) :
  s.TypeIs v T/\∀a,v=.ref a->∃ob,s.heap.get? a=O ob/\ob.dict=zP:=by
 cases x with
 |str z=>obtain⟨t,rfl⟩:=r;cases (ty);exact⟨typeIs_str s z t,λ_ e=>nomatch e⟩
 |int i=>obtain⟨t,rfl⟩:=r;cases (ty);exact⟨typeIs_int s i t,λ_ e=>nomatch e⟩
 |ref p=>
  cases r;rcases ty with ⟨rfl,xs,hq⟩|⟨rfl,o,hk,hc,hd⟩|⟨rfl,hk⟩|⟨rfl,S,n,hk⟩
  .obtain⟨its,_,pl,_⟩:=I.list hq
   refine⟨pl.isList.typeIs,λa e=>?_⟩;cases e;obtain⟨o,n,e,c,hd,_⟩:=pl;exact⟨o,e,hd⟩
  .refine⟨⟨o,I.kIn p o hk,hc⟩,λa e=>?_⟩
   cases e;exact⟨o,I.kIn _ o hk,hd⟩
  .have z:∃o,s.heap.get? p=O o/\o.ExactDict:=by
    rcases hk with ⟨kvs,hk⟩|⟨kvs,hk⟩
    .obtain⟨_,_,_,_,o,_,_,e,ex,_⟩:=I.hok p _ hk
     exact⟨o,e,ex⟩
    .obtain⟨_,_,_,_,o,_,_,e,ex,_⟩:=I.hok p _ hk
     exact⟨o,e,ex⟩
   obtain⟨o,e,ex⟩:=z;refine⟨⟨o,e,ex.1⟩,λa e2=>?_⟩;cases e2;exact⟨o,e,ex.2.1⟩
  .obtain⟨o,_,_,_,e,ex,_⟩:=I.hok p _ hk
   refine⟨⟨o,e,ex.1⟩,λa e2=>?_⟩;cases e2;exact⟨o,e,ex.2.1⟩
 |_=>exact False.elim ty
noncomputable def tBM(K:Frag)(T:String)(r:V->List V->Hp->VK->Prop)(to:TE)(t:TA):TE:=λσ H Q=>to σ H λx H1=>tyV K T x H1/\t σ H1 λxs H2=>r x xs H2 Q
variable{o e:UC}{es:zV}{to:TE}{t:TA}{name:Str}{apos cpos:Pos}{T id:String}{r:V->List V->Hp->VK->Prop}
def NS(pa:PlainAttrs T)(slot:Slot T name id)(hty:typeOf (.builtin id)=pure (.type "method_descriptor"))(hm:MtR X id r)(ho:PE X o to)(ha:PA X (e::es) t)
  (hbase:attributeBase o name X.env (eval o X.env)=eval o X.env:=by rfl)
  (hfew:((backTo cpos (UF (e::es) X.env)).all (λx=>!x.1)&&(backToKw cpos (keywordEach [] X.env)).all (λx=>x.1.isSome)
   && decide ((e::es).length+([]:List Keyword).length+(if([]:List Keyword).isEmpty then 0 else 1)<30))=zQ:=by rfl)
  (hline:(apos.endLine==cpos.line)=zQ:=by rfl) (hs:UF (e::es) X.env=(zR,eval e X.env)::UF es X.env:=by rfl) (hplain:(backTo cpos (UF es X.env)).any (·.1)=zR:=by rfl) :
  PE X (.Call (.Attribute o name apos) (e::es) [] cpos) (tBM X.K T r to t):=by
 intro pins s σ H Q I h;refine wpAny_Call_method_late hbase hfew hline zO (thn (ho pins s σ H _ I h) λv s1 ⟨x,H1,I1,r1,ty,q1⟩=>?_);obtain⟨h1,h2⟩:=BQ I1 r1 ty;refine⟨T,id,pa,slot,hty,h1,h2,?_⟩;have hA:=ha cpos pins s1 σ H1 _ I1 q1;rw[hs]at hA⊢;refine Calls.callWith_builtin (by show(zR || (backTo cpos _).any _)=zR;rw[hplain]<;>rfl) (Calls.evalArgs_plain ?_);exact thn hA λus s2 ⟨vs,H2,I2,r2,q2⟩=>hm pins s2 σ H2 x vs v us Q I2 r1 r2 q2
end
def MtM(X:Cx)(id:String)(r:V->List V->Hp->VK->Prop):Prop:=
 ∀(pins:List (UA×Obj))(s:Uy)(σ:St)(H:Hp)(x:V)(xs:List V)(v:Ux)(us:zW)(Q:VK),Inv X pins σ H s->RelV x v->Vals xs us->r x xs H Q ->
  UE (model X.prog X.w) X.A (call (.builtin id) (v::us)) (EP X pins σ Q) X.xe s
def Vals.one:∀{x}{us},Vals [x] us->∃u,us=[u]/\RelV x u:=by
 intro x us h;cases h with
 |cons r t=>cases t;exact ⟨_,rfl,r⟩
def Vals.two:∀{x y}{us},Vals [x,y] us->∃u v,us=[u,v]/\RelV x u/\RelV y v:=by
 intro x y us h;cases h with
 |cons r t=>cases t with
  |cons q e=>cases e;exact ⟨_,_,rfl,r,q⟩
def Vals.reverse   (h:Vals xs us):Vals xs.reverse us.reverse:=by
 induction h with
 |nil=>exact .nil
 |cons r t ih=>rw[List.reverse_cons,List.reverse_cons];exact Vals.append ih (.cons r .nil)
def Vals.rep   (h:Vals xs us):∀k:Nat,Vals (UI k xs).flatten (UI k us).flatten
 |0=>.nil
 |k+1=>by exact Vals.append h (Vals.rep h k)
theorem ER(its):∀(k)(acc:zW),
  List.foldl (λx1 x2=>x1++x2) acc.toArray (UI k its.toArray)=(acc++(UI k its).flatten).toArray
 |0,acc=>by simp
 |k+1,acc=>by
  have e:acc.toArray++its.toArray=(acc++its).toArray:=by simp
  have e2:(acc++its)++(UI k its).flatten=acc++(UI (k+1) its).flatten:=by rw[List.replicate_succ,JC,Q5]
  rw[←e2,←ER its k _,←e,List.replicate_succ,Jy]
section
variable{X:Cx}{pins:List (UA×Obj)}{σ:St}{H:Hp}{s:Uy}{l b:UA}{xs ys zs:List V}
def Inv.lset{its its':zW}{n}{f}{t'}(I:Inv X pins σ H s)(hH:H l=O (.lst xs))
  (e:s.heap.get? l=O {cls:=.type "list", data:=.seq its.toArray n}) (hf:f its.toArray=its'.toArray) (hv:Vals ys its') (hz:ys.length<=UD) :
  Inv X pins σ (upd H l (.lst ys)) {s with heap:=s.heap.update l (Obj.mapSeq f),toks:=t'}:=by
 have q:=PySem.IsL.update e f;rw[hf]at q;refine I.write   (by rw[hH];exact trivial) (.inl zO) (λb' u hb hu=>(Heap.get?_update_other s.heap _ (Ne.symm hb)).trans hu) ⟨_,q⟩ ?_;exact⟨hz,its',_,hv,q⟩
def Inv.lnew   (I:Inv X pins σ H s)(hv:Vals ys its)(hz:ys.length<=UD) :
  Inv X pins σ (upd H s.heap.objs.size (.lst ys)) {s with heap:=s.heap.push {cls:=.type "list", data:=.seq its.toArray},toks:=t'}:=
 I.laid (λ_ _ q=>Qj _ q) (Qv _) ⟨hz,its,0,hv,QF _ zO⟩
noncomputable def Inv.fresh(I:Inv X pins σ H s):H s.heap.objs.size=zP:=I.hok.fresh (Qv _)
def Inv.lstM(I:Inv X pins σ H s)(hH:H l=O (.lst xs)):xs.length<=UD/\∃(its:zW)(n:Nat),Vals xs its/\xs.length=its.length/\s.heap.get? l=O {cls:=.type "list", data:=.seq its.toArray n}:=by obtain⟨z,its,n,r,e⟩:=I.hok l _ hH;exact⟨z,its,n,r,r.length,e⟩
noncomputable def kt  (h:n<=UD):Builtin.List.listTooLong n=zR:=by exact QG (by omega)
end
section
variable{X:Cx}
def qK:V->List V->Hp->VK->Prop:=λx vs H Q=>∃l xs y,x=.ref l/\vs=[y]/\H l=O (.lst xs)/\xs.length<UD/\Q .non (upd H l (.lst (xs++[y])))
def EQ:MtM X "list.append" qK:=by
 intro pins s σ H x vs v us Q I rx rv h;obtain⟨l,xs,y,rfl,rfl,hH,hz,q⟩:=h;cases rx;obtain⟨u,rfl,ru⟩:=rv.one;obtain⟨z,its,n,r,hl,e⟩:=I.lstM hH;refine call_meets F.slot_list_append ⟨_,e,rfl⟩ F.entry_list_append (F.args_list_append_2 _ _) (PySem.list_append l its.toArray n u (by grind)) ⟨e,?_⟩;refine⟨.non,_,I.lset  hH e (by simp) (r.append (.cons ru .nil)) ?_,rfl,q⟩
 grind
def qJ{α:Type}(xs:List α)(k):(UI k xs).flatten.length=k*xs.length:=by simp_all
end
section
variable{prog:Uz}{w:World}{A:Around}{E:Ux->Uy->Prop}{s:Uy}
set_option maxRecDepth 100000 in
end
end L2
namespace Att
open PySem PySem.W PySem.Calls PyProof.Rows
noncomputable def zA   : ∀(ns)(vs),WellAll P h vs (ns.map WData.int)->IntsAre vs ns:=by
 intro ns;induction ns with
 |nil=>intro vs w;cases w;exact .nil
 |cons n ns ih=>
  intro vs w;cases w with
  |cons a b=>cases a;exact .cons _ _ (ih _ b)
def wK{l:OpenLaw}{n:Nat}(hn:l.most=O n){P}{h}{args}{vals}
  (hpre:l.row.toRowW.claim.pre args=zQ) (hwl:WellAll P h vals args) :
  ∃a vs ns,vals=[Value.ref a]/\args=[WData.list (ns.map WData.int)]/\h.get? a=O {cls:=.type "list", data:=.seq vs.toArray}/\IntsAre vs ns/\ns.length<=n:=by
 have hsh:WShape.hasAll [] args [.list .int]=zQ:=(pre_splitW hpre).1;have hc   :=(pre_splitW hpre).2;obtain⟨d,r,rfl,h1,h2⟩:=hasAllW_cons hsh;obtain rfl:=hasAllW_nil h2;obtain⟨xs,rfl,h3⟩:=hasW_list h1;obtain⟨ns,rfl⟩:=items_int h3
 have hlen   :=by
  have h4   :=by have h4:=(holds_andW hc).1;rw[hn]at h4;exact h4
  have h5:=condW_of h4 (w_not (w_lt w_lit (w_len_list (w_arg zO))))
  first
   |(exact absurd h5 _)
   |(simp at h5;omega)
 cases hwl with
 |cons w1 w2=>
  cases w2;cases w1 with
  |list ho hall=>exact⟨_,_,ns,rfl,rfl,ho,zA ns _ hall,hlen⟩
noncomputable def wJ(l:OpenLaw)(args):l.row.toRowW.claim.post args (.bool zQ) args=zQ:=
 postW_of
  (show WShape.has [] _ .bool=zQ by first|rfl|decide|lia)
  (w_eq_bool (w_res zO) w_lit) zO
def attach_call{l:OpenLaw}{n:Nat}{q}{loose}{XP}{YP}{d}
  (hn:l.most=O n) (hdf:d.params.defaults=[])
  (call:∀(w:World)(s₀ s₁)(mg mb)(fa:UA)(o:Obj)(pm cd doc)(a:UA)(vs)(ns),
   Ground q loose [] XP w s₀ mg mb s₁.heap->YP w s₁.heap ->
   s₁.heap.get? fa=O o->o.data=.func (docDef d.name d.params d.body d.scope pm cd doc)->s₁.heap.CodeRec cd d.name->mg d.name=O (.ref fa) ->
   s₁.heap.get? a=O {cls:=.type "list", data:=.seq vs.toArray}->IntsAre vs ns->ns.length<=n->s₁.gens=#[] ->
   codeAny (model l.prog w) callerA (.call (.ref fa) ⟨[.ref a],[]⟩) (λr s'=>r=.ok (.ret (.bool zQ))/\OldK s₁.heap s'.heap/\s'.os=s₁.os/\AllBare s'.gens) s₁) :
  WalkO q loose XP YP l.row.toRowW d [] (λf vs=>PySem.call f vs):=by
 intro w s₀ s₁ mg mb G Y fa o pm cd doc dV kV ho hd hcd hD hmg hg args vals as hpre hlay hrd hwl hlo;obtain rfl:dV=.none:=Dflts.none hD hdf;obtain rfl:kV=.none:=Dflts.noKw hD;obtain⟨a,vs,ns,rfl,rfl,hobj,hints,hlen⟩:=wK hn hpre hwl;refine enter_call (codeAny_mono (call w s₀ s₁ mg mb fa o pm cd doc a vs ns G Y ho (fd_plain hd) hcd hmg hobj hints hlen hg) λr s' hq=>?_);obtain⟨rfl,h2,h3,h4⟩:=hq;exact⟨.inl ⟨.bool zQ,.bool zQ,[],rfl,λ_=>rfl,.bool zQ,wJ l _,λ_=>⟨List.Pairwise.nil,λ_ hm=>(nomatch hm)⟩⟩,h2,h3,h4⟩
end Att
namespace L2
open PySem PySem.Spec PyProof.Rows
theorem VY:∀{vs}{ns},IntsAre vs ns->Vals (ns.map V.int) vs
 |_,_,.nil=>.nil
 |_,_,.cons n t h=>.cons ⟨t,rfl⟩ (VY h)
def Only(H:Hp):Prop:=∀b,H b=zP ∨ ∃o xs,H b=O (.frz o (.lst xs))
def kr{P:Uz}{w:World}{K:Frag}{mg mb:Str->zY}{CX:CXT}{k:Nat}{fa a:UA}{fd:UB}{x:Str}{sp:Sp}{s₁:Uy}{vs:zW}{ns:zT}
  (KX:K.In s₁.heap) (hns:s₁.heap.Ns mainGlobals mg) (hb:s₁.heap.Ns builtinsNs mb) (cC:∀x:Str,x ≠ "__name__" -> mb x=bootBuiltins x) (hlim:s₁.heap.NoLimit) (hg:s₁.gens=#[])
  (ha:s₁.heap.get? a=O {cls:=.type "list", data:=.seq vs.toArray}) (hi:IntsAre vs ns) (hl:ns.length<=UD) (hr:Room k callerA)
  (F:∀base:Heap,K.In base->base.Ns mainGlobals mg->FnOk P w K mg base CX k fa fd [x] sp) (hbind:∀(s:Uy)(u:Ux),BindsTo s fd ⟨[u],[]⟩ [(x,u)])
  (bO:∀H:Hp,Only H->SqL K H a (ns.map V.int)->sp [.ref a] H (λv _=>v=.bl zQ) λ_ _ _=>False)
  (hCX:∀H e s',CX [] H s₁ (λ_ _ _=>False) e s'->False) :
  codeAny (model P w) callerA (.call (.ref fa) ⟨[.ref a],[]⟩) (λr s'=>r=.ok (.ret (.bool zQ))/\OldK s₁.heap s'.heap/\s'.os=s₁.os/\AllBare s'.gens) s₁:=by
 have rv:=VY hi;have lenV:=hi.length
 have core:∀H:Hp,Only H->SqL K H a (ns.map V.int)->HOk P w H s₁.heap->(∀b,H b≠zP->b=a)->(H a≠zP->K.lookup a=zP) ->
   codeAny (model P w) callerA (.call (.ref fa) ⟨[.ref a],[]⟩) (λr s'=>r=.ok (.ret (.bool zQ))/\OldK s₁.heap s'.heap/\s'.os=s₁.os/\AllBare s'.gens) s₁:=by
  intro H hO hS hok hA hK;have base_of:∀{b:UA}{o:Obj},s₁.heap.get? b=O o->H b=zP->(Xg s₁.heap H).get? b=O o:=λe n=>xW e n
  have noA:∀{b:UA}{o:Obj}{es:Array DictEntry}{ep:Nat},s₁.heap.get? b=O o->o.data=.dict es ep->H b=zP:=λ{b o es ep} e d=>by
   cases q:H b with
   |none=>rfl
   |some u=>have e':b=a:=hA b (by rw[q];simp);subst e';rw[ha]at e;cases e;have d'   :=d;cases d'
  have nsK:∀{b:UA}{m:Str->zY},s₁.heap.Ns b m->(Xg s₁.heap H).Ns b m:=λ{b m} ⟨o,es,ep,e,d,r⟩=>⟨o,es,ep,base_of e (noA e d),d,r⟩
  have hKb:K.In (Xg s₁.heap H):=λb o e=>base_of (KX b o e) (by
   cases q:H b with
   |none=>rfl
   |some u=>have e':b=a:=hA b (by rw[q];simp);subst e';rw[hK (by rw[q];simp)]at e;cases e)
  have hM:Mod K mg (Xg s₁.heap H):=⟨hKb,nsK hns,⟨mb,nsK hb,cC⟩,let ⟨mc,h1,h2⟩:=hlim;⟨mc,nsK h1,h2⟩⟩
  have e0:Env0 P w K mg (Xg s₁.heap H) callerA [] s₁ H:=⟨rfl,hM,λb o e=>jM e,Nat.le_of_eq (wd _ _),trivial,λb hb=>absurd (show b∈([]:zX)from hb) (by simp),hok,.of_eq hg⟩
  refine codeAny_mono ((F _ hKb (nsK hns)).run callerA [] s₁ H ⟨[.ref a],[]⟩ [.ref a] [.ref a] _ _ hr e0 (hbind s₁ (.ref a)) (.cons zO .nil) (bO H hO hS)) λr s' h=>?_
  cases r with
  |error e=>exact(hCX H e s' h).elim
  |ok fl=>
   cases fl with
   |next=>exact False.elim h
   |brk=>exact False.elim h
   |cont=>exact False.elim h
   |ret u=>
    obtain⟨v,H',os,bare,un,hok',r',q⟩:=h;have q':v=.bl zQ:=q;subst q';obtain rfl:u=Value.bool zQ:=r';refine⟨rfl,OldK.of_keep λb o e=>?_,os,bare⟩;cases q:H b with
    |none=>exact un.keep b o e q (by intro z;exact absurd (show b∈([]:zX)from z) (by simp)) (by simp)
    |some u=>
     rcases hO b with z|⟨ob,xs,z⟩
     .rw[q]at z;cases z
     .have z2:=un.frzs b ob _ z
      obtain⟨e1,_⟩:=hok b _ z;obtain⟨e2,_⟩:=hok' b _ z2;rw[e]at e1;cases e1;exact e2
 cases hk:K.lookup a with
 |some o=>have e:=KX a o hk;rw[ha]at e;cases e;refine core (λ_=>zP) (λ_=>.inl zO) (.inr ⟨_,vs.toArray,_,hk,rfl,rfl,rfl,by rw[List.size_toArray,lenV];exact hl,by simpa using rv⟩) (λb u z=>by have z':(none:Option HO)=O u:=z;cases z') (λb z=>absurd zO z) λz=>absurd zO z
 |none=>
  refine core (λb=>if b=a then O _ else zP) (λb=>?_) (.inl (.inr ⟨{cls:=.type "list", data:=.seq vs.toArray},Qu zO⟩)) (λb u z=>?_) (λb z=>?_) λ_=>hk
  .by_cases hb:b=a
   .exact .inr ⟨_,_,Qu hb⟩
   .exact .inl (QJ hb)
  .by_cases hb:b=a
   .have z':=(Qu hb).symm.trans z
    cases z';subst hb;exact⟨ha,by rw[Qb];exact hl,vs,_,rv,ha⟩
   .have z':=(QJ hb).symm.trans z
    cases z'
  .by_cases hb:b=a
   .exact hb
   .exact absurd (QJ hb) z
noncomputable def SA(s:Stmt):Arguments:=match s with
 |.FunctionDef _ a _ _ _ _ _ _ _ _=>a
 |_=>{posonlyargs:=[],args:=[],vararg:=zP,kwonlyargs:=[],kw_defaults:=[],kwarg:=zP,defaults:=[]}
noncomputable def VF(s:Stmt):List Stmt:=match s with
 |.FunctionDef _ _ b _ _ _ _ _ _ _=>b
 |_=>[]
noncomputable def Yw(s:Stmt):Scope:=match s with
 |.FunctionDef _ _ _ _ _ _ sc _ _ _=>sc
 |_=>{kind:=.function,names:=[],isGenerator:=zR,isCoroutine:=zR}
noncomputable abbrev CX0:CXT:=λ_ _ _ _ _ _=>False
noncomputable abbrev E0:XK:=λ_ _ _=>False
def Bb{X:Cx}:Mi CX0 X E0:=λ_ _ _ _ _ _ _ h=>h.elim
structure Fun(K:Frag)(x qual:Str)(st:Stmt)(f:UA)(fd:UB):Prop where
 ex:∃(oc:Ux)(od:af)(kV doc pm:Ux)(an:af)(cdv ct:Ux)(osl:Array zY),
  fd=PySem.W.fnOf x qual (SA st) (VF st) (Yw st) .none kV doc pm an cdv ct/\K.lookup f=O ⟨oc,od,.func fd,osl⟩/\PySem.W.codeIn K cdv qual=zQ
 kp:PySem.W.keepIn K (.ref f)=zQ
section
variable{P:Uz}{w:World}{K:Frag}{mg:Str->zY}{base:Heap}
def Fun.ok  {st}{f}{fd}{N ps}{k}{sp}(F:Fun K x qual st f fd)(S:Og N ps (Yw st))(len:∀vs H Q E,sp vs H Q E->vs.length=ps.length)
  (hbody:∀(cdv)(A)(outer)(s)(H)(vs)(Q:VK)(E),Room k (A.deeper (envOfC qual (Yw st) s.heap.objs.size f cdv))->sp vs H Q E ->
   ∃t,PSs (X3 CX0 P w K mg base N qual (Yw st) f cdv A outer s H E).nox (VF st) t/\t {nx:=λ_ H'=>Q .non H',rt:=Q} (WZ N vs) H):FnOk P w K mg base CX0 (k+1) f fd ps sp:=by
 obtain⟨oc,od,kV,doc,pm,an,cdv,ct,osl,rfl,lk,hcd⟩:=F.ex;refine Bd lk hcd S len λA outer s H vs Q E hr bO=>?_
 obtain⟨t,h,q⟩:=hbody cdv A outer s H vs Q E hr bO;exact⟨t,h.nox,q⟩
def Fun.binds  {st}{f}{fd}{ps}(F:Fun K x qual st f fd)
  (h:∀(kV doc pm)(an)(cdv ct)(us),us.length=ps.length->bindArgs (PySem.W.fnOf x qual (SA st) (VF st) (Yw st) .none kV doc pm an cdv ct) ⟨us,[]⟩=pure (ps.zip us)):T2 K fd ps []:=by
 obtain⟨oc,od,kV,doc,pm,an,cdv,ct,osl,rfl,lk,hcd⟩:=F.ex;exact .all (h kV doc pm an cdv ct)
end
def Same(H H':Hp):Prop:=∀b o,H b=O o->H' b=O o
noncomputable def Same.refl(H:Hp):Same H H:=λ_ _ h=>h
noncomputable def Same.trans{H H1 H2:Hp}(a:Same H H1)(b:Same H1 H2):Same H H2:=λc o h=>b c o (a c o h)
noncomputable def Same.free  (e:Same H H'){l}(h:H' l=Option.none):H l=Option.none:=by
 cases q:H l with
 |none=>rfl
 |some o=>rw[e l o q]at h;cases h
noncomputable def Same.seq{K}{H H'}{a}{xs}(e:Same H H')(h:SqL K H a xs):SqL K H' a xs:=by
 rcases h with (h|⟨o,h⟩)|h
 .exact .inl (.inl (e _ _ h))
 .exact .inl (.inr ⟨o,e _ _ h⟩)
 .exact .inr h
section
variable{X:Cx}{pins:List (UA×Obj)}{σ:St}{H:Hp}{s:Uy}{h':Heap}
def Inv.turnedNew  {fp:zX}{p:UA}{o:HO}(I:Inv X pins σ H s)(hf:∀b∈fp,Yh X pins H b)
  (k:∀b o,b∉fp->s.heap.get? b=O o->h'.get? b=O o) (hp:s.heap.objs.size<=p) (new:YU X.prog X.w (upd H p o) h' p o) :
  Inv X pins σ (upd H p o) {s with heap:=h',toks:=t'}:=by
 have hn   :=I.hok.fresh hp;have trk:∀b u,H b=O u->b∉fp:=λb u e z=>by rw[(hf b z).1]at e;cases e
 refine I.step   (ch:=fp) (λb hb=>?_) (λb o _ _ hc e _=>k b o hc e) (λb o _ _ hc e _=>⟨o.slots,k b o hc e⟩)
  (λb o _ e n=>by rw[K7 (QZ (QH (Qh e) hp))];exact n) (λb o hc e=>⟨o,k b o hc e⟩)
  (λb xs e=>by rw[K7 (Y0 e hn)];exact e) (λb ob u e=>by rw[K7 (Y0 e hn)];exact e) (λb ps e=>⟨#[],by rw[K7 (Y0 e hn),e];simp⟩)
  (λm hm=>?_) (λb u e=>?_) I.bare
 .obtain⟨_,f1,_,f3,f4,f5⟩:=hf b hb
  exact⟨f3,f1,f4,f5⟩
 .obtain⟨ob,es,ep,ho,r⟩:=hm
  exact⟨ob,es,ep,k _ ob (λz=>(hf _ z).2.1 zO) ho,r⟩
 .by_cases hb:b=p
  .subst hb;rw[ZE]at e;cases e;exact new
  .rw[K7 hb]at e
   refine(I.hok b u e).stay (λc v hc q=>k c v ?_ q) (λc q=>by rw[K7 (Y0 q hn)];exact q) λc xs q=>by rw[K7 (Y0 q hn)];exact q
   rcases hc with z|z
   .rw[z];exact trk b u e
   .exact trk c _ z
def Inv.turnedL  {fp:zX}(I:Inv X pins σ H s)(hf:∀b∈fp,Yh X pins H b)
  (k:∀b o,b∉fp->s.heap.get? b=O o->h'.get? b=O o):Inv X pins σ H {s with heap:=h',toks:=t'}:=by
 have trk:∀b u,H b=O u->b∉fp:=λb u e z=>by rw[(hf b z).1]at e;cases e
 refine I.step    (λb hb=>?_) (λb o _ _ hc e _=>k b o hc e) (λb o _ _ hc e _=>⟨o.slots,k b o hc e⟩)
  (λ_ _ _ _ n=>n) (λb o hc e=>⟨o,k b o hc e⟩) (λ_ _ e=>e) (λ_ _ _ e=>e) (λb ps e=>⟨#[],by simp_all⟩) (λm hm=>?_) (λb u e=>?_) I.bare
 .obtain⟨_,f1,_,f3,f4,f5⟩:=hf b hb
  exact⟨f3,f1,f4,f5⟩
 .obtain⟨ob,es,ep,ho,r⟩:=hm
  exact⟨ob,es,ep,k _ ob (λz=>(hf _ z).2.1 zO) ho,r⟩
 .refine(I.hok b u e).stay (λc v hc q=>k c v ?_ q) (λc q=>q) λc xs q=>q
  rcases hc with z|z
  .rw[z];exact trk b u e
  .exact trk c _ z
end
noncomputable def Ite(K:Frag)(a:UA):It:=
 ⟨λi H=>∃xs x,SqL K H a xs/\xs[i]?=O x,
  λi H v H'=>∃p x,H p=zP/\v=.ref p/\(∀xs,SqL K H a xs->xs[i]?=O x)/\H'=upd H p (.tup [.int i,x]),
  λi H=>∃xs,SqL K H a xs/\xs.length<=i⟩
def wI{P:Uz}{w:World}{K:Frag}{elts:zV}{x1}{tp:Pos}(a e it:UA)(hne:e≠it) :
  Turn P w K (.Tuple elts x1 tp) (Ite K a) [e,it] e (λi h=>(∃old,IsEnum h e it i old)/\h.IsListIter it a i) where
 mem:=by simp
 obj:=λi h st b hb=>by
  obtain⟨⟨old,he⟩,o,ho,c,d⟩:=st;have hb':b=e∨b=it:=by simpa using hb
  rcases hb' with rfl|rfl
  .exact⟨_,he,λv z=>by have z'   :=z;cases z'⟩
  .exact⟨o,ho,λv z=>by rw[d]at z;cases z⟩
 keep:=λi h h' st k=>by obtain⟨⟨old,he⟩,hi⟩:=st;exact⟨⟨old,k e (by simp) _ he⟩,hi.at λo q=>k it (by simp) o q⟩
 item:=by
  intro X hP hw hK hc i pins s σ H E I hf st hg;subst hP hw hK;obtain⟨⟨old,he⟩,hi⟩:=st;obtain⟨xs,x,hq,hx⟩:=hg;obtain⟨its,rv,p,hz⟩:=I.list hq;obtain⟨u,hu,ru⟩:=rv.get hx;refine wpAny_pyNext_enum_item he hi p.isList (x:=u) (by simpa using hu) hne λh1 out hi1 ht hsz kk=>?_
  refine⟨_,rfl,wpAny_letOwnedTupleGo_enum out λh2 ba hs2=>?_⟩;have hel:e<s.heap.objs.size:=Qh he;have aA:Heap.SameBut e h1 h2:=hs2;have ht2   :=(aA.2 _ (JJ hel)).trans ht
  have kk2:∀b o,b∉[e,it]->s.heap.get? b=O o->h2.get? b=O o:=λb o hb q=>by
   have aG:b≠e:=λz=>hb (by simp[z])
   have hbi:b≠it:=λz=>hb (by simp[z])
   exact(aA.2 b aG).trans (kk b o aG hbi q)
  have hn:H s.heap.objs.size=zP:=I.hok.fresh (Qv _)
  have I2:Inv X pins σ (upd H s.heap.objs.size (.tup [.int i,x])) {s with heap:=h2,toks:=s.toks+1}:=
   I.turnedNew (fp:=[e,it]) hf kk2 (Qv _) ⟨by show 2<=UD;decide,[.int i s.toks,u],.cons ⟨_,rfl⟩ (.cons ru .nil),⟨_,ht2,rfl,_,rfl⟩⟩
  refine⟨.ref s.heap.objs.size,_,I2,rfl,⟨_,x,hn,rfl,λys hy=>by rw[I.list_inj hy hq];exact hx,rfl⟩,⟨⟨u,?_⟩,?_⟩,λb hb=>?_⟩
  .have:=ba
   simpa using this
  .have hi2:h2.IsListIter it a (i+1):=hi1.at λo q=>(aA.2 it (Ne.symm hne)).trans q
   exact hi2
  .have fr:=(hf b hb)
   have hlt:b<s.heap.objs.size:=by
    have hb':b=e∨b=it:=by simpa using hb
    rcases hb' with rfl|rfl
    .exact hel
    .obtain⟨o,ho,_⟩:=hi;exact Qh ho
   rw[K7 (QZ hlt)];exact fr.1
 done:=by intro X hP hw hK hc i pins s σ H E I hf st hg;subst hP hw hK;obtain⟨⟨old,he⟩,hi⟩:=st;obtain⟨xs,hq,hx⟩:=hg;obtain⟨its,rv,p,hz⟩:=I.list hq;have hl:=rv.length;exact wpAny_pyNext_enum_end (I.ok.hd hc) he hi p.isList (by simp;omega) λh' eb=>⟨rfl,I.turnedL (t':=s.toks) hf λb o hb q=>eb b o (λz=>hb (by simp[z])) q⟩
 self:=λ_ _ _ _ _ st h=>by obtain⟨⟨old,he⟩,_⟩:=st;exact wpAny_pyIter_enum he h
section
variable{X:Cx}
def Ba(K:Frag)(ta:TA):TI:=λσ H R=>ta σ H λvs H1=>∃a xs,vs=[.ref a]/\SqL K H1 a xs/\R (Ite K a) H1
def qI   {p pos:Pos}{elts}{x1}{tp:Pos}(hg:Gl X "enumerate")(hm:X.mg "enumerate" = zP)(ha:PA X [a] ta)
  (hs:UF [a] X.env=[(zR,eval a X.env)]:=by rfl):PI X (.Tuple elts x1 tp) (.Call (.Name "enumerate" p) [a] [] pos) (Ba X.K ta):=by
 intro pins s σ H R I h;refine Call_ (T8 I hg hm boot_enumerate (JM (thn (ha pos pins s σ H _ I h) λus s1 ⟨vs,H1,I1,r1,q1⟩=>?_) hs zO));obtain⟨l,xs,e,hq,q⟩:=q1;subst e;cases r1 with
 |cons r rr=>
  cases rr;cases (r);obtain⟨its,rv,pl,hz⟩:=I1.list hq;refine call_enumerate_list pl.isList λh' he hi hsz kk=>?_;have I2   :=I1.kept (t':=s1.toks) kk;refine wpAny_pyIter_enum he ?_
  refine⟨s1.heap.objs.size+1,[s1.heap.objs.size+1,s1.heap.objs.size],_,_,H1,rfl,I2,wI l _ _ (Nat.succ_ne_self _),⟨⟨_,he⟩,hi⟩,λb hb=>?_,q⟩;have hb'   :=by simpa using hb
  rcases hb' with rfl|rfl
  .exact I1.fpOk (JW _) (I1.hok.fresh (JW _))
  .exact I1.fpOk (Qv _) (I1.hok.fresh (Qv _))
end
section
variable{κ:Type}[DecidableEq κ]
noncomputable def Yc(kvs:List (κ×V))(k:κ):Option V:=(kvs.find? λkv=>decide (kv.1=k)).map (·.2)
noncomputable def ZJ(kvs:List (κ×V))(k:κ)(v:V):List (κ×V):=
 if(kvs.any λkv=>decide (kv.1=k))=zQ then kvs.map (λkv=>if kv.1=k then(kv.1,v)else kv)else kvs++[(k,v)]
def MT   {k:κ}(e:p.1=k):Yc (p::r) k=O p.2:=by simp[Yc,e]
def MS   {k:κ}(e:¬p.1=k):Yc (p::r) k=Yc r k:=by simp[Yc,e]
theorem Nw(k):∀kvs:List (κ×V),(kvs.any λkv=>decide (kv.1=k))=(Yc kvs k).isSome
 |[]=>rfl
 |p::r=>by
  rw[List.any_cons];by_cases e:p.1=k
  .simp only[MT e,QB e,Bool.true_or,Option.isSome_some]
  .rw[MS e,QG e];exact Nw k r
def LS(kvs)(k:κ)(v):(ZJ kvs k v).length<=kvs.length+1:=by
 unfold ZJ;split
 .simp_all
 simp_all
def RelO.isSome_eq   (r:RelO o u):o.isSome=u.isSome:=by
 cases o with
 |none=>cases u with
  |none=>rfl
  |some _=>exact(r).elim
 |some _=>cases u with
  |none=>exact(r).elim
  |some _=>rfl
def KV.val   (r:KV kvs vs)(k:κ):RelO (Yc kvs k) (valueAt vs k):=by
 induction r with
 |nil=>exact True.intro
 |@cons p q ps qs h t ih=>
  obtain⟨h1,h2⟩:=h;by_cases e:p.1=k
  .have e'   :=h1.symm.trans e
   have b:valueAt (q::qs) k=O q.2:=by simp[valueAt,e']
   rw[MT e,b];exact h2
  .have e':¬q.1=k:=λz=>e (h1.trans z)
   have b:valueAt (q::qs) k=valueAt qs k:=by simp[valueAt,e']
   rw[MS e,b];exact ih
def KV.any   (r:KV kvs vs)(k:κ):(kvs.any λkv=>decide (kv.1=k))=vs.any λkv=>decide (kv.1=k):=by
 induction r with
 |nil=>rfl
 |cons h t ih=>simp_all
def KV.repl   (r:KV kvs vs)(k:κ){y}{u}(ry:RelV y u) :
  KV (kvs.map λkv=>if kv.1=k then(kv.1,y)else kv) (vs.map λkv=>if kv.1=k then(kv.1,u)else kv):=by
 induction r with
 |nil=>exact .nil
 |@cons p q ps qs h t ih=>
  rw[QD,QD];refine .cons ?_ ih;obtain⟨h1,h2⟩:=h;by_cases e:p.1=k
  .rw[Qu e,Qu (h1.symm.trans e)];exact⟨h1,ry⟩
  .rw[QJ e,QJ (λz=>e (h1.trans z))];exact⟨h1,h2⟩
def KV.put   (r:KV kvs vs)(k:κ){y}{u}(ry:RelV y u):KV (ZJ kvs k y) (stored vs k u):=by
 unfold ZJ stored;rw[r.any k];by_cases e:(vs.any λkv=>decide (kv.1=k))=zQ
 .rw[Qu e,Qu e];exact r.repl k ry
 .rw[QJ e,QJ e];exact Paired.snoc r ⟨rfl,ry⟩
def KV.length  {vs:List (κ×Ux)}(r:KV kvs vs):kvs.length=vs.length:=Paired.length r
end
def R3   {k}{u}(r:RelV (kV k) u):(XQ P w).is k u=zQ:=by
 cases k with
 |inl i=>obtain⟨t,e⟩:=(r);subst e;exact yR P w i t
 |inr x=>obtain⟨t,e⟩:=(r);subst e;exact yQ P w x t
theorem EO   : ∀{ks}{us},Vals (ks.map kV) us->ItemsAre (XQ P w) ks us
 |[],_,r=>by cases r;exact .nil
 |k::ks,_,r=>by
  cases r with
  |cons h t=>exact .cons (R3 h) (EO t)
abbrev KT(H:Hp):List (ac×V)->List (ac×UA×Ux)->Prop:=Paired λp q=>p.1=q.1/\H q.2.1=O (.tup (p.1.map kV))/\RelV p.2 q.2.2
def KT.val    (r:KT H kvs xs)(k):RelO (Yc kvs k) ((atKey xs k).map (·.2)):=by
 induction r with
 |nil=>exact True.intro
 |@cons p q ps qs h t ih=>
  obtain⟨h1,_,h2⟩:=h;by_cases e:p.1=k
  .have e'   :=h1.symm.trans e
   have b:atKey (q::qs) k=O q.2:=by simp[atKey,e']
   rw[MT e,b];exact h2
  .have e':¬q.1=k:=λz=>e (h1.trans z)
   have b:atKey (q::qs) k=atKey qs k:=by simp[atKey,e']
   rw[MS e];simp_all
def KT.repl    (r:KT H kvs xs)(k){y}{u}(ry:RelV y u) :
  KT H (kvs.map λkv=>if kv.1=k then(kv.1,y)else kv) (xs.map (putAt k u)):=by
 induction r with
 |nil=>exact .nil
 |@cons p q ps qs h t ih=>
  rw[QD];refine .cons ?_ ih;obtain⟨h1,h2,h3⟩:=h;unfold putAt;by_cases e:p.1=k
  .rw[Qu e,Qu (h1.symm.trans e)];exact⟨h1,h2,ry⟩
  .rw[QJ e,QJ (λz=>e (h1.trans z))];exact⟨h1,h2,h3⟩
def KT.put  {kvs}{xs}(r:KT H kvs xs)(k){b}{y:V}{u}(hb:H b=O (.tup (k.map kV)))(ry:RelV y u) :
  KT H (ZJ kvs k y) (storedH xs k b u):=by
 have e:(kvs.any λkv=>decide (kv.1=k))=(atKey xs k).isSome:=by rw[Nw,(r.val k).isSome_eq,Option.isSome_map]
 unfold ZJ storedH;rw[e];by_cases q:(atKey xs k).isSome=zQ
 .rw[Qu q,Qu q];exact r.repl k ry
 .rw[QJ q,QJ q];exact Paired.snoc r ⟨rfl,hb,ry⟩
def KT.keeps  {kvs}{xs}(r:KT H kvs xs)(ht:∀b ys,H b=O (.tup ys)->H' b=O (.tup ys)):KT H' kvs xs:=
 Paired.mapP r λ_ _ z=>⟨z.1,ht _ _ z.2.1,z.2.2⟩
section
variable{P:Uz}{w:World}{H:Hp}{h:Heap}{a:UA}
def Ha{u:HO}(ok:HOk P w H h)(e:Rd H a u):YU P w H h a u:=e.ok ok
def P1  (ok:HOk P w H h)(e:Rd H a (.dK kvs)):kvs.length<=UD/\(a==sysModules)=zR/\∃vs,KV kvs vs/\h.DictOf (XQ P w) a vs:=
 Ha ok e
def L9  (ok:HOk P w H h)(e:H a=O (.dK kvs)):kvs.length<=UD/\(a==sysModules)=zR/\∃vs,KV kvs vs/\h.DictOf (XQ P w) a vs:=P1 ok (.inl e)
def P6  (ok:HOk P w H h)(e:H a=O (.tup (ks.map kV))):(tupleKind (XQ P w)).is h ks a:=by
 obtain⟨_,its,r,o,h1,h2,n,h3⟩:=(ok a _ e)
 exact⟨o,its.toArray,n,h1,h2,h3,by simpa using EO r⟩
def P0  (ok:HOk P w H h)(e:Rd H a (.dT kvs)):kvs.length<=UD/\(a==sysModules)=zR /\
  ∃xs,KT H kvs xs/\h.DictOfH (tupleKind (XQ P w)) a xs:=by
 obtain⟨z,y,xs,r,o,es,ep,h1,h2,h3,h4,h5⟩:=(Ha ok e)
 refine⟨z,y,xs,r,o,es,ep,h1,h2,h3,h4,λx hx=>?_,h5⟩
 have all:∀{l:List _}{m:List _},KT H l m->∀x∈m,(tupleKind (XQ P w)).is h x.1 x.2.1:=by
  intro l m q;induction q with
  |nil=>simp_all
  |@cons p q ps qs hq t ih=>
   intro x hx;rcases Qx.mp hx with e|hx
   .exact P6 ok (by simp_all)
   .exact ih x hx
 exact all r x hx
def C9  (ok:HOk P w H h)(e:H a=O (.dT kvs)):kvs.length<=UD/\(a==sysModules)=zR /\
  ∃xs,KT H kvs xs/\h.DictOfH (tupleKind (XQ P w)) a xs:=P0 ok (.inl e)
end
def Xk(H:Hp)(a:UA)(y:V)(r:Option V):Prop:=
 (∃kvs k,Rd H a (.dK kvs)/\y=kV k/\r=Yc kvs k) ∨ ∃kvs k b,Rd H a (.dT kvs)/\y=.ref b/\H b=O (.tup (k.map kV))/\r=Yc kvs k
def DPut(H:Hp)(a:UA)(y v:V)(H':Hp):Prop:=
 (∃kvs k,H a=O (.dK kvs)/\y=kV k/\kvs.length<UD/\H'=upd H a (.dK (ZJ kvs k v))) ∨
 ∃kvs k b,H a=O (.dT kvs)/\y=.ref b/\H b=O (.tup (k.map kV))/\kvs.length<UD/\H'=upd H a (.dT (ZJ kvs k v))
theorem DPut.k    {k}{v}(e:H a=O (.dK kvs))(hl:kvs.length<UD):DPut H a (kV k) v (upd H a (.dK (ZJ kvs k v))):=.inl ⟨kvs,k,e,rfl,hl,rfl⟩
section
variable{X:Cx}{pins:List (UA×Obj)}{σ:St}{H:Hp}{s:Uy}{a:UA}{y v:V}{u r:Ux}{o:Option V}{A:Around}{E:Ux->Uy->Prop}
def Inv.big(I:Inv X pins σ H s):sysModules<s.heap.objs.size:=by have h   :=(I.mod.glob.keeps I.bk).lt;exact Nat.lt_trans (by decide) h
def wH  (hu:A.units+1<cLine)(I:Inv X pins σ H s)(g:Xk H a y (O v))(ry:RelV y u)(h:∀w' s',Inv X pins σ H s'->RelV v w'->Q w' s') :
  UE (model X.prog X.w) A (getItem (.ref a) u) Q E s:=by
 rcases g with ⟨kvs,k,e,ey,l⟩|⟨kvs,k,b,e,ey,eb,l⟩
 .subst ey
  obtain⟨z,hd,vs,rel,dd⟩:=P1 I.hok e;obtain⟨w',hw,ay⟩:=RelO.some_of   (by rw[l];exact rel.val k);exact wpAny_getItem_of (R3 ry) dd.mapOf hw (h w' _ (I.tok _) ay)
 .subst ey
  cases (ry);obtain⟨z,hd,xs,rel,dd⟩:=P0 I.hok e;obtain⟨w',hw,ay⟩:=RelO.some_of   (by rw[l];exact rel.val k);obtain⟨p,hp,hp2⟩:=Jr.mp hw;refine wpAny_getItem_heap (tupleKind_room_in1 hu) (P6 I.hok eb) dd hp ?_;rw[hp2];exact h w' _ (I.tok _) ay
def d_in  (hu:A.units+1<cLine)(I:Inv X pins σ H s)(g:Xk H a y o)(ry:RelV y u)(h:∀s',Inv X pins σ H s'->Q (.bool o.isSome) s') :
  UE (model X.prog X.w) A (UG .In u (.ref a)) Q E s:=by
 rcases g with ⟨kvs,k,e,ey,l⟩|⟨kvs,k,b,e,ey,eb,l⟩
 .subst ey
  obtain⟨z,hd,vs,rel,dd⟩:=P1 I.hok e;refine wpAny_in_of (R3 ry) hd dd.mapOf ?_;rw[←(rel.val k).isSome_eq,←l];exact h _ (I.tok _)
 .subst ey
  cases (ry);obtain⟨z,hd,xs,rel,dd⟩:=P0 I.hok e;refine wpAny_in_heap (tupleKind_room_in1 hu) (P6 I.hok eb) hd dd ?_;have q:=(rel.val k).isSome_eq;rw[Option.isSome_map]at q;rw[←q,←l];exact h _ (I.tok _)
def qH  (hu:A.units+1<cLine)(I:Inv X pins σ H s)(g:Xk H a y o)(ry:RelV y u)(h:∀s',Inv X pins σ H s'->Q (.bool (!o.isSome)) s') :
  UE (model X.prog X.w) A (UG .NotIn u (.ref a)) Q E s:=by
 rcases g with ⟨kvs,k,e,ey,l⟩|⟨kvs,k,b,e,ey,eb,l⟩
 .subst ey
  obtain⟨z,hd,vs,rel,dd⟩:=P1 I.hok e;refine wpAny_notIn_of (R3 ry) hd dd.mapOf ?_;rw[←(rel.val k).isSome_eq,←l];exact h _ (I.tok _)
 .subst ey
  cases (ry);obtain⟨z,hd,xs,rel,dd⟩:=P0 I.hok e;refine wpAny_notIn_heap (tupleKind_room_in1 hu) (P6 I.hok eb) hd dd ?_;have q:=(rel.val k).isSome_eq;rw[Option.isSome_map]at q;rw[←q,←l];exact h _ (I.tok _)
def MJ   {ob}(I:Inv X pins σ H s)(mu:Mut (H a))(hs:Heap.SameBut a s.heap h')(he:∃q,h'.get? a=O q)(new:YU X.prog X.w (upd H a ob) h' a ob) :
  Inv X pins σ (upd H a ob) {s with heap:=h',toks:=t'}:=
 I.write   mu (.inl zO) (λb q hb z=>(hs.2 b hb).trans z) he new
def Hm     {kvs}{vs}(z:kvs.length<=UD)(hd:(a==sysModules)=zR)(rel:KV kvs vs)(dd:h'.DictOf (XQ P w) a vs) :
  YU P w H' h' a (.dK kvs):=⟨z,hd,vs,rel,dd⟩
def wG{H':Hp}{Q}(hu:A.units+1<cLine)(I:Inv X pins σ H s)(g:DPut H a y v H')(ry:RelV y u)(rv:RelV v r)(h:∀s',Inv X pins σ H' s'->Q () s') :
  UE (model X.prog X.w) A (setItem (.ref a) u r) Q E s:=by
 rcases g with ⟨kvs,k,e,ey,l,eH⟩|⟨kvs,k,b,e,ey,eb,l,eH⟩
 .subst ey eH
  obtain⟨z,hd,vs,rel,dd⟩:=L9 I.hok e;have hz:vs.length<=UD:=by rw[←rel.length];exact z
  have hl:(ZJ kvs k v).length<=UD:=by have:=LS kvs k v;omega
  refine wpAny_setItem_pairs (hsz:=hz) (R3 ry) dd λh' aW hs=>h _ ?_;have he:∃q,h'.get? a=O q:=let ⟨q,_,_,hq,_⟩:=aW;⟨q,hq⟩
  exact MJ I (by rw[e];exact True.intro) hs he (Hm hl hd (rel.put k rv) aW)
 .subst ey eH
  cases (ry);obtain⟨z,hd,xs,rel,dd⟩:=C9 I.hok e;have hz:xs.length<=UD:=by rw[←Paired.length rel];exact z
  have hl:(ZJ kvs k v).length<=UD:=by have:=LS kvs k v;omega
  refine wpAny_setItem_heap (hsz:=hz) (tupleKind_room_in1 hu) (P6 I.hok eb) dd λh' aW hs=>h _ ?_
  obtain⟨q,es,ep,hq,h2,h3,h4,_,h5⟩:=aW;refine MJ I (by rw[e];exact True.intro) hs ⟨q,hq⟩ ⟨hl,hd,_,(rel.put k eb rv).keeps λc ys ec=>?_,q,es,ep,hq,h2,h3,h4,h5⟩;rw[K7 (CG ec e (λz=>nomatch z))];exact ec
end
def V7(i:UC):Prop:=∀ov iv,subscripted i zR ov iv=operate [ov,iv] (getItem ov iv)
noncomputable def qG    {E}{s}{env:Env}{value slice}{pos}{T id}{Q}
  (hl:typeLookup (.type T) "__getitem__" = pure (O (.builtin id))) (hs:V7 slice)
  (h:UE (model prog w) A (eval value env) (λo s₁=>UE (model prog w) A (eval slice env) (λi s₂=>s₂.TypeIs o T/\UE (model prog w) A (getItem o i) Q E s₂) E s₁) E s) :
  UE (model prog w) A (eval (.Subscript value slice pos) env) Q E s:=by
 refine Subscript_ (QS h (λo s₁ h₁=>QS h₁ (λi s₂ h₂=>?_) λ_ _ x=>x) λ_ _ x=>x);obtain⟨hT,h₂⟩:=h₂;refine Qf ?_;refine Qf (wpAny_specialOf hT hl ?_);have fin:UE (model prog w) A (subscripted slice zR o i) (λr s₃=>UE (model prog w) A (letTemporaryGo value o r >>= λ_=>pure r) Q E s₃) E s₂:=by rw[hs o i];exact wpAny_operating (QS h₂ (λr s₃ h₃=>Qf (wpAny_letTemporaryGo (Qo h₃))) λ_ _ x=>x)
 first
  |exact Qo (Qf fin)
  |exact Qf _
  |exact Qf fin
def yO   {σ:St}{H}{s}{a}{y}{o}(I:Inv X pins σ H s)(g:Xk H a y o):s.TypeIs (.ref a) "dict" :=by
 rcases g with ⟨kvs,k,e,_,_⟩|⟨kvs,k,b,e,_,_,_⟩
 .obtain⟨_,_,vs,_,dd⟩:=P1 I.hok e
  exact dd.typeIs
 .obtain⟨_,_,xs,_,dd⟩:=P0 I.hok e
  exact dd.typeIs
noncomputable def C8(td ty:TE):TE:=λσ H Q=>td σ H λx H1=>ty σ H1 λy H2=>∃a v,x=.ref a/\Xk H2 a y (O v)/\Q v H2
noncomputable def tDIn(ty td:TE):TE:=λσ H Q=>ty σ H λy H1=>td σ H1 λx H2=>∃a o,x=.ref a/\Xk H2 a y o/\Q (.bl o.isSome) H2
noncomputable def qF(ty td:TE):TE:=λσ H Q=>ty σ H λy H1=>td σ H1 λx H2=>∃a o,x=.ref a/\Xk H2 a y o/\Q (.bl (!o.isSome)) H2
noncomputable def C7(td ty tv:TE):TS:=λD σ H=>tv σ H λv H1=>td σ H1 λx H2=>ty σ H2 λy H3=>∃a H4,x=.ref a/\DPut H3 a y v H4/\D.nx σ H4
section
variable{X:Cx}{o i e value:UC}{pos pos' tpos:Pos}{td ty tv:TE}
def Fs(hu:X.A.units+1<cLine)(ho:PE X o td)(hi:PE X i ty)(hs:V7 i):PE X (.Subscript o i pos) (C8 td ty):=by intro pins s σ H Q I h;refine qG PySem.F.slot_dict_getitem.lookup hs (thn (ho pins s σ H _ I h) λu s1 ⟨x,H1,I1,rx,q1⟩=>thn (hi pins s1 σ H1 _ I1 q1) λiv s2 ⟨y,H2,I2,ry,a,v,ex,g,q2⟩=>?_);subst ex;obtain rfl:u=Value.ref a:=rx;exact⟨yO I2 g,wH hu I2 g ry λw' s3 I3 ay=>⟨v,H2,I3,ay,q2⟩⟩
def BP(hu:X.A.units+1<cLine)(hi:PE X i ty)(ho:PE X o td):PC X .In i o (tDIn ty td):=by intro pins s σ H Q I h;refine thn (hi pins s σ H _ I h) λiv s1 ⟨y,H1,I1,ry,q1⟩=>thn (ho pins s1 σ H1 _ I1 q1) λu s2 ⟨x,H2,I2,rx,a,ov,ex,g,q2⟩=>?_;subst ex;obtain rfl:u=Value.ref a:=rx;exact d_in hu I2 g ry λs3 I3=>⟨.bl ov.isSome,H2,I3,rfl,q2⟩
def wF(hu:X.A.units+1<cLine)(hi:PE X i ty)(ho:PE X o td):PC X .NotIn i o (qF ty td):=by intro pins s σ H Q I h;refine thn (hi pins s σ H _ I h) λiv s1 ⟨y,H1,I1,ry,q1⟩=>thn (ho pins s1 σ H1 _ I1 q1) λu s2 ⟨x,H2,I2,rx,a,ov,ex,g,q2⟩=>?_;subst ex;obtain rfl:u=Value.ref a:=rx;exact qH hu I2 g ry λs3 I3=>⟨.bl _,H2,I3,rfl,q2⟩
def qE(hu:X.A.units+1<cLine)(ho:PE X o td)(hi:PE X i ty)(hv:PE X value tv)(hs:swapsWith value (O (.Subscript o i pos')) pos.line X.env=pure zR) :
  PS X (.Assign [.Subscript o i pos'] value pos) (C7 td ty tv):=by
 intro pins s σ H D I h;refine wpAny_Assign_Subscript (thn (hv pins s σ H _ I h) λr s1 ⟨v,H1,I1,rv,q1⟩=>thn (ho pins s1 σ H1 _ I1 q1) λu s2 ⟨x,H2,I2,rx,q2⟩=>thn (hi pins s2 σ H2 _ I2 q2) λiv s3 ⟨y,H3,I3,ry,a,H4,ex,g,q3⟩=>?_) hs;subst ex;obtain rfl:u=Value.ref a:=rx;exact wG hu I3 g ry rv λs4 I4=>⟨σ,H4,I4,q3⟩
end
def kq    (h:Heap)(hb:sysModules<h.objs.size):YU P w H (h.push {cls:=.type "dict", data:=.dict #[]}) h.objs.size (.dK []):=
 ⟨JX _,beq_eq_false_iff_ne.mpr (Ne.symm (QZ hb)),[],.nil,Heap.DictOf.new h⟩
noncomputable def OW:List (TE×TE)->St->Hp->(List (V×V)->Hp->Prop)->Prop
 |[],_,H,Q=>Q [] H
 |(tk,tv)::r,σ,H,Q=>tk σ H λx H1=>tv σ H1 λy H2=>OW r σ H2 λps H3=>Q ((x,y)::ps) H3
abbrev VV:List (V×V)->List (Ux×Ux)->Prop:=Paired λp q=>RelV p.1 q.1/\RelV p.2 q.2
def PPs(X:Cx)(pos:Pos)(keys:List (Option UC))(values:zV)(trs:List (TE×TE)):Prop:=
 ∀(pins:List (UA×Obj))(s:Uy)(σ:St)(H:Hp)(Q:List (V×V)->Hp->Prop),Inv X pins σ H s->OW trs σ H Q ->
  UE (model X.prog X.w) X.A (evalPairs (pairTrees keys values X.env pos)) (λvs s'=>∃ps H',Inv X pins σ H' s'/\VV ps vs/\Q ps H') X.xe s
noncomputable def qD   : PPs X pos [] [] []:=λpins s σ H Q I h=>pairTrees_nil_walk ⟨[],H,I,.nil,h⟩
def ko   {k v}{ks}{vs}{tk tv}{trs}(hk:PE X k tk)(hv:PE X v tv)(hr:PPs X pos ks vs trs) :
  PPs X pos (O k::ks) (v::vs) ((tk,tv)::trs):=λpins s σ H Q I h=>
 pairTrees_cons_walk (thn (hk pins s σ H _ I h) λu s1 ⟨x,H1,I1,rx,q1⟩=>thn (hv pins s1 σ H1 _ I1 q1) λw2 s2 ⟨y,H2,I2,ry,q2⟩=>
  thn (hr pins s2 σ H2 _ I2 q2) λws s3 ⟨ps,H3,I3,rel,q3⟩=>⟨(x,y)::ps,H3,I3,.cons ⟨rx,ry⟩ rel,q3⟩)
noncomputable def T7(kvs more:List (Key×V)):List (Key×V):=more.foldl (λacc kv=>ZJ acc kv.1 kv.2) kvs
def KV.merge:∀{more}{rs}{kvs}{vs},KV more rs->KV kvs vs->KV (T7 kvs more) (merged vs rs):=by
 intro more rs kvs vs r;induction r generalizing kvs vs with
 |nil=>intro q;exact q
 |@cons p q ps qs h t ih=>
  intro r0;have e:KV (ZJ kvs p.1 p.2) (stored vs q.1 q.2):=by have:=r0.put p.1 h.2;simp_all
  exact ih e
theorem D3:∀(more kvs),(T7 kvs more).length<=kvs.length+more.length
 |[],kvs=>by show kvs.length<=kvs.length+0;omega
 |p::r,kvs=>by
  have h1:=D3 r (ZJ kvs p.1 p.2);have h2:=LS kvs p.1 p.2
  show(T7 _ r).length<=_
  grind
theorem DI   : ∀{kvs}{ws},VV (kvs.map λkv=>(kV kv.1,kv.2)) ws->∃rs,Carries (XQ P w) ws rs/\KV kvs rs
 |[],_,r=>by cases r;exact⟨[],True.intro,.nil⟩
 |p::kvs,_,r=>by
  cases r with
  |@cons a b as bs h t=>obtain⟨rs,c,q⟩:=DI (P:=P) (w:=w) t;obtain⟨b1,b2⟩:=b;exact⟨(p.1,b2)::rs,⟨R3 h.1,rfl,c⟩,.cons ⟨rfl,h.2⟩ q⟩
end L2
namespace L2
open PySem PySem.Spec
def X4(bmB bm:zW):Prop:=∀(X:String)(b:Bool),bmB.contains (.type X)=b->bm.contains (.type X)=b
def YV(M:Model)(C:UA)(name:Str)(r:zY)(h:Heap):Prop:=∀(A:Around)(E:Ux->Uy->Prop)(Q:zY->Uy->Prop)(h':Heap)(g:Array GenState)(d:Drawn)(t:Nat)(os:OsState),
 (∀b o,h.get? b=O o->h'.get? b=O o)->Q r ⟨h',g,d,t,os⟩->UE M A (typeLookup (.ref C) name) Q E ⟨h',g,d,t,os⟩
def YV.keeps      (x:YV M C name r h)(k:∀b o,h.get? b=O o->h'.get? b=O o):YV M C name r h':=
 λA E Q h2 g d t os k2 q=>x A E Q h2 g d t os (λb o e=>k2 b o (k b o e)) q
noncomputable def YV.at    {Q}{C}{name}{r}{h}{g}{d}{t}{os}(x:YV M C name r h)(q:Q r ⟨h,g,d,t,os⟩):UE M A (typeLookup (.ref C) name) Q E ⟨h,g,d,t,os⟩:=
 x A E Q h g d t os (λ_ _ e=>e) q
section
variable{prog:Uz}{w:World}{A:Around}{E:Ux->Uy->Prop}{h:Heap}{g:Array GenState}{d:Drawn}{t:Nat}{os:OsState}{R:Result->Uy->Prop}
variable{nm q:Str}{C N x:UA}{bs bm bmB:zW}{hdct:Bool}{sn:List Str}{sub:zW}{ab:Bool}{col:ag}{dd:af}{k0 k1 k2 k3 k5:zY}{B newId sa owner:String}{mN mA:Str->zY}{name:Str}{v:Ux}
def wE{M:Model}{o:Obj}{nameV:Ux}{Q:Unit->Uy->Prop}(T:X4 bmB bm)(hb:bmB.contains (.type "BaseException")=zQ)(hC:h.get? C=O (excClassObj nm q C N bs bm hdct sn sub ab col dd k0 k1 k2 k3 k5 newId))
  (hx:h.get? x=O o) (hc:o.cls=.ref C) (hq:Q () ⟨h,g,d,t,os⟩):UE M A (checkBuiltinCall "BaseException.__getattribute__" ⟨[.ref x,nameV],[]⟩) Q E ⟨h,g,d,t,os⟩:=by
 have hk:builtinKind "BaseException.__getattribute__" = O .slot:=by decide +kernel
 have hsplit:splitId "BaseException.__getattribute__" = O ("BaseException", "__getattribute__"):=by decide +kernel
 have hcB:(Value.ref C::bm).contains (.type "BaseException")=zQ:=by rw[List.contains_cons,T _ _ hb];rfl
 have ha:=PySem.F.args_bexc_ga (.ref x) nameV;simp only[checkBuiltinCall,hk,hsplit];refine Qf ?_
 .unfold isInstance
  repeat (first|(with_reducible refine Q7 hx ?_;rw[hc])|(with_reducible refine Jt hC ?_;rw[hcB])|wp_step)
  exact hq
end
end L2
namespace L2
open PySem PySem.Spec PyProof.Rows PySem.Calls PyProof.V
def XO(fr:Bool)(e C:UA)(dd:af):Heap->Prop:=λh=>∃vs sl,h.get? e=O {cls:=.ref C,dict:=dd,data:=.fields vs,slots:=sl}/\(fr=zQ->vs[1]?=O .none/\(∃t0,vs[0]?=O (.ref t0))/\vs[2]?=O .none/\4<vs.size)
noncomputable abbrev VB:zW:=[.type "ValueError", .type "Exception", .type "BaseException", .type "object"]
structure XCls(M:Model)(base:Heap)(C:UA)(bm:zW)(fI:UA):Prop where
 obj:∃nm q N bs sn sub ab col dd k0 k1 k2 k3 k5,base.get? C=O (excClassObj nm q C N bs bm zQ sn sub ab col dd k0 k1 k2 k3 k5 "ValueError.__new__")
 tail:X4 VB bm
 init:YV M C "__init__" (O (.ref fI)) base
 fn:∃o,base.get? fI=O o/\o.cls=.type "function"
 sa:YV M C "__setattr__" (O (.builtin "object.__setattr__")) base
 ga:YV M C "__getattribute__" (O (.builtin "BaseException.__getattribute__")) base
 gh:YV M C "__getattr__" none base
 cl:YV M C "__class__" (O (.builtin "object.__class__")) base
 pass:∀v,refuseLoop v "__setattr__" bm=pure ()
def XD(dx:UA)(fs:List (Str×V)):Heap->Prop:=λh=>∃mA,h.Ns1 dx mA/\h.ExactDictFk dx/\(∀f,RelO (fs.lookup f) (mA f))/\PySem.Within mA (fs.map (·.1))
end L2
namespace L2
open PySem PySem.Spec
section
variable{prog:Uz}{w:World}{A:Around}{E:Ux->Uy->Prop}{h:Heap}{g:Array GenState}{d:Drawn}{t:Nat}{os:OsState}{R:Result->Uy->Prop}
variable{nm q:Str}{C N a:UA}{bs bm bmB:zW}{hdct:Bool}{sn:List Str}{sub:zW}{ab:Bool}{col:ag}{dd:af}{k0 k1 k2 k3 k5:zY}{newId:String}{o:Obj}
def yd(T:X4 bmB bm)(ho:bmB.contains (.type "object")=zQ)(hC:h.get? C=O (excClassObj nm q C N bs bm hdct sn sub ab col dd k0 k1 k2 k3 k5 newId))(hx:h.get? a=O o)(hc:o.cls=.ref C)(hq:R (.ok (.ret (.ref C))) ⟨h,g,d,t,os⟩) :
  codeAny (model prog w) A (.call (.builtin "getset_descriptor.__get__") ⟨[.builtin "object.__class__", .ref a,.ref C],[]⟩) R ⟨h,g,d,t,os⟩:=by
 have hT5   :=PySem.F.typeOf_object_class;have hcB:(Value.ref C::bm).contains (.type (".".intercalate ("object.__class__".cutAt '.').dropLast))=zQ:=by rw[PySem.F.owner_object_class,List.contains_cons,T _ _ ho];rfl
 refine codeAny_call_builtin PySem.F.slot_gs_get.plain PySem.F.entry_gs_get (PySem.F.slot_gs_get.check _ _ _ _ _ _ _ _ hT5 (PySem.F.args_gs_get _ _ _) ?_)
 repeat (any_goals (first|assumption|(with_reducible rw[hc])|(with_reducible refine Jt hC ?_;rw[hcB])|wp_step))
 refine⟨Code.quiet_builtin _ (by decide +kernel),codeAny_builtin PySem.F.entry_object_class ?_⟩
 repeat (any_goals (first|assumption|(with_reducible rw[hc])|wp_step))
def y0  {Q}(T:X4 bmB bm)(ho:bmB.contains (.type "object")=zQ)(hC:h.get? C=O (excClassObj nm q C N bs bm hdct sn sub ab col dd k0 k1 k2 k3 k5 newId))(fc:YV (model prog w) C "__class__" (O (.builtin "object.__class__")) h)(hx:h.get? a=O o)(hc:o.cls=.ref C)(hq:Q (.done (.ret (.ref C))) ⟨h,g,d,t,os⟩) :
  UE (model prog w) A (Builtin.«object.__getattribute__» ⟨[.ref a,.str "__class__" tk],[]⟩) Q E ⟨h,g,d,t,os⟩:=by
 have f5:=PySem.F.typeOf_object_class;have f6:=PySem.F.slot_gs_get.lookup;have f7:=PySem.F.slot_gs_set.lookup
 repeat (any_goals (first|assumption|(with_reducible rw[hc])|with_reducible refine fc.at ?_|wp_step))
 refine yd T ho hC hx hc ?_
 repeat (any_goals (first|assumption|wp_step))
def DH  (FB:ExcAttrFacts "ValueError")(T:X4 VB bm)(hC:h.get? C=O (excClassObj nm q C N bs bm hdct sn sub ab col dd k0 k1 k2 k3 k5 newId))(fc:YV (model prog w) C "__class__" (O (.builtin "object.__class__")) h)
  (fg:YV (model prog w) C "__getattribute__" (O (.builtin "BaseException.__getattribute__")) h) (fa:YV (model prog w) C "__getattr__" none h) (hx:h.get? a=O o) (hc:o.cls=.ref C) (hq:Q (O (.ref C)) ⟨h,g,d,t+1,os⟩) :
  UE (model prog w) A (getAttr? (.ref a) "__class__") Q E ⟨h,g,d,t,os⟩:=by
 have f3:=FB.ga.bind (.ref a)
 repeat (any_goals (first|assumption|(with_reducible rw[hc])|with_reducible refine fg.at ?_|with_reducible refine fa.at ?_|wp_step))
 refine codeAny_call_builtin FB.ga.plain PySem.F.entry_bexc_ga (wE T zO hC hx hc (y0 T zO hC fc hx hc ?_))
 repeat (any_goals (first|assumption|wp_step))
end
end L2
namespace L2
open PySem PySem.Spec PyProof.Rows
section
variable{prog:Uz}{w:World}{A:Around}{E:Ux->Uy->Prop}{h:Heap}{g:Array GenState}{d:Drawn}{t:Nat}{os:OsState}
variable{nm q nm' q':Str}{C N D N' a:UA}{bs bm bs' bm':zW}{hdct br:Bool}{sn sn':List Str}{sub sub':zW}{ab ab':Bool}{col col':ag}{dd aW:af}{k0 k1 k2 k3 k5 j0 j1 j2 j3 j5:zY}{newId newId':String}{o:Obj}{b:Bool}
def qC{Q:Ux->Uy->Prop}(T:X4 VB bm)(hC:h.get? C=O (excClassObj nm q C N bs bm hdct sn sub ab col dd k0 k1 k2 k3 k5 newId))(hD:h.get? D=O (excClassObj nm' q' D N' bs' bm' br sn' sub' ab' col' aW j0 j1 j2 j3 j5 newId'))
  (fc:YV (model prog w) C "__class__" (O (.builtin "object.__class__")) h) (fg:YV (model prog w) C "__getattribute__" (O (.builtin "BaseException.__getattribute__")) h) (fa:YV (model prog w) C "__getattr__" none h)
  (hx:h.get? a=O o) (hc:o.cls=.ref C) (hb:(Value.ref C::bm).contains (.ref D)=b) (hq:∀tk,Q (.bool b) ⟨h,g,d,tk,os⟩):UE (model prog w) A (call (.builtin "isinstance") [.ref a,.ref D]) Q E ⟨h,g,d,t,os⟩:=by
 have f2:=tc_sub;refine call_isinstance_of ?_ (λz=>nomatch z);refine Qf ?_;unfold typeOf;refine Qf (Q7 hx (Qo ?_));rw[hc];by_cases e:C=D
 .subst e
  have hb1:b=zQ:=by rw[←hb];simp
  subst hb1;rw[if_pos (by simp)];exact Qf (wpAny_rule (Qo (hq t)))
 .rw[if_neg (by simp[e])]
  refine Qf (Qf (Q7 hD (Qo ?_)));rw[Qu (show(Value.type "type" == Value.type "type")=zQ by decide)]
  k_delta "plainIsInstance"
  unfold isType isInstance
  repeat (first|(with_reducible refine Q7 hx ?_;rw[hc])|with_reducible refine Q7 hD ?_|with_reducible refine Q7 hC ?_|(with_reducible refine Jt hC ?_;rw[hb])|wp_step)
  cases b with
  |true=>wp_walk;exact hq t
  |false=>
   rw[QJ (by decide)];refine Qf (DH PySem.F.excAttr_ValueError T hC fc fg fa hx hc ?_)
   repeat (first|with_reducible refine Q7 hC ?_|(with_reducible refine Jt hC ?_;rw[hb])|wp_step)
   exact hq _
def BO{Q:Ux->Uy->Prop}{X:String}(T:X4 VB bm)(hC:h.get? C=O (excClassObj nm q C N bs bm hdct sn sub ab col dd k0 k1 k2 k3 k5 newId))(hX:typeOf (.type X)=pure (.type "type"))
  (fc:YV (model prog w) C "__class__" (O (.builtin "object.__class__")) h) (fg:YV (model prog w) C "__getattribute__" (O (.builtin "BaseException.__getattribute__")) h) (fa:YV (model prog w) C "__getattr__" none h)
  (hx:h.get? a=O o) (hc:o.cls=.ref C) (hb:(Value.ref C::bm).contains (.type X)=b) (hq:∀tk,Q (.bool b) ⟨h,g,d,tk,os⟩):UE (model prog w) A (call (.builtin "isinstance") [.ref a,.type X]) Q E ⟨h,g,d,t,os⟩:=by
 refine call_isinstance_of ?_ (λz=>nomatch z);refine Qf ?_;have ty:∀{M:Model}{A:Around}{Q:Ux->Uy->Prop}{E:Ux->Uy->Prop},Q (.ref C) ⟨h,g,d,t,os⟩->UE M A (typeOf (.ref a)) Q E ⟨h,g,d,t,os⟩:=λq=>by unfold typeOf;refine Qf (Q7 hx (Qo ?_));rw[hc];exact q
 refine ty ?_;rw[if_neg (by simp)];refine Qf (wpAny_of_eq hX ?_);rw[Qu (show _=zQ by decide)]
 k_delta "plainIsInstance"
 unfold isType isInstance
 repeat (first|(with_reducible refine Q7 hx ?_;rw[hc])|with_reducible refine Q7 hC ?_|(with_reducible refine Jt hC ?_;rw[hb])|wp_step)
 cases b with
 |true=>wp_walk;exact hq t
 |false=>
  rw[QJ (by decide)];refine Qf (DH PySem.F.excAttr_ValueError T hC fc fg fa hx hc ?_)
  repeat (first|with_reducible refine Q7 hC ?_|(with_reducible refine Jt hC ?_;rw[hb])|wp_step)
  exact hq _
end
def rIsX(KC:UA->zW->Prop):List V->Hp->VK->Prop:=λxs H Q=>∃a C dd bm fr c b,xs=[.ref a,c]/\KC C bm/\H a=O (.ext (XO fr a C dd)) /\
 ((∃D bm',c=.ref D/\KC D bm'/\(Value.ref C::bm).contains (.ref D)=b) ∨ ∃T,c=.ty T/\typeOf (.type T)=pure (.type "type")/\(Value.ref C::bm).contains (.type T)=b)/\Q (.bl b) H
def kn  {KC}(hcls:∀C bm,KC C bm->∃fI,XCls (model X.prog X.w) X.base C bm fI):Xn X (.builtin "isinstance") (rIsX KC):=by
 rintro pins s σ H xs us Q I r ⟨a,C,dd,bm,fr,c,b,rfl,kc,hx,hD,q⟩;cases r with
 |cons ra r=>
 cases r with
 |cons rc r=>
 cases r;have ra'   :=ra;subst ra';obtain⟨fI,XC⟩:=hcls C bm kc;obtain⟨nm,qn,N,bs,sn,sub,ab,col,dd1,k0,k1,k2,k3,k5,hC⟩:=XC.obj;obtain⟨⟨vs,sl,ga,_⟩,_,_⟩:=I.hok a _ hx;rcases hD with ⟨D,bm',rfl,kd,hb⟩|⟨T,rfl,hT,hb⟩
 .have rc'   :=rc
  subst rc';obtain⟨fI',XD'⟩:=hcls D bm' kd;obtain⟨nm',qn',N',bs',sn',sub',ab',col',dd2,j0,j1,j2,j3,j5,bU⟩:=XD'.obj;exact qC XC.tail (I.bk _ _ hC) (I.bk _ _ bU) (XC.cl.keeps I.bk) (XC.ga.keeps I.bk) (XC.gh.keeps I.bk) ga zO hb λtk'=>⟨.bl b,H,I.tok tk',rfl,q⟩
 .have rc'   :=rc
  subst rc';exact BO XC.tail (I.bk _ _ hC) hT (XC.cl.keeps I.bk) (XC.ga.keeps I.bk) (XC.gh.keeps I.bk) ga zO hb λtk'=>⟨.bl b,H,I.tok tk',rfl,q⟩
noncomputable def C6(nm:Str):List Str:=if nm = "NoWishes" then ["part", "number"]else if nm = "NoAim" then ["part"]else if nm = "NoText" then ["row"]else []
noncomputable def L8(K:Frag)(nm:Str):af:=match PySem.W.nsIn K mainGlobals nm with|some (O (.ref C))=>O C|_=>zP
def NmAt(K:Frag)(nm:Str)(C:UA):Prop:=∃o cd,K.lookup C=O o/\o.data=.cls cd/\cd.name=nm
structure ClsK(K:Frag)(nm:Str)(C:UA)(bm:zW):Prop where
 ad:L8 K nm=O C
 nmd:NmAt K nm C
 up:nm = "DealError" /\ bm=VB∨nm ≠ "DealError" /\ ∃D,L8 K "DealError" = O D/\bm=.ref D::VB/\NmAt K "DealError" D
 cls:∀(M:Model)(h:Heap),K.In h->∃fI,XCls M h C bm fI
 fld:∀(M:Model)(h:Heap),K.In h->∀f∈(["part", "number", "row"]:List Str),YV M C f zP h
noncomputable def KC(K:Frag):UA->zW->Prop:=λC bm=>∃nm,ClsK K nm C bm
section
variable{K:Frag}{nm x:Str}{C D:UA}{bm bm':zW}
def ClsK.ty(c:ClsK K nm C bm)(T):(Value.ref C::bm).contains (.type T)=VB.contains (.type T):=by
 rcases c.up with ⟨_,rfl⟩|⟨_,D',g,rfl,n⟩
 .rfl
 .rfl
end
section
variable{X:Cx}{e:UC}{st:Stmt}{sts:List Stmt}{t:TE}{ts:TS}
def C5(k:X.K.In X.base):∀C bm,KC X.K C bm->∃fI,XCls (model X.prog X.w) X.base C bm fI:=λ_ _ ⟨_,c⟩=>c.cls _ _ k
end
end L2
namespace DL
open PySem PySem.Spec L2
open PyProof.Rows hiding St
abbrev D:=PyData
abbrev zS:=List D
abbrev zU:=Option D
abbrev XW:=V->St->Hp->Prop
noncomputable abbrev KX0:XW:=λ_ _ _=>False
def XFs(G:Hp)(dd:af)(fs:List Str)(vs:List V):Prop:=match dd with
 |none=>fs=[]/\vs=[]
 |some dx=>fs.length=vs.length/\G dx=O (.ext (XD dx (fs.zip vs)))
def XFs.mono     (e:Same G G1)(h:XFs G dd fs vs):XFs G1 dd fs vs:=by
 cases dd with
 |none=>exact h
 |some dx=>exact⟨h.1,e _ _ h.2⟩
noncomputable def kD:Key->D
 |.inl i=>.int i
 |.inr x=>.str x
def tkD(k:ac):D:=.tuple (k.map kD)
def pdD(ks:List ac)(ds:zS):List (D×D):=(.bool zQ,.none)::(ks.map tkD).zip ds
mutual
inductive Rep(K:Frag)(G:Hp):V->D->Prop where
 |non:Rep K G .non .none
 |bl (b:Bool):Rep K G (.bl b) (.bool b)
 |int (i:Int):Rep K G (.int i) (.int i)
 |str (x:Str):Rep K G (.str x) (.str x)
 |lst {a:UA} {vs:List V} {ds:zS} (h:SqL K G a vs) (r:Reps K G vs ds):Rep K G (.ref a) (.list ds)
 |tup {a:UA} {vs:List V} {ds:zS} (h:SqT K G a vs) (r:Reps K G vs ds):Rep K G (.ref a) (.tuple ds)
 |dic {a:UA} (h:G a=O (.dK [])):Rep K G (.ref a) (.dict [])
 |exc {a C:UA} {dd:af} {bm:zW} {nm:Str} {vs:List V} {ds:zS} (c:ClsK K nm C bm) (h:G a=O (.ext (XO zR a C dd))) (hd:XFs G dd (C6 nm) vs) (r:Reps K G vs ds):Rep K G (.ref a) (.dict [(.none,.tuple [.str nm,.list ds])])
 |dct {a:UA} {ks:ac} {vs:List V} {ds:zS} {kvs:List (D×D)} (e:kvs=(ks.map kD).zip ds) (hne:ks≠[]) (hl:ks.length=ds.length) (h:G a=O (.dK (ks.zip vs))) (r:Reps K G vs ds):Rep K G (.ref a) (.dict kvs)
 |dtt {a:UA} {o:Obj} {ks:List ac} {vs:List V} {ds:zS} {kvs:List (D×D)} (e:kvs=pdD ks ds) (hl:ks.length=ds.length) (h:G a=O (.frz o (.dT (ks.zip vs)))) (r:Reps K G vs ds):Rep K G (.ref a) (.dict kvs)
inductive Reps(K:Frag)(G:Hp):List V->zS->Prop where
 |nil:Reps K G [] []
 |cons {v:V} {d:D} {vs:List V} {ds:zS} (h:Rep K G v d) (t:Reps K G vs ds):Reps K G (v::vs) (d::ds)
end
variable{K:Frag}{B G0 G G1 G2 H H1 H2:Hp}
noncomputable def Wd   (e:Same G G1)(h:SqT K G a xs):SqT K G1 a xs:=by
 rcases h with (h|⟨o,h⟩)|h
 .exact .inl (.inl (e _ _ h))
 .exact .inl (.inr ⟨o,e _ _ h⟩)
 .exact .inr h
def Rep.mono(e:Same G G1){v}{d}(r:Rep K G v d):Rep K G1 v d:=Rep.rec   .non .bl .int .str (λh _ r=>.lst (e.seq h) r) (λh _ r=>.tup (Wd e h) r) (λh=>.dic (e _ _ h)) (λc h hd _ r=>.exc c (e _ _ h) (hd.mono e) r) (λz n l h _ r=>.dct z n l (e _ _ h) r) (λz l h _ r=>.dtt z l (e _ _ h) r) .nil (λ_ _=>.cons) r
def Reps.mono(e:Same G G1){vs}{ds}(r:Reps K G vs ds):Reps K G1 vs ds:=Reps.rec   .non .bl .int .str (λh _ r=>.lst (e.seq h) r) (λh _ r=>.tup (Wd e h) r) (λh=>.dic (e _ _ h)) (λc h hd _ r=>.exc c (e _ _ h) (hd.mono e) r) (λz n l h _ r=>.dct z n l (e _ _ h) r) (λz l h _ r=>.dtt z l (e _ _ h) r) .nil (λ_ _=>.cons) r
section
variable{v:V}{vs ws:List V}{ds es:zS}
noncomputable def Rep.bl_inv{b:Bool}(h:Rep K G v (.bool b)):v=.bl b:=by cases h;rfl
noncomputable def Rep.int_inv{i:Int}(h:Rep K G v (.int i)):v=.int i:=by cases h;rfl
noncomputable def Rep.str_inv{x:Str}(h:Rep K G v (.str x)):v=.str x:=by cases h;rfl
def Rep.lst_inv(h:Rep K G v (.list ds)):∃a vs,v=.ref a/\SqL K G a vs/\Reps K G vs ds:=by
 cases h with
 |lst h r=>exact⟨_,_,rfl,h,r⟩
def Rep.tup_inv(h:Rep K G v (.tuple ds)):∃a vs,v=.ref a/\SqT K G a vs/\Reps K G vs ds:=by
 cases h with
 |tup h r=>exact⟨_,_,rfl,h,r⟩
noncomputable def Reps.length:∀{vs}{ds},Reps K G vs ds->vs.length=ds.length
 |_,_,.nil=>rfl
 |_,_,.cons _ t=>by rw[QU,QU,Reps.length t]
def Reps.get:∀{vs}{ds}{i:Nat}{d},Reps K G vs ds->ds[i]?=O d->∃v,vs[i]?=O v/\Rep K G v d
 |_,_,_,_,.nil,e=>by simp_all
 |_,_,0,_,.cons h _,e=>by simp at e;subst e;exact⟨_,rfl,h⟩
 |_,_,i+1,d,.cons _ t,e=>by obtain⟨u,h1,h2⟩:=Reps.get   t (by simpa using e);exact⟨u,by simpa using h1,h2⟩
noncomputable def Reps.append:∀{vs ws}{ds es},Reps K G vs ds->Reps K G ws es->Reps K G (vs++ws) (ds++es)
 |_,_,_,_,.nil,s=>s
 |_,_,_,_,.cons r t,s=>.cons r (Reps.append t s)
noncomputable def Reps.take:∀{vs}{ds}(n),Reps K G vs ds->Reps K G (vs.take n) (ds.take n)
 |_,_,0,_=>by exact .nil
 |_,_,_+1,.nil=>.nil
 |_,_,n+1,.cons r t=>.cons r (Reps.take n t)
noncomputable def Reps.drop:∀{vs}{ds}(n),Reps K G vs ds->Reps K G (vs.drop n) (ds.drop n)
 |_,_,0,r=>r
 |_,_,_+1,.nil=>.nil
 |_,_,n+1,.cons _ t=>Reps.drop n t
def Reps.reverse:∀{vs}{ds},Reps K G vs ds->Reps K G vs.reverse ds.reverse
 |_,_,.nil=>.nil
 |_,_,.cons r t=>by rw[List.reverse_cons,List.reverse_cons];exact Reps.append (Reps.reverse t) (.cons r .nil)
noncomputable def Reps.set   (r:Rep K G v d):∀{vs}{ds}(i),Reps K G vs ds->Reps K G (vs.set i v) (ds.set i d)
 |_,_,_,.nil=>.nil
 |_,_,0,.cons _ t=>.cons r t
 |_,_,i+1,.cons q t=>.cons q (Reps.set r i t)
noncomputable def Reps.ints:∀(ns:zT),Reps K G (ns.map V.int) (ns.map int)
 |[]=>.nil
 |n::ns=>.cons (.int n) (Reps.ints ns)
end
inductive MO where
 |l (vs:List V)|k (kvs:List (Key×V))|t (kvs:List (ac×V))|s (S:Int->Bool) (n:Nat)
def MO.ho:MO->HO
 |.l vs=>.lst vs
 |.k kvs=>.dK kvs
 |.t kvs=>.dT kvs
 |.s S n=>.set S n
structure Ext(G H G' H':Hp):Prop where
 h:Same H H'
 g:Same G G'
 gh:Same G' H'
 np:∀a(u:MO),H a=O u.ho->G a=zP->G' a=zP
noncomputable def Ext.refl(e:Same G H):Ext G H G H:=⟨.refl _,.refl _,e,λ_ _ _ q=>q⟩
def Z7   (h:H p=zP):Same H (upd H p o):=λb u e=>by rw[K7 (Y0 e h)];exact e
def Ext.new   (e:Same G H)(h:H p=zP):Ext G H (upd G p o) (upd H p o):=by
 have hg   :=e.free h;refine⟨Z7 h,Z7 hg,λb u q=>?_,λa u q n=>?_⟩
 .by_cases z:b=p
  .subst z;rw[ZE]at q⊢;exact q
  .rw[K7 z]at q⊢;exact e b u q
 .rw[K7 (Y0 q h)];exact n
def Ext.hid   (e:Same G H)(h:H p=zP):Ext G H G (upd H p o):=
 ⟨Z7 h,.refl _,e.trans (Z7 h),λ_ _ _ n=>n⟩
inductive Pat where
 |leaf|lst (p:Pat)|tup (ps:List Pat)|dic
mutual
inductive RepO(K:Frag)(G H:Hp):Pat->V->D->zX->Prop where
 |leaf {v:V} {d:D} (r:Rep K G v d):RepO K G H .leaf v d []
 |lst {p:Pat} {a:UA} {vs:List V} {ds:zS} {fp:zX} (h:H a=O (.lst vs)) (r:RepOl K G H p vs ds fp):RepO K G H (.lst p) (.ref a) (.list ds) (a::fp)
 |tup {ps:List Pat} {a:UA} {vs:List V} {ds:zS} {fp:zX} (h:H a=O (.tup vs)) (r:RepOs K G H ps vs ds fp):RepO K G H (.tup ps) (.ref a) (.tuple ds) fp
 |dic {a:UA} {ks:ac} {vs:List V} {ds:zS} {kvs:List (D×D)} (e:kvs=(ks.map kD).zip ds) (hl:ks.length=ds.length) (h:H a=O (.dK (ks.zip vs))) (r:Reps K G vs ds):RepO K G H .dic (.ref a) (.dict kvs) [a]
inductive RepOl(K:Frag)(G H:Hp):Pat->List V->zS->zX->Prop where
 |nil {p:Pat}:RepOl K G H p [] [] []
 |cons {p:Pat} {v:V} {d:D} {vs:List V} {ds:zS} {f1 f2:zX} (h:RepO K G H p v d f1) (t:RepOl K G H p vs ds f2):RepOl K G H p (v::vs) (d::ds) (f1++f2)
inductive RepOs(K:Frag)(G H:Hp):List Pat->List V->zS->zX->Prop where
 |nil:RepOs K G H [] [] [] []
 |cons {p:Pat} {ps:List Pat} {v:V} {d:D} {vs:List V} {ds:zS} {f1 f2:zX} (h:RepO K G H p v d f1) (t:RepOs K G H ps vs ds f2):RepOs K G H (p::ps) (v::vs) (d::ds) (f1++f2)
end
def WQ(K:Frag)(G H:Hp)(M1:Pat->V->D->zX->Prop)(M2:Pat->List V->zS->zX->Prop)(M3:List Pat->List V->zS->zX->Prop):Prop:=
 (∀{p v d fp},RepO K G H p v d fp->M1 p v d fp)/\(∀{p vs ds fp},RepOl K G H p vs ds fp->M2 p vs ds fp)/\∀{ps vs ds fp},RepOs K G H ps vs ds fp->M3 ps vs ds fp
def RepO.ind3
  (c1:∀{v d},Rep K G v d->M1 .leaf v d []) (c2:∀{p a vs ds fp},H a=O (.lst vs)->M2 p vs ds fp->M1 (.lst p) (.ref a) (.list ds) (a::fp)) (c3:∀{ps a vs ds fp},H a=O (.tup vs)->M3 ps vs ds fp->M1 (.tup ps) (.ref a) (.tuple ds) fp)
  (c4:∀{a:UA}{ks:ac}{vs}{ds}{kvs},kvs=(ks.map kD).zip ds->ks.length=ds.length->H a=O (.dK (ks.zip vs))->Reps K G vs ds->M1 .dic (.ref a) (.dict kvs) [a])
  (c5:∀{p},M2 p [] [] []) (c6:∀{p v d vs ds f1 f2},M1 p v d f1->M2 p vs ds f2->M2 p (v::vs) (d::ds) (f1++f2)) (c7:M3 [] [] [] []) (c8:∀{p ps v d vs ds f1 f2},M1 p v d f1->M3 ps vs ds f2->M3 (p::ps) (v::vs) (d::ds) (f1++f2)) :
  WQ K G H M1 M2 M3:=
 ⟨λh=>RepO.rec    c1 (λh _=>c2 h) (λh _=>c3 h) c4 c5 (λ_ _=>c6) c7 (λ_ _=>c8) h,
  λh=>RepOl.rec    c1 (λh _=>c2 h) (λh _=>c3 h) c4 c5 (λ_ _=>c6) c7 (λ_ _=>c8) h,
  λh=>RepOs.rec    c1 (λh _=>c2 h) (λh _=>c3 h) c4 c5 (λ_ _=>c6) c7 (λ_ _=>c8) h⟩
def RepO.mono3(sg:Same G G1)(sh:Same H H1):WQ K G H (RepO K G1 H1) (RepOl K G1 H1) (RepOs K G1 H1):=
 RepO.ind3 (λr=>.leaf (r.mono sg)) (λh r=>.lst (sh _ _ h) r) (λh r=>.tup (sh _ _ h) r) (λe hl h r=>.dic e hl (sh _ _ h) (r.mono sg)) .nil .cons .nil .cons
def RepO.mono(sg:Same G G1)(sh:Same H H1){p}{v}{d}{fp}(r:RepO K G H p v d fp):RepO K G1 H1 p v d fp:=(RepO.mono3 sg sh).1 r
def RepO.upd3   (nt:∀vs,H a≠O (.tup vs)):WQ K G H (λp v d fp=>a∉fp->RepO K G (upd H a o) p v d fp) (λp v d fp=>a∉fp->RepOl K G (upd H a o) p v d fp) (λp v d fp=>a∉fp->RepOs K G (upd H a o) p v d fp):=
 RepO.ind3
 (λr _=>.leaf r) (λh r n=>.lst (by rw[K7 (λz=>n (by rw[z];exact List.mem_cons_self))];exact h) (r λz=>n (List.mem_cons_of_mem _ z))) (λh r n=>.tup (by rw[K7 (λz=>by simp_all)];exact h) (r n))
 (λe hl h r n=>.dic e hl (by rw[K7 (λz=>n (by rw[z];exact Ql))];exact h) r) (λ_=>.nil) (λh t n=>.cons (h λz=>n (Q4 _ z)) (t λz=>n (QN _ z))) (λ_=>.nil) (λh t n=>.cons (h λz=>n (Q4 _ z)) (t λz=>n (QN _ z)))
theorem RepO.upd   (nt:∀vs,H a≠O (.tup vs)){p}{v}{d}{fp}(r:RepO K G H p v d fp)(n:a∉fp):RepO K G (upd H a o) p v d fp:=(RepO.upd3 nt).1 r n
def RepO.rep3(gh:Same G H):WQ K G H (λ_ v d _=>Rep K H v d) (λ_ v d _=>Reps K H v d) (λ_ v d _=>Reps K H v d):=
 RepO.ind3 (λr=>r.mono gh) (λh r=>.lst (SqL.of h) r) (λh r=>.tup (SqT.of h) r)
 (λ{a ks vs ds kvs} e hl h r=>by
  cases ks with
  |nil=>subst e;exact .dic h
  |cons k ks=>exact .dct e (λz=>by cases z) hl h (r.mono gh)) .nil .cons .nil .cons
def RepO.rep(gh:Same G H){p}{v}{d}{fp}(r:RepO K G H p v d fp):Rep K H v d:=(RepO.rep3 gh).1 r
def RepO.isl3:WQ K G H (λ_ _ _ fp=>∀a∈fp,∃u:MO,H a=O u.ho) (λ_ _ _ fp=>∀a∈fp,∃u:MO,H a=O u.ho) (λ_ _ _ fp=>∀a∈fp,∃u:MO,H a=O u.ho):=
 RepO.ind3 (λ_ a m=>by cases m)
 (λh r b m=>(Qx.mp m).elim (λe=>⟨.l _,e ▸ h⟩) (r b)) (λ_ r=>r) (λ_ _ h _ b m=>⟨.k _,Qt.mp m ▸ h⟩) (λa m=>by cases m) (λh t b m=>(Qz.mp m).elim (h b) (t b)) (λa m=>by cases m) (λh t b m=>(Qz.mp m).elim (h b) (t b))
def RepO.isl     (r:RepO K G H p v d fp):∀a∈fp,∃u:MO,H a=O u.ho:=RepO.isl3.1 r
def RepO.uniq3(sh:Same H H1):WQ K G H (λp v _ fp=>∀d' fp',RepO K G1 H1 p v d' fp'->fp=fp') (λp v _ fp=>∀d' fp',RepOl K G1 H1 p v d' fp'->fp=fp') (λp v _ fp=>∀d' fp',RepOs K G1 H1 p v d' fp'->fp=fp'):=
 RepO.ind3
 (λ_ d' fp' h=>by cases h;rfl)
 (λh r d' fp' h'=>by
  cases h' with
  |lst h2 r2=>have e:=sh _ _ h;rw[h2]at e;cases e;rw[r _ _ r2])
 (λh r d' fp' h'=>by
  cases h' with
  |tup h2 r2=>have e:=sh _ _ h;rw[h2]at e;cases e;exact r _ _ r2)
 (λ_ _ _ _ d' fp' h=>by cases h;rfl) (λd' fp' h=>by cases h;rfl)
 (λh t d' fp' h'=>by
  cases h' with
  |cons h2 t2=>rw[h _ _ h2,t _ _ t2])
 (λd' fp' h=>by cases h;rfl)
 (λh t d' fp' h'=>by
  cases h' with
  |cons h2 t2=>rw[h _ _ h2,t _ _ t2])
def RepO.uniq(sh:Same H H1){p}{v}{d d'}{fp fp'}(r:RepO K G H p v d fp)(r':RepO K G1 H1 p v d' fp'):fp=fp':=(RepO.uniq3 sh).1 r _ _ r'
inductive Sl where
 |pub (d:D)|own (ds:zS)|deep (p:Pat) (d:D)
abbrev U5:=List (Option Sl)
abbrev z8:=Option U5
def DpOk(K:Frag)(B G H:Hp)(σ:St)(Z:U5):Prop:=∃ω:UA->Nat,
 (∀(i:Nat) p d,Z[i]?=O (O (.deep p d))->∃v fp,σ[i]?=O (O v)/\RepO K G H p v d fp/\fp.Nodup/\∀a∈fp,B a=zP/\G a=zP/\ω a=i) /\
 (∀(i:Nat) ds a,Z[i]?=O (O (.own ds))->σ[i]?=O (O (.ref a))->ω a=i)
noncomputable def DpOk.of  {Z}(h1:∀(i:Nat) p d,Z[i]?=O (O (.deep p d))->False)(h2:∀(i:Nat) ds,Z[i]?=O (O (.own ds))->False):DpOk K B G H σ Z:=
 ⟨λ_=>0,λi p d q=>(h1 i p d q).elim,λi ds a q=>(h2 i ds q).elim⟩
def DpOk.map  {σ σ1}{Z Z1}(k:DpOk K B G H σ Z)
  (h1:∀(i:Nat) p d,Z1[i]?=O (O (.deep p d))->Z[i]?=O (O (.deep p d))/\σ1[i]?=σ[i]?)
  (h2:∀(i:Nat) ds,Z1[i]?=O (O (.own ds))->∃es,Z[i]?=O (O (.own es))/\σ1[i]?=σ[i]?)
  (h3:∀(i:Nat) p d v fp,Z[i]?=O (O (.deep p d))->σ[i]?=O (O v)->RepO K G H p v d fp->(∀a∈fp,B a=zP/\G a=zP)->(∀(j:Nat) ds a,Z[j]?=O (O (.own ds))->σ[j]?=O (O (.ref a))->a∉fp)->RepO K G1 H1 p v d fp/\∀a∈fp,B1 a=zP/\G1 a=zP):DpOk K B1 G1 H1 σ1 Z1:=by
 obtain⟨ω,k1,k2⟩:=k;refine⟨ω,λi p d q=>?_,λi ds a q s=>?_⟩
 .obtain⟨q1,e1⟩:=h1 i p d q
  obtain⟨v,fp,s,r,n,w⟩:=k1 i p d q1;obtain⟨r1,w1⟩:=h3 i p d v fp q1 s r (λa m=>⟨(w a m).1,(w a m).2.1⟩) λj ds a qj sj m=>by have z1:=k2 j ds a qj sj;have z2:=(w a m).2.2;rw[z1]at z2;subst z2;rw[q1]at qj;cases qj
  exact⟨v,fp,by rw[e1];exact s,r1,n,λa m=>⟨(w1 a m).1,(w1 a m).2,(w a m).2.2⟩⟩
 .obtain⟨es,q1,e1⟩:=h2 i ds q
  rw[e1]at s;exact k2 i es a q1 s
structure EOk(K:Frag)(B G0 G H:Hp)(σ:St)(Z:U5):Prop where
 bh:Same B H
 gh:Same G H
 g0:Same G0 G
 np:∀a(u:MO),B a=O u.ho->G0 a=zP->G a=zP
 len:Z.length=σ.length
 pub:∀(i:Nat) d,Z[i]?=O (O (.pub d))->∃v,σ[i]?=O (O v)/\Rep K G v d
 own:∀(i:Nat) ds,Z[i]?=O (O (.own ds))->∃a vs,σ[i]?=O (O (.ref a))/\B a=zP/\G a=zP/\H a=O (.lst vs)/\Reps K G vs ds
 sep:∀(i j:Nat) a ds es,Z[i]?=O (O (.own ds))->Z[j]?=O (O (.own es))->σ[i]?=O (O (.ref a))->σ[j]?=O (O (.ref a))->i=j
 dp:DpOk K B G H σ Z
def EOk.ext  {σ:St}{Z}(k:EOk K B G0 G H σ Z)(e:Ext G H G' H'):EOk K B G0 G' H' σ Z where
 bh:=k.bh.trans e.h
 gh:=e.gh
 g0:=k.g0.trans e.g
 np:=λa o q n=>e.np a o (k.bh a _ q) (k.np a o q n)
 len:=k.len
 pub:=λi d q=>let ⟨v,h1,h2⟩:=k.pub i d q;⟨v,h1,h2.mono e.g⟩
 own:=λi ds q=>let ⟨a,vs,h1,h2,h3,h4,h5⟩:=k.own i ds q;⟨a,vs,h1,h2,e.np a (.l _) h4 h3,e.h a _ h4,h5.mono e.g⟩
 sep:=k.sep
 dp:=k.dp.map (λ_ _ _ q=>⟨q,rfl⟩) (λ_ ds q=>⟨ds,q,rfl⟩) λi p d v fp q s r w n=>⟨r.mono e.g e.h,λa m=>let ⟨_,hl⟩:=r.isl a m;⟨(w a m).1,e.np a _ hl (w a m).2⟩⟩
def EOk.publish{σ:St}{Z:U5}{i:Nat}{ds:zS}(k:EOk K B G0 G H σ Z)(h:Z[i]?=O (O (.own ds))) :
  ∃a G',σ[i]?=O (O (.ref a))/\Same G G'/\Rep K G' (.ref a) (.list ds)/\EOk K B G0 G' H σ (Z.set i (O (.pub (.list ds)))):=by
 obtain⟨a,vs,h1,h2,h3,h4,h5⟩:=k.own i ds h;have sg:Same G (upd G a (.lst vs)):=Z7 h3;have hr:Rep K _ (.ref a) (.list ds):=.lst (SqL.of ZE) (h5.mono sg);refine⟨a,upd G a (.lst vs),h1,sg,hr,⟨k.bh,λb u q=>?_,k.g0.trans sg,λb o q n=>?_,by rw[Jf];exact k.len,λj d q=>?_,λj es q=>?_,λj l c es fs q1 q2 s1 s2=>?_,?_⟩⟩
 .by_cases z:b=a
  .subst z;rw[ZE]at q;cases q;exact h4
  .rw[K7 z]at q;exact k.gh b u q
 .have z:b≠a:=λz=>by subst z;rw[h2]at q;cases q
  rw[K7 z];exact k.np b o q n
 .by_cases z:i=j
  .subst z
   have hl:i<Z.length:=(Qg.mp h).1;rw[QW hl]at q;cases q;exact⟨.ref a,h1,hr⟩
  .rw[Qq z]at q
   obtain⟨v,g1,g2⟩:=k.pub j d q;exact⟨v,g1,g2.mono sg⟩
 .by_cases z:i=j
  .subst z
   have hl:i<Z.length:=(Qg.mp h).1;rw[QW hl]at q;cases q
  .rw[Qq z]at q
   obtain⟨b,ws,g1,g2,g3,g4,g5⟩:=k.own j es q;have zb:b≠a:=λe=>z (k.sep i j a ds es h q h1 (by rw[←e];exact g1))
   exact⟨b,ws,g1,g2,by rw[K7 zb];exact g3,g4,g5.mono sg⟩
 .have nz:∀{m:Nat}{ts:zS},(Z.set i (O (Sl.pub (.list ds))))[m]?=O (O (.own ts))->Z[m]?=O (O (.own ts)):=λ{m ts} q=>by
   by_cases z:i=m
   .subst z
    have hl:i<Z.length:=(Qg.mp h).1;rw[QW hl]at q;cases q
   .rw[Qq z]at q;exact q
  exact k.sep j l c es fs (nz q1) (nz q2) s1 s2
 .have hl:i<Z.length:=(Qg.mp h).1
  have nz:∀{m:Nat}{s:Sl},(Z.set i (O (Sl.pub (.list ds))))[m]?=O (O s)->(∃d,s=.pub d)∨Z[m]?=O (O s):=λ{m s} q=>by
   by_cases z:i=m
   .subst z
    rw[QW hl]at q;cases q;exact .inl ⟨_,rfl⟩
   .rw[Qq z]at q;exact .inr q
  refine k.dp.map (λm p d q=>?_) (λm es q=>?_) λm p d v fp q s r w n=>⟨r.mono sg (.refl _),λb mb=>⟨(w b mb).1,?_⟩⟩
  .rcases nz q with ⟨_,e⟩|q
   .cases e
   .exact⟨q,rfl⟩
  .rcases nz q with ⟨_,e⟩|q
   .cases e
   .exact⟨es,q,rfl⟩
  .rw[K7 (λz=>by subst z;exact n i ds b h h1 mb)];exact(w b mb).2
inductive Res(α:Type) where
 |ok (a:α) (Z:U5)|bad
abbrev M(α:Type):=U5->Res α
noncomputable def U2{α:Type}(a:α):M α:=λZ=>.ok a Z
noncomputable def Kw{α:Type}(o:Option α):M α:=λZ=>match o with|some a=>.ok a Z|none=>.bad
noncomputable def Ku{α β:Type}(f:M α)(k:α->M β):M β:=λZ=>match f Z with | .ok a Z'=>k a Z' | .bad=>.bad
section
variable(K:Frag)(B G0:Hp)
def aft{α γ:Type}(R:Hp->γ->α->Prop)(r:Res α)(G:Hp)(σ:St)(Q:γ->Hp->Prop):Prop:=
 match r with
 |.ok d Z'=>∀v G' H',EOk K B G0 G' H' σ Z'->Same G G'->R G' v d->Q v H'
 |.bad=>False
noncomputable def tM{α γ:Type}(R:Hp->γ->α->Prop)(f:M α):St->Hp->(γ->Hp->Prop)->Prop:=λσ H Q=>
 ∃G Z,EOk K B G0 G H σ Z/\aft K B G0 R (f Z) G σ Q
abbrev tD(f:M D):TE:=tM K B G0 (Rep K) f
abbrev tDs(f:M zS):TA:=tM K B G0 (Reps K) f
abbrev tBo(f:M Bool):TT:=tM K B G0 (λ_ b c=>b=c) f
abbrev tOi(f:M zZ):TO:=tM K B G0 (λ_ b c=>b=c) f
end
section
variable{K:Frag}{B G0:Hp}{α β γ δ ε:Type}{R:Hp->γ->α->Prop}{S:Hp->δ->β->Prop}{T:Hp->ε->α->Prop}{σ:St}{H:Hp}
def aft.mono  {G G'}{Q}(e:Same G G')(h:aft K B G0 R r G σ Q):aft K B G0 R r G' σ Q:=by
 cases r with
 |ok d Z=>exact λv G2 H2 k s q=>h v G2 H2 k (e.trans s) q
 |bad=>exact h
def aft.done   {G G' H H'}{v}{Q}(h:aft K B G0 R (.ok d Z) G σ Q)(k:EOk K B G0 G H σ Z)(e:Ext G H G' H')(r:R G' v d):Q v H':=
 h v G' H' (k.ext e) e.g r
def aft.now   {G H}{v}{Q}(h:aft K B G0 R (.ok d Z) G σ Q)(k:EOk K B G0 G H σ Z)(r:R G v d):Q v H:=
 h v G H k (.refl _) r
def aft.opt     (h:aft K B G0 R (Kw o Z) G σ Q):∃d,o=O d/\aft K B G0 R (.ok d Z) G σ Q:=by
 cases o with
 |none=>exact h.elim
 |some d=>exact⟨d,rfl,h⟩
def tM.bind    (h:tM K B G0 S (Ku f k) σ H Q) :
  tM K B G0 R f σ H (λv H1=>∃G Z d,EOk K B G0 G H1 σ Z/\R G v d/\aft K B G0 S (k d Z) G σ Q):=by
 obtain⟨G,Z,e,a⟩:=h;refine⟨G,Z,e,?_⟩;unfold Ku at a;cases q:f Z with
 |bad=>rw[q]at a;exact a.elim
 |ok d Z1=>rw[q]at a;exact λv G' H' e' s r=>⟨G',Z1,d,e',r,aft.mono s a⟩
def tM.bind2{α' γ'}{R':Hp->γ'->α'->Prop}{f}{g:α->M α'}{k:α->α'->M β}{Q}(mo:∀G G' v d,Same G G'->R G v d->R G' v d)
  (h:tM K B G0 S (Ku f λx=>Ku (g x) λy=>k x y) σ H Q) :
  tM K B G0 R f σ H (λv H1=>∃x,tM K B G0 R' (g x) σ H1 λu H2=>∃G Z y,EOk K B G0 G H2 σ Z/\R G v x/\R' G u y/\aft K B G0 S (k x y Z) G σ Q):=by
 obtain⟨G,Z,e,a⟩:=tM.bind  h;refine⟨G,Z,e,?_⟩;cases q:f Z with
 |bad=>rw[q]at a;exact a.elim
 |ok d Z1=>
  rw[q]at a;intro v G' H' e' s r;obtain⟨G2,Z2,d2,e2,r2,a2⟩:=a v G' H' e' s r;refine⟨d2,G2,Z2,e2,?_⟩;unfold Ku at a2;cases q2:g d2 Z2 with
  |bad=>rw[q2]at a2;exact a2.elim
  |ok d3 Z3=>rw[q2]at a2;exact λu G3 H3 e3 s3 r3=>⟨G3,Z3,d3,e3,mo _ _ _ _ s3 r2,r3,aft.mono s3 a2⟩
end
def FC{K}(G G')(v)(d)(e:Same G G')(r:Rep K G v d):Rep K G' v d:=r.mono e
def tM.two{K}{B G0}{β δ}{S}{σ}{H}{f g}{k:D->D->M β}{Q:δ->Hp->Prop}{P:V->V->Hp->Prop}
  (h:tM K B G0 S (Ku f λx=>Ku g λy=>k x y) σ H Q)
  (i:∀v u H2 G Z x y,EOk K B G0 G H2 σ Z->Rep K G v x->Rep K G u y->aft K B G0 S (k x y Z) G σ Q->P v u H2) :
  tD K B G0 f σ H (λv H1=>tD K B G0 g σ H1 λu H2=>P v u H2):=by
 obtain⟨G,Z,e,a⟩:=tM.bind2   FC h;refine⟨G,Z,e,?_⟩;cases q:f Z with
 |bad=>rw[q]at a;exact a.elim
 |ok d Z1=>
  rw[q]at a;intro v G' H' e' s r;obtain⟨x,G2,Z2,e2,a2⟩:=a v G' H' e' s r;refine⟨G2,Z2,e2,?_⟩;cases q2:g Z2 with
  |bad=>rw[q2]at a2;exact a2.elim
  |ok d3 Z3=>rw[q2]at a2;intro u G3 H3 e3 s3 r3;obtain⟨G4,Z4,y,e4,r4,r5,a5⟩:=a2 u G3 H3 e3 s3 r3;exact i v u H3 G4 Z4 x y e4 r4 r5 a5
def tM.one{K}{B G0}{α β γ δ}{R}{S}{σ}{H}{f}{k:α->M β}{Q:δ->Hp->Prop}{P:γ->Hp->Prop}
  (h:tM K B G0 S (Ku f k) σ H Q) (i:∀v H2 G Z x,EOk K B G0 G H2 σ Z->R G v x->aft K B G0 S (k x Z) G σ Q->P v H2):tM K B G0 R f σ H P:=by
 obtain⟨G,Z,e,a⟩:=tM.bind  h;refine⟨G,Z,e,?_⟩;cases q:f Z with
 |bad=>rw[q]at a;exact a.elim
 |ok d Z1=>rw[q]at a;intro v G' H' e' s r;obtain⟨G2,Z2,d2,e2,r2,a2⟩:=a v G' H' e' s r;exact i v H' G2 Z2 d2 e2 r2 a2
section
variable{X:Cx}{B G0:Hp}{e a b:UC}{pos:Pos}
noncomputable def KZ  (h:PE X e t)(i:∀σ H Q,t' σ H Q->t σ H Q):PE X e t':=λpins s σ H Q I q=>h pins s σ H Q I (i σ H Q q)
noncomputable def YK  (h:PT X e t)(i:∀σ H Q,t' σ H Q->t σ H Q):PT X e t':=λpins s σ H Q I q=>h pins s σ H Q I (i σ H Q q)
noncomputable def paof   (h:PA X es t)(i:∀σ H Q,t' σ H Q->t σ H Q):PA X es t':=λps pins s σ H Q I q=>h ps pins s σ H Q I (i σ H Q q)
noncomputable def poof   (h:PO X eo t)(i:∀σ H Q,t' σ H Q->t σ H Q):PO X eo t':=λpins s σ H Q I q=>h pins s σ H Q I (i σ H Q q)
noncomputable def ZS{st}{t t'}(h:PS X st t)(i:∀D σ H,t' D σ H->t D σ H):PS X st t':=λpins s σ H D I q=>h pins s σ H D I (i D σ H q)
noncomputable def L7{st}{t t'}(h:PSs X st t)(i:∀D σ H,t' D σ H->t D σ H):PSs X st t':=λpins s σ H D I q=>h pins s σ H D I (i D σ H q)
noncomputable def UW(i:Nat):M D:=λZ=>match Z[i]? with
 |some (O (.pub d))=>.ok d Z
 |some (O (.own ds))=>.ok (.list ds) (Z.set i (O (.pub (.list ds))))
 |_=>.bad
def YF  (h:PE X e (ZA i)):PE X e (tD X.K B G0 (UW i)):=KZ h λσ H Q ⟨G,Z,k,a⟩=>by
 unfold UW at a;cases q:Z[i]? with
 |none=>rw[q]at a;exact a.elim
 |some o=>
  cases o with
  |none=>rw[q]at a;exact a.elim
  |some sl=>
   cases sl with
   |deep _ _=>rw[q]at a;exact a.elim
   |pub d=>rw[q]at a;obtain⟨v,h1,h2⟩:=k.pub i d q;exact⟨v,h1,a.now k h2⟩
   |own ds=>rw[q]at a;obtain⟨ad,G',h1,h2,h3,h4⟩:=k.publish q;exact⟨.ref ad,h1,a _ G' H h4 h2 h3⟩
def OV   (h:PE X e (tC v))(r:∀G,Rep X.K G v d):PE X e (tD X.K B G0 (U2 d)):=KZ h λσ H Q ⟨G,Z,k,a⟩=>a.now k (r G)
def Hl   : PE X (.Constant (.int i) j pos) (tD X.K B G0 (U2 (.int i))):=OV A4 λ_=>.int i
def qB   : PE X (.Constant (.bool i) j pos) (tD X.K B G0 (U2 (.bool i))):=OV CF λ_=>.bl i
def qA{j}:PE X (.Constant .none j pos) (tD X.K B G0 (U2 .none)):=OV A3 λ_=>.non
def BN   : PE X (.Constant (.str x) j pos) (tD X.K B G0 (U2 (.str x))):=OV A1 λ_=>.str x
noncomputable def U1{β:Type}(op:D->D->Option β)(f g:M D):M β:=Ku f λx=>Ku g λy=>Kw (op x y)
def OpD(X:Cx)(f:Ux->Ux->Sem Ux)(op:D->D->zU):Prop:=
 ∃r:R2,OpR X f r/\∀v u G H x y d Q,Same G H->Rep X.K G v x->Rep X.K G u y->op x y=O d->(∀w G' H',Ext G H G' H'->Rep X.K G' w d->Q w H')->r v u H Q
def TZ    (o:OpD X (binaryOp op) p)(ha:PE X a (tD X.K B G0 f))(hb:PE X b (tD X.K B G0 g)):PE X (.BinOp a op b pos) (tD X.K B G0 (U1 p f g)):=by
 obtain⟨r,h,i⟩:=o;refine KZ (Hk h ha hb) λσ H Q q=>?_;refine tM.two q λv u H2 G Z x y k rx ry a=>?_
 obtain⟨d,e,a⟩:=a.opt;exact i v u G H2 x y d Q k.gh rx ry e λw G' H' ex rw=>a.done k ex rw
def OpD.or   (h:OpD X f p)(h':OpD X f q):OpD X f (λx y=>(p x y).orElse λ_=>q x y):=by
 obtain⟨r,h1,i1⟩:=h;obtain⟨r',h2,i2⟩:=h';refine⟨_,h1.or h2,λv u G H x y d Q s rx ry e k=>?_⟩;dsimp only at e;cases z:p x y with
 |some d'=>rw[z]at e;have e'   :=Ja e;subst e';exact .inl (i1 v u G H x y d' Q s rx ry z k)
 |none=>rw[z]at e;exact .inr (i2 v u G H x y d Q s rx ry e k)
noncomputable def oII(g:Int->Int->zU):D->D->zU
 |.int i,.int j=>g i j
 |_,_=>zP
def FA   (e:oII g x y=O d):∃i j,x=.int i/\y=.int j/\g i j=O d:=by
 unfold oII at e;split at e
 .exact⟨_,_,rfl,rfl,e⟩
 simp_all
def OpD.int     (h:OpR X f (rI C g))(i:∀i j d,p i j=O d->C i j/\∀G,Rep X.K G (g i j) d):OpD X f (oII p):=by refine⟨_,h,λv u G H x y d Q s rx ry e k=>?_⟩;obtain⟨a,b,rfl,rfl,e⟩:=FA e;obtain⟨c,r⟩:=i a b d e;exact⟨a,b,rx.int_inv,ry.int_inv,c,k _ G H (.refl s) (r G)⟩
def OpD.int0   {p:Int->Int->D}(h:OpR X f (rI0 g))(i:∀i j G,Rep X.K G (g i j) (p i j)):OpD X f (oII λi j=>O (p i j)):=by refine⟨_,h,λv u G H x y d Q s rx ry e k=>?_⟩;obtain⟨a,b,rfl,rfl,e⟩:=FA e;cases e;exact⟨a,b,rx.int_inv,ry.int_inv,k _ G H (.refl s) (i a b G)⟩
end
section
variable{X:Cx}{B G0:Hp}{e a b c:UC}{pos:Pos}
def BM:OpD X (binaryOp .Add) (oII λi j=>O (.int (i+j))):=.int0 qk λ_ _ _=>.int _
def BL:OpD X (binaryOp .Sub) (oII λi j=>O (.int (i-j))):=.int0 qi λ_ _ _=>.int _
noncomputable def X0(i j:Int):zU:=if(-(2 ^ 64)<i/\i<2 ^ 64)∨(-(2 ^ 64)<j/\j<2 ^ 64)then O (.int (i*j))else zP
def qz:OpD X (binaryOp .Mult) (oII X0):=.int qh λi j d h=>by
 unfold X0 at h;split at h
 .rename_i c
  cases h;exact⟨c,λ_=>.int _⟩
 simp_all
noncomputable def RQ(i j:Int):zU:=if 0<j then O (.int (i % j))else zP
def BK:OpD X (binaryOp .Mod) (oII RQ):=.int qg λi j d h=>by
 unfold RQ at h;split at h
 .rename_i c
  cases h;exact⟨c,λ_=>.int _⟩
 simp_all
def km:OpR X (binaryOp .FloorDiv) (rI (λi j=>0<j/\j<2 ^ 200) λi j=>.int (i / j)):=opI λi j _ _ _ _ _ hc q=>by
 refine floordiv_int (by lia) (by rw[Int.fdiv_eq_ediv_of_nonneg i (by lia)];exact q) (.inl (PyProof.noPylong_of_log2 ?_));have h0:j.natAbs≠0:=by lia
 have:j.natAbs.log2<200:=(Nat.log2_lt h0).mpr (by lia)
 lia
noncomputable def RR(i j:Int):zU:=if 0<j/\j<2 ^ 200 then O (.int (i / j))else zP
def BJ:OpD X (binaryOp .FloorDiv) (oII RR):=.int km λi j d h=>by
 unfold RR at h;split at h
 .rename_i c
  cases h;exact⟨c,λ_=>.int _⟩
 simp_all
noncomputable def RP(i j:Int):zU:=if 0<=j/\j<=1000000/\i.natAbs<2 ^ 64 then O (.int (i ^ j.toNat))else zP
def BI:OpD X (binaryOp .Pow) (oII RP):=.int qf λi j d h=>by
 unfold RP at h;split at h
 .rename_i c
  cases h;exact⟨c,λ_=>.int _⟩
 simp_all
noncomputable def lim:(1000000:Nat)<=UD:=by decide
noncomputable def NR:D->D->zU
 |.str x,.str y=>if x.length+y.length<=1000000 then O (.str (x++y))else zP
 |_,_=>zP
def qy:OpD X (binaryOp .Add) NR:=by
 refine⟨_,ye,λv u G H x y d Q s rx ry e k=>?_⟩;unfold NR at e;split at e
 .split at e
  .rename_i c
   cases e;exact⟨_,_,rx.str_inv,ry.str_inv,QK c lim,k _ G H (.refl s) (.str _)⟩
  simp_all
 simp_all
def C4(K:Frag):R2:=λx y H Q=>∃l b xs zs,x=.ref l/\y=.ref b/\SqL K H l xs/\SqL K H b zs/\xs.length+zs.length<=UD/\∀p,H p=zP->Q (.ref p) (upd H p (.lst (xs++zs)))
def qx:OpR X (binaryOp .Add) (C4 X.K):=by
 intro pins s σ H x y v u Q I rx ry h;obtain⟨l,b,xs,zs,rfl,rfl,hH,hB,hz,q⟩:=h;cases rx;cases ry;obtain⟨its,r,⟨⟨c1,d1,t1,s1⟩,n1,e1,cJ,cI,cH⟩,z1⟩:=I.list hH;obtain⟨its2,r2,⟨⟨c2,d2,t2,s2⟩,n2,e2,ec2,ed2,et2⟩,z2⟩:=I.list hB;simp only at cJ cI cH ec2 ed2 et2;subst cJ cI cH ec2 ed2 et2;have hl:=r.length;have hl2:=r2.length;refine concat_meets ⟨_,e1,rfl⟩ ⟨_,e2,rfl⟩ noFill_list_add seq_list_add PySem.F.slot_list_add PySem.F.entry_list_add (PySem.F.args_list_add_2 _ _) (list_addW l b its.toArray its2.toArray n1 n2 zP zP s1 s2 (by grind)) ⟨e1,e2,?_⟩;have ea:its.toArray++its2.toArray=(its++its2).toArray:=by simp
 rw[ea];exact⟨.ref _,_,I.lnew  (r.append r2) (by simp_all),rfl,q _ I.fresh⟩
def BF(a)(t)(l)(items)(n)(sl) :
  Meets (Builtin.«int.__rmul__» ⟨[.int a t,.ref l],[]⟩) (λ_ R s=>s.heap.get? l=O {cls:=.type "list", dict:=zP,data:=.seq items n,slots:=sl}/\R (.ok (.ret Value.notImplemented)) s):=
 .of_wp λprog w A R s h=>by obtain⟨hl,h⟩:=h;wp_walk;exact⟨_,rfl,h⟩
def mulW(l)(items)(n:Nat)(x:Int)(u:Tok)(sl)(hc0:¬(!Builtin.List.listFitsIndex x)=zQ)(hc1:¬items.size*x.toNat > (2 ^ 63-1) / 8)(hc2:¬Builtin.List.listTooLong (items.size*x.toNat)=zQ) :
  Meets (Builtin.«list.__mul__» ⟨[.ref l,.int x u],[]⟩) (λ_ R s=>s.heap.get? l=O {cls:=.type "list", dict:=zP,data:=.seq items n,slots:=sl}/\R (.ok (.ret (Value.ref s.heap.objs.size))) {s with heap:=s.heap.push {cls:=Value.type "list", data:=Data.seq (List.foldl (λx1 x2=>x1++x2) #[] (UI (if items.isEmpty=zQ then 0 else x.toNat) items))},toks:=s.toks}):=
 .of_wp λprog w A R s h=>by
  obtain⟨hl,h⟩:=h;have hsz:=AutoListH.joined_fits hc2
  wp_walk;refine wpAny_ite_false (QG (Nat.not_lt.mpr hsz)) ?_;wp_walk;exact⟨_,rfl,h⟩
def BE(K:Frag):R2:=λx y H Q=>∃l k xs,x=.ref l/\y=.int k/\SqL K H l xs /\ -(2 ^ 63)<=k/\k<2 ^ 63/\xs.length*k.toNat<=UD /\
 ∀p,H p=zP->Q (.ref p) (upd H p (.lst (UI k.toNat xs).flatten))
def Fz:OpR X (binaryOp .Mult) (BE X.K):=by
 intro pins s σ H x y v u Q I rx ry h;obtain⟨l,k,xs,rfl,rfl,hH,h1,h2,hz,q⟩:=h;cases rx;obtain⟨t,rfl⟩:=ry;obtain⟨its,r,⟨⟨c1,d1,t1,sl⟩,n,e,cJ,cI,cH⟩,z⟩:=I.list hH;simp only at cJ cI cH;subst cJ cI cH;have hl:=r.length;have hlen:its.toArray.size*k.toNat<=UD:=by rw[Jh,←hl];exact hz
 have hcap:¬its.toArray.size*k.toNat > (2 ^ 63-1) / 8:=by
  have:(UD:Nat)<=(2 ^ 63-1) / 8:=by decide
  lia
 have hfit:¬(!Builtin.List.listFitsIndex k)=zQ:=by rw[fitsIndex_both h1 h2];exact Bool.false_ne_true
 have cn:¬Builtin.List.listTooLong (its.toArray.size*k.toNat)=zQ:=by rw[kt hlen];exact Bool.false_ne_true
 have hnew:List.foldl (λx1 x2=>x1++x2) #[] (UI (if its.toArray.isEmpty=zQ then 0 else k.toNat) its.toArray)=(UI k.toNat its).flatten.toArray:=by
  have f0   :=λm=>by have:=ER its m [];rw[Qw]at this;exact this
  rw[f0];cases its with
  |nil=>simp
  |cons a r'=>rw[if_neg (by simp)]
 refine wpAny_binaryOp_repeat_ref  (U:= "int") (by decide) ⟨_,e,rfl⟩ (λs'=>typeIs_int s' k t) noFill_list_mul F.fills_int_mul F.slot_int_rmul repeat_list F.slot_int_index.lookup
  (call_meets F.slot_int_rmul (typeIs_int s k t) F.entry_int_rmul (F.args_int_rmul_2 _ _) (BF k t l its.toArray n sl)
   ⟨e,rfl,⟨_,e,rfl⟩,call_meets F.slot_list_mul ⟨_,e,rfl⟩ F.entry_list_mul (F.args_list_mul_2 _ _) (mulW l its.toArray n k t sl hfit hcap cn) ⟨e,?_⟩⟩)
 rw[hnew];exact⟨.ref _,_,I.lnew  (r.rep k.toNat) (by rw[qJ,Nat.mul_comm];exact hz),rfl,q _ I.fresh⟩
noncomputable def L6:D->D->zU
 |.list x,.list y=>if x.length+y.length<=1000000 then O (.list (x++y))else zP
 |_,_=>zP
def qw:OpD X (binaryOp .Add) L6:=by
 refine⟨_,qx,λv u G H x y d Q s rx ry e k=>?_⟩;unfold L6 at e;split at e
 .split at e
  .rename_i c
   cases e;obtain⟨l,vs,rfl,h1,r1⟩:=rx.lst_inv;obtain⟨b,ws,rfl,h2,r2⟩:=ry.lst_inv;refine⟨l,b,vs,ws,rfl,rfl,s.seq h1,s.seq h2,by rw[r1.length,r2.length];exact QK c lim,λp hp=>k _ _ _ (Ext.new s hp) ?_⟩;exact .lst (SqL.of ZE) ((r1.append r2).mono (Z7 (s.free hp)))
  simp_all
 simp_all
def Reps.rep{K}{G}{vs}{ds}(r:Reps K G vs ds):∀n:Nat,Reps K G (UI n vs).flatten (UI n ds).flatten
 |0=>.nil
 |n+1=>by exact r.append (r.rep n)
noncomputable def L5:D->D->zU
 |.list x,.int k=>if -1000000<=k/\k<=1000000/\x.length*k.toNat<=1000000 then O (.list (UI k.toNat x).flatten)else zP
 |_,_=>zP
def qv:OpD X (binaryOp .Mult) L5:=by
 refine⟨_,Fz,λv u G H x y d Q s rx ry e k=>?_⟩;unfold L5 at e;split at e
 .split at e
  .rename_i c
   cases e;obtain⟨l,vs,rfl,h1,r1⟩:=rx.lst_inv;refine⟨l,_,vs,rfl,ry.int_inv,s.seq h1,by lia,by lia,by rw[r1.length];exact QK c.2.2 lim,λp hp=>k _ _ _ (Ext.new s hp) ?_⟩;exact .lst (SqL.of ZE) ((r1.rep _).mono (Z7 (s.free hp)))
  simp_all
 simp_all
noncomputable def Kg:D->D->zU
 |.int i,.int j=>O (.int (i+j))
 |.str x,.str y=>if x.length+y.length<=1000000 then O (.str (x++y))else zP
 |.list x,.list y=>if x.length+y.length<=1000000 then O (.list (x++y))else zP
 |_,_=>zP
noncomputable def Zl:D->D->zU
 |.int i,.int j=>O (.int (i-j))
 |_,_=>zP
noncomputable def KB:D->D->zU
 |.int i,.int j=>X0 i j
 |.list x,.int k=>if -1000000<=k/\k<=1000000/\x.length*k.toNat<=1000000 then O (.list (UI k.toNat x).flatten)else zP
 |_,_=>zP
noncomputable def Y2:D->D->zU
 |.int i,.int j=>RQ i j
 |_,_=>zP
noncomputable def Va:D->D->zU
 |.int i,.int j=>RR i j
 |_,_=>zP
noncomputable def W9:D->D->zU
 |.int i,.int j=>RP i j
 |_,_=>zP
noncomputable def OpD.congr   (h:OpD X f p)(e:∀x y,q x y=p x y):OpD X f q:=by
 have   :=by funext x y;exact e x y
 simp_all
def L4:OpD X (binaryOp .Add) Kg:=(BM.or (qy.or qw)).congr λx y=>by cases x<;>cases y<;>first|rfl|(done)|(simp only[Kg,NR];split<;>rfl)
def L0:OpD X (binaryOp .Sub) Zl:=BL.congr λx y=>by cases x<;>cases y<;>rfl
def LZ:OpD X (binaryOp .Mult) KB:=(qz.or qv).congr λx y=>by cases x<;>cases y<;>first|rfl|(done)|(simp only[Option.orElse];split<;>first|rfl|assumption)
def BD:OpD X (binaryOp .Mod) Y2:=BK.congr λx y=>by cases x<;>cases y<;>rfl
def BC:OpD X (binaryOp .FloorDiv) Va:=BJ.congr λx y=>by cases x<;>cases y<;>rfl
def BB:OpD X (binaryOp .Pow) W9:=BI.congr λx y=>by cases x<;>cases y<;>rfl
end
section
variable{X:Cx}{B G0:Hp}{e a b c:UC}{pos:Pos}
def OpB(X:Cx)(f:Ux->Ux->Sem Ux)(op:D->D->ag):Prop:=
 ∃r:R2,OpR X f r/\∀v u G H x y d Q,Same G H->Rep X.K G v x->Rep X.K G u y->op x y=O d->Q (.bl d) H->r v u H Q
def OpB.or   (h:OpB X f p)(h':OpB X f q):OpB X f (λx y=>(p x y).orElse λ_=>q x y):=by
 obtain⟨r,h1,i1⟩:=h;obtain⟨r',h2,i2⟩:=h';refine⟨_,h1.or h2,λv u G H x y d Q s rx ry e k=>?_⟩;dsimp only at e;cases z:p x y with
 |some d'=>rw[z]at e;have e'   :=Ja e;subst e';exact .inl (i1 v u G H x y d' Q s rx ry z k)
 |none=>rw[z]at e;exact .inr (i2 v u G H x y d Q s rx ry e k)
noncomputable def OpB.congr   (h:OpB X f p)(e:∀x y,q x y=p x y):OpB X f q:=by
 have   :=by funext x y;exact e x y
 simp_all
def MI    (o:OpB X (UG op) p)(ha:PE X a (tD X.K B G0 f))(hb:PE X b (tD X.K B G0 g))(hm:behindInMarks op b=zR) :
  PT X (.Compare a [op] [b] pos) (tBo X.K B G0 (U1 p f g)):=by
 obtain⟨r,h,i⟩:=o;refine YK (MM h ha hb hm) λσ H Q q=>?_;refine tM.two q λv u H2 G Z x y k rx ry a=>?_
 obtain⟨d,e,a⟩:=a.opt;exact i v u G H2 x y d _ k.gh rx ry e ⟨d,rfl,a.now k zO⟩
noncomputable def Kb{α β:Type}(h:α->β)(f:M α):M β:=Ku f λx=>U2 (h x)
def tM.map{K}{α β γ δ}{R}{S}{σ}{H}{h:α->β}{f}{Q}(j:γ->δ)(q:tM K B G0 S (Kb h f) σ H Q)
  (i:∀G v x,R G v x->S G (j v) (h x)):tM K B G0 R f σ H (λv H'=>Q (j v) H'):=
 tM.one   q λv H2 G Z x k r a=>aft.now (a) k (i G v x r)
def tBo.val{K}{σ}{H}{f}{Q}(q:tD K B G0 (Kb UK f) σ H Q):tBo K B G0 f σ H (λb H'=>Q (.bl b) H'):=
 tM.map  V.bl q λG v x e=>by rw[e];exact .bl x
def qu    (o:OpB X (UG op) p)(ha:PE X a (tD X.K B G0 f))(hb:PE X b (tD X.K B G0 g))(hm:behindInMarks op b=zR) :
  PE X (.Compare a [op] [b] pos) (tD X.K B G0 (Kb UK (U1 p f g))):=by
 obtain⟨r,h,i⟩:=o;refine KZ (Ft h ha hb hm) λσ H Q q=>?_;refine tM.two (tBo.val q) λv u H2 G Z x y k rx ry a=>?_
 obtain⟨d,e,a⟩:=a.opt;exact i v u G H2 x y d _ k.gh rx ry e (a.now k zO)
noncomputable def Pf(p q:D->D->ag)(f g h:M D):M Bool:=Ku f λx=>Ku g λy=>Ku (Kw (p x y)) λt=>if t=zQ then Ku h λz=>Kw (q y z)else U2 zR
def wV  {p q}{f g h}(o:OpB X (UG op) p)(o':OpB X (UG op') q)(ha:PE X a (tD X.K B G0 f))(hb:PE X b (tD X.K B G0 g))(hc:PE X c (tD X.K B G0 h))
  (hm:lastMarks [op,op'] [b,c]=zR:=by with_unfolding_all rfl):PT X (.Compare a [op,op'] [b,c] pos) (tBo X.K B G0 (Pf p q f g h)):=by
 obtain⟨r,h1,i⟩:=o;obtain⟨r',h2,i'⟩:=o';refine YK (xQ h1 h2 ha hb hc hm) λσ H Q w=>?_;refine tM.two w λv u H2 G Z x y k rx ry a=>?_
 cases z:p x y with
 |none=>rw[z]at a;exact a.elim
 |some t=>
  rw[z]at a;refine i v u G H2 x y t _ k.gh rx ry z ⟨t,rfl,?_⟩;cases t with
  |false=>exact⟨zR,rfl,aft.now a k zO⟩
  |true=>
   refine⟨G,Z,k,?_⟩;have a4:aft X.K B G0 _ ((Ku h λz=>Kw _) Z) G σ Q:=a;unfold Ku at a4;cases z2:h Z with
   |bad=>rw[z2]at a4;exact a4.elim
   |ok d Z1=>rw[z2]at a4;intro w G5 H5 k5 s5 r5;obtain⟨t2,e2,a6⟩:=a4.opt;exact i' u w G5 H5 y d t2 _ k5.gh (ry.mono s5) r5 e2 ⟨t2,rfl,a6 t2 G5 H5 k5 s5 zO⟩
def wU  {p q}{f g h}(o:OpB X (UG op) p)(o':OpB X (UG op') q)(ha:PE X a (tD X.K B G0 f))(hb:PE X b (tD X.K B G0 g))(hc:PE X c (tD X.K B G0 h))
  (hm:lastMarks [op,op'] [b,c]=zR:=by with_unfolding_all rfl):PE X (.Compare a [op,op'] [b,c] pos) (tD X.K B G0 (Kb UK (Pf p q f g h))):=by
 obtain⟨r,h1,i⟩:=o;obtain⟨r',h2,i'⟩:=o';refine KZ (xR h1 h2 ha hb hc hm) λσ H Q w=>?_;refine tM.two (tBo.val w) λv u H2 G Z x y k rx ry a=>?_
 cases z:p x y with
 |none=>rw[z]at a;exact a.elim
 |some t=>
  rw[z]at a;refine i v u G H2 x y t _ k.gh rx ry z ⟨t,rfl,?_⟩;cases t with
  |false=>exact aft.now (v:=zR) a k zO
  |true=>
   refine⟨G,Z,k,?_⟩;have a4:aft X.K B G0 _ ((Ku h λz=>Kw _) Z) G σ _:=a;unfold Ku at a4;cases z2:h Z with
   |bad=>rw[z2]at a4;exact a4.elim
   |ok d Z1=>rw[z2]at a4;intro w G5 H5 k5 s5 r5;obtain⟨t2,e2,a6⟩:=a4.opt;exact i' u w G5 H5 y d t2 _ k5.gh (ry.mono s5) r5 e2 (a6 t2 G5 H5 k5 s5 zO)
noncomputable def oIB(g:Int->Int->Bool):D->D->ag
 |.int i,.int j=>O (g i j)
 |_,_=>zP
def OpB.int   (h:OpR X f (rI0 λi j=>.bl (g i j))):OpB X f (oIB g):=by
 refine⟨_,h,λv u G H x y d Q s rx ry e k=>?_⟩;unfold oIB at e;split at e
 .cases e
  exact⟨_,_,rx.int_inv,ry.int_inv,k⟩
 simp_all
def B_lt:OpB X (UG .Lt) (oIB λi j=>decide (i<j)):=.int Bk
def B_le:OpB X (UG .LtE) (oIB λi j=>decide (i<=j)):=.int Bj
def B_gt:OpB X (UG .Gt) (oIB λi j=>decide (j<i)):=.int Bh
def B_ge:OpB X (UG .GtE) (oIB λi j=>decide (j<=i)):=.int Bg
mutual
theorem XV{pins:List (UA×Obj)}{s:Uy}{σ:St}{G H:Hp}(I:Inv X pins σ H s)(sg:Same G H):∀{v:V}{d:D}{u:Ux},Rep X.K G v d->RelV v u->d.canLay0=zQ->∃as,Reads s.heap u d as:=by
 intro v d u h r c;cases h with
 |non=>cases r;exact⟨_,.none⟩
 |bl b=>cases r;exact⟨_,.bool b⟩
 |int i=>obtain⟨t,rfl⟩:=r;exact⟨_,.int i t⟩
 |str x=>obtain⟨t,rfl⟩:=r;exact⟨_,.str x t⟩
 |lst h q=>cases r;obtain⟨its,rv,⟨o,n,e,hc,_,hd⟩,hz⟩:=I.list (sg.seq h);obtain⟨as,ra⟩:=readsAll_of I sg q rv (show UN _=zQ by simpa[PyData.canLay0]using c);exact⟨_,.list e hc hd (by simpa using ra)⟩
 |tup h q=>cases r;obtain⟨its,rv,p,hz⟩:=I.tuple (Wd sg h);obtain⟨o,e,hc,n,hd⟩:=p;obtain⟨as,ra⟩:=readsAll_of I sg q rv (show UN _=zQ by simpa[PyData.canLay0]using c);exact⟨_,.tuple e hc hd (by simpa using ra)⟩
 |dic h=>simp[PyData.canLay0]at c
 |exc _ _ _ _=>simp[PyData.canLay0]at c
 |dct _ _ _ _ _=>simp[PyData.canLay0]at c
 |dtt _ _ _ _=>simp[PyData.canLay0]at c
theorem readsAll_of{pins:List (UA×Obj)}{s:Uy}{σ:St}{G H:Hp}(I:Inv X pins σ H s)(sg:Same G H):∀{vs:List V}{ds:zS}{us:zW},Reps X.K G vs ds->Vals vs us->UN ds=zQ->∃as,ReadsAll s.heap us ds as:=by
 intro vs ds us h r c;cases h with
 |nil=>cases r;exact⟨_,.nil⟩
 |cons h t=>
  cases r with
  |cons r1 r2=>have c':=c;rw[UN,QM]at c';obtain⟨as,ra⟩:=XV I sg h r1 c'.1;obtain⟨bs,rb⟩:=readsAll_of I sg t r2 c'.2;exact⟨_,.cons ra rb⟩
end
noncomputable def oEq(x y:D):ag:=if x.canLay0=zQ/\y.canLay0=zQ/\x.depth<=60 then O (UP x y)else zP
noncomputable def oNe(x y:D):ag:=if x.canLay0=zQ/\y.canLay0=zQ/\x.depth<=60 then O (!UP x y)else zP
def B_eq(hu:X.A.units+64<cLine):OpB X (UG .Eq) oEq:=by
 refine⟨λv u H Q=>∃G x y d,Same G H/\Rep X.K G v x/\Rep X.K G u y/\oEq x y=O d/\Q _ H,?_,λv u G H x y d Q s rx ry e k=>⟨G,x,y,d,s,rx,ry,e,k⟩⟩;intro pins s σ H x y v u Q I rx ry ⟨G,dx,dy,d,sg,px,py,e,q⟩;unfold oEq at e;split at e
 .rename_i c
  cases e;obtain⟨as,ra⟩:=XV I sg px rx c.1;obtain⟨bs,rb⟩:=XV I sg py ry c.2.1;exact SeqAt.compareEq_reads ra rb c.1 c.2.1 (by lia) ⟨.bl _,H,I,rfl,q⟩
 simp_all
def B_ne(hu:X.A.units+64<cLine):OpB X (UG .NotEq) oNe:=by
 refine⟨λv u H Q=>∃G x y d,Same G H/\Rep X.K G v x/\Rep X.K G u y/\oNe x y=O d/\Q _ H,?_,λv u G H x y d Q s rx ry e k=>⟨G,x,y,d,s,rx,ry,e,k⟩⟩;intro pins s σ H x y v u Q I rx ry ⟨G,dx,dy,d,sg,px,py,e,q⟩;unfold oNe at e;split at e
 .rename_i c
  cases e;obtain⟨as,ra⟩:=XV I sg px rx c.1;obtain⟨bs,rb⟩:=XV I sg py ry c.2.1;exact SeqAt.compareNe_reads ra rb c.1 c.2.1 (by have:=c.2.2;lia) ⟨.bl _,H,I,rfl,q⟩
 simp_all
noncomputable def isNon:D->Bool
 |.none=>zQ
 |_=>zR
noncomputable def Rep.isNon{K}{G}{v}{d}(r:Rep K G v d):DL.isNon d=decide (v=.non):=by cases r<;>simp[DL.isNon]
end
section
variable{X:Cx}{B G0:Hp}{e a b c:UC}{pos:Pos}{es rest:zV}
def tM.nx{K}{α β γ δ}{R}{S}{σ}{G H}{Z}{f}{g:α->M β}{Q:δ->Hp->Prop}{P:γ->Hp->Prop}
  (k:EOk K B G0 G H σ Z) (a:aft K B G0 S (Ku f g Z) G σ Q) (i:∀v H' G' Z' x,EOk K B G0 G' H' σ Z'->Same G G'->R G' v x->aft K B G0 S (g x Z') G' σ Q->P v H'):tM K B G0 R f σ H P:=by
 refine⟨G,Z,k,?_⟩;unfold Ku at a;cases q:f Z with
 |bad=>rw[q]at a;exact a.elim
 |ok d Z1=>rw[q]at a;exact λv G' H' e s r=>i v H' G' Z1 d e s r (aft.mono s a)
noncomputable def Zw(f g:M Bool):M Bool:=Ku f λt=>if t=zQ then g else U2 zR
noncomputable def mOr(f g:M Bool):M Bool:=Ku f λt=>if t=zQ then U2 zQ else g
noncomputable def KF(f:M Bool):M Bool:=Kb (λt=>!t) f
def qt{K}{f g}{σ}{H}{Q}(q:tBo K B G0 (Zw f g) σ H Q):tAnd (tBo K B G0 f) (tBo K B G0 g) σ H Q:=
 tM.one  q λv H2 G Z x k r a=>by
  subst r;cases v with
  |true=>exact⟨G,Z,k,a⟩
  |false=>exact aft.now  a k zO
def BH{K}{f g}{σ}{H}{Q}(q:tBo K B G0 (mOr f g) σ H Q):tOr (tBo K B G0 f) (tBo K B G0 g) σ H Q:=
 tM.one  q λv H2 G Z x k r a=>by
  subst r;cases v with
  |false=>exact⟨G,Z,k,a⟩
  |true=>exact aft.now  a k zO
noncomputable def pwof  (h:PW X e t)(i:∀σ H Q,t' σ H Q->t σ H Q):PW X e t':=λwh pins s σ H Q I q=>h wh pins s σ H Q I (i σ H Q q)
def kj  (ha:PT X a (tBo X.K B G0 f)):PW X (.BoolOp .And [a] pos) (tBo X.K B G0 f):=jJ ha
def qq{f:M Bool}(ha:PT X a (tBo X.K B G0 f)):PW X (.BoolOp .Or [a] pos) (tBo X.K B G0 f):=AY ha
def qp  (ha:PT X a (tBo X.K B G0 f))(hb:PW X (.BoolOp .And (b::rest) pos) (tBo X.K B G0 g)):PW X (.BoolOp .And (a::b::rest) pos) (tBo X.K B G0 (Zw f g)):=pwof (AX ha hb) λ_ _ _ q=>qt q
def BG  (ha:PT X a (tBo X.K B G0 f))(hb:PW X (.BoolOp .Or (b::rest) pos) (tBo X.K B G0 g)):PW X (.BoolOp .Or (a::b::rest) pos) (tBo X.K B G0 (mOr f g)):=pwof (CC ha hb) λ_ _ _ q=>BH q
def qo  (ha:PT X a (tBo X.K B G0 f)):PT X (.UnaryOp .Not a pos) (tBo X.K B G0 (KF f)):=YK (AW ha) λσ H Q q=>tM.map  _ q λ_ v x e=>by rw[e]
noncomputable def Zq(f:M D):M Bool:=Ku f λx=>match x with | .bool t=>U2 t|_=>λ_=>.bad
def ji  (h:PE X e (tD X.K B G0 f))(he:∀whole,isTrue e X.env whole=(do let v ←whole;standAt e.pos;holding [v] (truthy v)):=by intro _;rfl):PT X e (tBo X.K B G0 (Zq f)):=
 YK (AZ h he) λσ H Q q=>tM.one  q λv H2 G Z x k r a=>by
  cases x with
  |bool t=>exact⟨t,r.bl_inv,aft.now  a k zO⟩
  |_=>exact a.elim
noncomputable def Wm(f g:M D):M D:=Ku f λx=>match x with | .bool zQ=>g | .bool zR=>U2 (.bool zR)|_=>λ_=>.bad
noncomputable def Xf(f g:M D):M D:=Ku f λx=>match x with | .bool zQ=>U2 (.bool zQ) | .bool zR=>g|_=>λ_=>.bad
noncomputable def OG(f:M D):M D:=Ku f λx=>match x with | .bool t=>U2 (.bool (!t))|_=>λ_=>.bad
def jh  (ha:PE X a (tD X.K B G0 f))(hb:PE X (.BoolOp .And (b::rest) pos) (tD X.K B G0 g)):PE X (.BoolOp .And (a::b::rest) pos) (tD X.K B G0 (Wm f g)):=
 KZ (AU ha hb) λσ H Q q=>tM.one  q λv H2 G Z x k r a=>by
  cases x with
  |bool t=>
   refine⟨t,r.bl_inv,?_⟩;cases t with
   |true=>exact⟨G,Z,k,a⟩
   |false=>exact aft.now a k (.bl zR)
  |_=>exact a.elim
def Ai  (ha:PE X a (tD X.K B G0 f))(hb:PE X (.BoolOp .Or (b::rest) pos) (tD X.K B G0 g)):PE X (.BoolOp .Or (a::b::rest) pos) (tD X.K B G0 (Xf f g)):=
 KZ (Bt ha hb) λσ H Q q=>tM.one  q λv H2 G Z x k r a=>by
  cases x with
  |bool t=>
   refine⟨t,r.bl_inv,?_⟩;cases t with
   |false=>exact⟨G,Z,k,a⟩
   |true=>exact aft.now a k (.bl zQ)
  |_=>exact a.elim
def jg{op}{f:M D}(h:PE X a (tD X.K B G0 f)):PE X (.BoolOp op [a] pos) (tD X.K B G0 f):=AV h
def jf  (ha:PE X a (tD X.K B G0 f)):PE X (.UnaryOp .Not a pos) (tD X.K B G0 (OG f)):=
 KZ (AT ha) λσ H Q q=>tM.one  q λv H2 G Z x k r a=>by
  cases x with
  |bool t=>exact⟨t,r.bl_inv,aft.now a k (.bl _)⟩
  |_=>exact a.elim
noncomputable def mIf{α:Type}(f:M Bool)(g h:M α):M α:=Ku f λt=>if t=zQ then g else h
def wT   (hc:PT X c (tBo X.K B G0 f))(ha:PE X a (tD X.K B G0 g))(hb:PE X b (tD X.K B G0 h)):PE X (.IfExp c a b pos) (tD X.K B G0 (mIf f g h)):=
 KZ (xV hc ha hb) λσ H Q q=>tM.one  q λv H2 G Z x k r a=>by
  subst r;cases v with
  |true=>exact⟨G,Z,k,a⟩
  |false=>exact⟨G,Z,k,a⟩
def je   (ha:PE X a (tD X.K B G0 f)):PT X (.Compare a [.Is] [.Constant .none j p2] pos) (tBo X.K B G0 (Kb isNon f)):=
 YK (OZ (Hs ha)) λσ H Q q=>tM.one  q λv H2 G Z x k r a=>⟨_,rfl,aft.now a k (by rw[r.isNon])⟩
def Ee   (ha:PE X a (tD X.K B G0 f)):PT X (.Compare a [.IsNot] [.Constant .none j p2] pos) (tBo X.K B G0 (Kb (λd=>!isNon d) f)):=
 YK (OZ (jK ha)) λσ H Q q=>tM.one  q λv H2 G Z x k r a=>⟨_,rfl,aft.now a k (by dsimp only;rw[r.isNon])⟩
def jd   (ha:PE X a (tD X.K B G0 f)):PE X (.Compare a [.Is] [.Constant .none j p2] pos) (tD X.K B G0 (Kb (λd=>.bool (isNon d)) f)):=
 KZ (A0 (Hs ha)) λσ H Q q=>tM.one  q λv H2 G Z x k r a=>aft.now a k (by dsimp only;rw[r.isNon];exact .bl _)
noncomputable def UY:M zS:=U2 []
noncomputable def UZ(f:M D)(g:M zS):M zS:=Ku f λx=>Ku g λxs=>U2 (x::xs)
def Pp:PA X [] (tDs X.K B G0 UY):=paof Pg λσ H Q ⟨G,Z,k,a⟩=>aft.now a k .nil
def tM.twoA{K}{σ}{H}{f}{g}{β δ}{S}{k:D->zS->M β}{Q:δ->Hp->Prop}{P:V->List V->Hp->Prop}
  (h:tM K B G0 S (Ku f λx=>Ku g λy=>k x y) σ H Q)
  (i:∀v u H2 G Z x y,EOk K B G0 G H2 σ Z->Rep K G v x->Reps K G u y->aft K B G0 S (k x y Z) G σ Q->P v u H2) :
  tD K B G0 f σ H (λv H1=>tDs K B G0 g σ H1 λu H2=>P v u H2):=by
 obtain⟨G,Z,e,a⟩:=tM.bind2   FC h;refine⟨G,Z,e,?_⟩;cases q:f Z with
 |bad=>rw[q]at a;exact a.elim
 |ok d Z1=>
  rw[q]at a;intro v G' H' e' s r;obtain⟨x,G2,Z2,e2,a2⟩:=a v G' H' e' s r;refine⟨G2,Z2,e2,?_⟩;cases q2:g Z2 with
  |bad=>rw[q2]at a2;exact a2.elim
  |ok d3 Z3=>rw[q2]at a2;intro u G3 H3 e3 s3 r3;obtain⟨G4,Z4,y,e4,r4,r5,a5⟩:=a2 u G3 H3 e3 s3 r3;exact i v u H3 G4 Z4 x y e4 r4 r5 a5
def Wk   (ha:PE X e (tD X.K B G0 f))(hr:PA X es (tDs X.K B G0 g))(hs:UF (e::es) X.env=(zR,eval e X.env)::UF es X.env:=by rfl) :
  PA X (e::es) (tDs X.K B G0 (UZ f g)):=paof (SB ha hr hs) λσ H Q q=>tM.twoA q λv u H2 G Z x y k r1 r2 a=>aft.now a k (.cons r1 r2)
noncomputable def KN(f:M zS):M D:=Ku f λxs=>if xs.length<=1000000 then U2 (.tuple xs)else λ_=>.bad
noncomputable def KS(f:M zS):M D:=Ku f λxs=>if xs.length<=1000000 then U2 (.list xs)else λ_=>.bad
def O6  {f}(h:PA X es (tDs X.K B G0 f)):PE X (.Tuple es x1 pos) (tD X.K B G0 (KN f)):=
 KZ (BV h) λσ H Q q=>tM.one  q λv H2 G Z x k r a=>by
  split at a
  .rename_i c
   refine⟨by rw[r.length];exact QK c lim,λp hp=>?_⟩;exact aft.done a k (Ext.new k.gh hp) (.tup (SqT.of ZE) (r.mono (Z7 (k.gh.free hp))))
  .exact a.elim
def MH  (h:PA X es (tDs X.K B G0 f)):PE X (.List es pos) (tD X.K B G0 (KS f)):=
 KZ (Hq h) λσ H Q q=>tM.one  q λv H2 G Z x k r a=>by
  split at a
  .rename_i c
   refine⟨by rw[r.length];exact QK c lim,λp hp=>?_⟩;exact aft.done a k (Ext.new k.gh hp) (.lst (SqL.of ZE) (r.mono (Z7 (k.gh.free hp))))
  .exact a.elim
def oIx:D->D->zU
 |.list xs,.int i=>atI xs i
 |.tuple xs,.int i=>atI xs i
 |.str z,.int i=>if z.length<=1000000 then(atI z.cps.toList i).map λc=>.str ⟨#[c]⟩else zP
 |_,_=>zP
def Reps.atI{K}{G}{vs}{ds}{i}{d}(r:Reps K G vs ds)(h:L2.atI ds i=O d):∃v,L2.atI vs i=O v/\Rep K G v d:=by
 unfold L2.atI at h⊢;rw[r.length];cases z:ixN ds.length i with
 |none=>simp_all
 |some j=>rw[z]at h;exact r.get  h
def HP{K}{v u}{G H}{x y d:D}{Q}(s:Same G H)(rx:Rep K G v x)(ry:Rep K G u y)(e:oIx x y=O d)(k:∀w,Rep K G w d->Q w H):rIx K v u H Q:=by
 unfold oIx at e;split at e
 .obtain⟨l,vs,rfl,h1,r1⟩:=rx.lst_inv
  obtain⟨w,e1,r2⟩:=r1.atI e;exact .inl ⟨l,vs,_,w,rfl,ry.int_inv,s.seq h1,e1,k w r2⟩
 .obtain⟨l,vs,rfl,h1,r1⟩:=rx.tup_inv
  obtain⟨w,e1,r2⟩:=r1.atI e;exact .inr (.inl ⟨l,vs,_,w,rfl,ry.int_inv,Wd s h1,e1,k w r2⟩)
 .split at e
  .rename_i z i hz
   cases q:L2.atI z.cps.toList i with
   |none=>rw[q]at e;cases e
   |some ch=>rw[q]at e;cases e;exact .inr (.inr ⟨z,i,ch,rx.str_inv,ry.int_inv,QK hz lim,q,k _ (.str _)⟩)
  .cases e
 .cases e
def Ah  (ha:PE X a (tD X.K B G0 f))(hb:PE X b (tD X.K B G0 g))(hs:MK b):PE X (.Subscript a b pos) (tD X.K B G0 (U1 oIx f g)):=
 KZ (Hb Hn ha hb hs) λσ H Q q=>tM.two q λv u H2 G Z x y k rx ry a=>by obtain⟨d,e,a⟩:=a.opt;exact HP k.gh rx ry e λw r=>a.now k r
def U8(i:Nat)(g:M D):M D:=λZ=>match Z[i]? with
 |some (O (.pub d))=>(Ku g λy=>Kw (oIx d y)) Z
 |some (O (.own _))=>(Ku g λy=>λZ'=>match Z'[i]? with|some (O (.own ds))=>Kw (oIx (.list ds) y) Z'|_=>.bad) Z
 |_=>.bad
def Po   (ha:PE X a (ZA i))(hb:PE X b (tD X.K B G0 g))(hs:MK b):PE X (.Subscript a b pos) (tD X.K B G0 (U8 i g)):=
 KZ (Hb Hn ha hb hs) λσ H Q ⟨G,Z,k,a⟩=>by
  unfold U8 at a;cases q:Z[i]? with
  |none=>rw[q]at a;exact a.elim
  |some o=>
   cases o with
   |none=>rw[q]at a;exact a.elim
   |some sl=>
    cases sl with
    |deep _ _=>rw[q]at a;exact a.elim
    |pub d=>
     rw[q]at a;obtain⟨v,h1,h2⟩:=k.pub i d q;refine⟨v,h1,G,Z,k,?_⟩;dsimp only[Ku]at a;cases z:g Z with
     |bad=>rw[z]at a;exact a.elim
     |ok y Z1=>rw[z]at a;intro u G' H' k' s' r';obtain⟨d',e',a'⟩:=aft.opt a;exact HP k'.gh (h2.mono s') r' e' λw r=>a' w G' H' k' s' r
    |own ds=>
     rw[q]at a;obtain⟨ad,vs,h1,h2,h3,h4,h5⟩:=k.own i ds q;refine⟨.ref ad,h1,G,Z,k,?_⟩;dsimp only[Ku]at a;cases z:g Z with
     |bad=>rw[z]at a;exact a.elim
     |ok y Z1=>
      rw[z]at a;dsimp only at a;intro u G' H' k' s' r';cases z2:Z1[i]? with
      |none=>rw[z2]at a;exact a.elim
      |some o2=>
       cases o2 with
       |none=>rw[z2]at a;exact a.elim
       |some sl2=>
        cases sl2 with
        |deep _ _=>rw[z2]at a;exact a.elim
        |pub d2=>rw[z2]at a;exact a.elim
        |own es2=>
         rw[z2]at a;obtain⟨d',e',a'⟩:=aft.opt a;obtain⟨ad',vs',g1,g2,g3,g4,g5⟩:=k'.own i es2 z2;rw[h1]at g1;cases g1;cases y with
         |int j=>obtain⟨w,e1,r2⟩:=g5.atI e';exact .inl ⟨ad,vs',j,w,rfl,r'.int_inv,SqL.of g4,e1,a' w G' H' k' s' r2⟩
         |_=>cases e'
def cutD(xs:zS)(lo hi:zZ):zS:=(xs.drop (HT.sIx xs.length 0 lo)).take (HT.sIx xs.length xs.length hi-HT.sIx xs.length 0 lo)
def Reps.cut{K}{G}{vs}{ds}(r:Reps K G vs ds)(lo hi):Reps K G (Vc vs lo hi) (cutD ds lo hi):=by unfold Vc cutD;rw[r.length];exact(r.drop _).take _
noncomputable def YT:D->Option zZ
 |.int i=>O (O i)
 |_=>zP
def ki:PO X zP (tOi X.K B G0 (U2 zP)):=poof jP λσ H Q ⟨G,Z,k,a⟩=>aft.now a k zO
def kh  (h:PE X e (tD X.K B G0 f)):PO X (O e) (tOi X.K B G0 (Ku f λx=>Kw (YT x))):=poof (jO h) λσ H Q q=>tM.one  q λv H2 G Z x k r a=>by
 cases x with
 |int i=>exact⟨i,r.int_inv,aft.now  a k zO⟩
 |_=>exact a.elim
end
noncomputable def X2:List (D×D)->Bool
 |(.none,_)::_=>zQ
 |_=>zR
def Wq:D->String
 |.none=> "NoneType"
 |.bool _=> "bool"
 |.int _=> "int"
 |.str _=> "str"
 |.list _=> "list"
 |.tuple _=> "tuple"
 |.dict kvs=>if X2 kvs=zQ then "" else "dict"
def K2(d:D)(c:String):Bool:=Wq d==c || (Wq d == "bool" && c == "int")
def OF:D->Bool
 |.dict kvs=>X2 kvs
 |_=>zR
def nty{kvs:List (D×D)}{c}(h:(("dict" == c) || ("" == c))=zR):K2 (.dict kvs) c=zR:=by
 obtain⟨h1,h2⟩:=Bool.or_eq_false_iff.mp h
 show((if X2 kvs=zQ then "" else "dict")==c || ((if X2 kvs=zQ then "" else "dict") == "bool" && c == "int"))=zR
 cases X2 kvs with
 |true=>rw[Qu zO,h2];rfl
 |false=>rw[QJ (by decide),h1];rfl
def HN{ks:ac}{ds:zS}:Wq (.dict ((ks.map kD).zip ds)) = "dict" /\ OF (.dict ((ks.map kD).zip ds))=zR:=by
 cases ks with
 |nil=>exact⟨rfl,rfl⟩
 |cons k ks=>
  cases ds with
  |nil=>exact⟨rfl,rfl⟩
  |cons d ds=>cases k<;>exact⟨rfl,rfl⟩
def jc(K)(d:D)(c)(nx:OF d=zR)(hc:c = "int" ∨ c = "bool" ∨ c = "str" ∨ c = "list" ∨ c = "tuple" ∨ c = "dict"):PySem.W.kitOne K (.type (Wq d)) (.type c)=O (K2 d c):=by
 cases d with
 |dict kvs=>
  have e:Wq (.dict kvs) = "dict" :=by
   have nx:X2 kvs=zR:=nx
   show(if X2 kvs=zQ then "" else "dict")=_
   rw[nx];rfl
  unfold K2;rw[e];rcases hc with rfl|rfl|rfl|rfl|rfl|rfl<;>rfl
 |_=>rcases hc with rfl|rfl|rfl|rfl|rfl|rfl<;>rfl
section
variable{X:Cx}{B G0:Hp}{e a b c:UC}{pos:Pos}{es rest:zV}
def Xr(X:Cx)(f:Ux)(p:zS->zU):Prop:=
 ∃r,Xn X f r/\∀vs G H ds d Q,Same G H->Reps X.K G vs ds->p ds=O d->(∀w G' H',Ext G H G' H'->Rep X.K G' w d->Q w H')->r vs H Q
noncomputable def Zb(p:zS->zU)(f:M zS):M D:=Ku f λxs=>Kw (p xs)
def Sj  {p2}{id}{p}{f}(hc:Xr X (.builtin id) p)(hg:Gl X x)(hm:X.mg x=zP)(hv:bootBuiltins x=O (.builtin id))(ha:PA X (e::es) (tDs X.K B G0 f))(hn:x ≠ "__name__" :=by decide)(hdb:(x==("__debug__" : Str))=zR:=by decide)
  (he:UF (e::es) X.env=(zR,eval e X.env)::UF es X.env:=by rfl) (hpl:(backTo pos (UF es X.env)).any (·.1)=zR:=by rfl):PE X (.Call (.Name x p2) (e::es) [] pos) (tD X.K B G0 (Zb p f)):=by
 obtain⟨r,h,i⟩:=hc;refine KZ (Nx h hg hm hv ha hn hdb he hpl) λσ H Q q=>tM.one  q λv H2 G Z x k rr a=>?_
 obtain⟨d,e,a⟩:=a.opt;exact i v G H2 x d Q k.gh rr e λw G' H' ex rw=>a.done k ex rw
def yc  {p2}{T}{p}{f}(hc:Xr X (.type T) p)(hg:Gl X x)(hm:X.mg x=zP)(hv:bootBuiltins x=O (.type T))(ha:PA X (e::es) (tDs X.K B G0 f))(hn:x ≠ "__name__" :=by decide)(hdb:(x==("__debug__" : Str))=zR:=by decide)
  (he:UF (e::es) X.env=(zR,eval e X.env)::UF es X.env:=by rfl) (hpl:(backTo pos (UF es X.env)).any (·.1)=zR:=by rfl):PE X (.Call (.Name x p2) (e::es) [] pos) (tD X.K B G0 (Zb p f)):=by
 obtain⟨r,h,i⟩:=hc;refine KZ (Lo h hg hm hv ha hn hdb he hpl) λσ H Q q=>tM.one  q λv H2 G Z x k rr a=>?_
 obtain⟨d,e,a⟩:=a.opt;exact i v G H2 x d Q k.gh rr e λw G' H' ex rw=>a.done k ex rw
noncomputable def Reps.nil_inv{K:Frag}{G:Hp}{vs:List V}(r:Reps K G vs []):vs=[]:=by cases r;rfl
noncomputable def Reps.one_inv{K}{G}{vs}{d}(r:Reps K G vs [d]):∃v,vs=[v]/\Rep K G v d:=by
 cases r with
 |cons h t=>cases t;exact⟨_,rfl,h⟩
def Reps.two_inv{K}{G}{vs}{d d'}(r:Reps K G vs [d,d']):∃v v',vs=[v,v']/\Rep K G v d/\Rep K G v' d':=by
 cases r with
 |cons h t=>obtain⟨v',rfl,r'⟩:=t.one_inv;exact⟨_,v',rfl,h,r'⟩
noncomputable def Kn:zS->zU
 |[.list xs]=>O (.int xs.length)
 |[.tuple xs]=>O (.int xs.length)
 |[.str z]=>if z.length<=1000000 then O (.int z.length)else zP
 |_=>zP
def BA:Xr X (.builtin "len") Kn:=by
 refine⟨_,Ef,λvs G H ds d Q s r e k=>?_⟩;unfold Kn at e;split at e
 .cases e
  obtain⟨v,rfl,q⟩:=r.one_inv;obtain⟨l,ws,rfl,h1,r1⟩:=q.lst_inv;exact⟨.ref l,ws.length,rfl,.inl ⟨ws,s.seq h1,rfl⟩,by rw[r1.length];exact k _ G H (.refl s) (.int _)⟩
 .cases e
  obtain⟨v,rfl,q⟩:=r.one_inv;obtain⟨l,ws,rfl,h1,r1⟩:=q.tup_inv;exact⟨.ref l,ws.length,rfl,.inr ⟨ws,Wd s h1,rfl⟩,by rw[r1.length];exact k _ G H (.refl s) (.int _)⟩
 .split at e
  .rename_i z hz
   cases e;obtain⟨v,rfl,q⟩:=r.one_inv;exact⟨.str z,z.length,by rw[q.str_inv],⟨QK hz lim,rfl⟩,k _ G H (.refl s) (.int _)⟩
  simp_all
 simp_all
noncomputable def P2:zS->zU
 |[.int i,.int j]=>O (.int (if j > i then j else i))
 |_=>zP
def Ag(hc:X.calm=zQ):Xr X (.builtin "max") P2:=by
 refine⟨_,wN hc,λvs G H ds d Q s r e k=>?_⟩;unfold P2 at e;split at e
 .cases e
  obtain⟨v,v',rfl,r1,r2⟩:=r.two_inv;exact⟨_,_,by rw[r1.int_inv,r2.int_inv],k _ G H (.refl s) (.int _)⟩
 simp_all
noncomputable def Zk(i:Nat):M D:=λZ=>match Z[i]? with
 |some (O (.pub d))=>Kw (Kn [d]) Z
 |some (O (.own ds))=>.ok (.int ds.length) Z
 |_=>.bad
def Ed  {p2:Pos}(hg:Gl X "len")(hm:X.mg "len" = zP)(ha:PE X e (ZA i))(he:UF [e] X.env=[(zR,eval e X.env)]:=by rfl):PE X (.Call (.Name "len" p2) [e] [] pos) (tD X.K B G0 (Zk i)):=by
 refine KZ (Nx Ef hg hm PySem.boot_len (SB ha Pg (by rw[he];rfl)) (by decide) (by decide) (by rw[he];rfl) zO) λσ H Q ⟨G,Z,k,a⟩=>?_
 unfold Zk at a;cases q:Z[i]? with
 |none=>rw[q]at a;exact a.elim
 |some o=>
  cases o with
  |none=>rw[q]at a;exact a.elim
  |some sl=>
   cases sl with
   |deep _ _=>rw[q]at a;exact a.elim
   |pub d=>
    rw[q]at a;obtain⟨v,h1,h2⟩:=k.pub i d q;refine⟨v,h1,?_⟩;obtain⟨d',e',a'⟩:=aft.opt a;show ∃x n,[v]=[x]/\LenV X.K x H n/\Q (.int n) H;unfold Kn at e';split at e'
    .rename_i xs he'
     injection he' with cz ba;subst cz;cases e'
     obtain⟨l,ws,rfl,g1,r1⟩:=h2.lst_inv;exact⟨.ref l,ws.length,rfl,.inl ⟨ws,k.gh.seq g1,rfl⟩,by rw[r1.length];exact a'.now k (.int _)⟩
    .rename_i xs he'
     injection he' with cz ba;subst cz;cases e'
     obtain⟨l,ws,rfl,g1,r1⟩:=h2.tup_inv;exact⟨.ref l,ws.length,rfl,.inr ⟨ws,Wd k.gh g1,rfl⟩,by rw[r1.length];exact a'.now k (.int _)⟩
    .rename_i z he'
     injection he' with cz ba;subst cz
     split at e'
     .rename_i hz
      cases e';exact⟨.str z,z.length,by rw[h2.str_inv],⟨QK hz lim,rfl⟩,a'.now k (.int _)⟩
     .cases e'
    .cases e'
   |own ds=>rw[q]at a;obtain⟨ad,vs,h1,g2,g3,h4,h5⟩:=k.own i ds q;exact⟨.ref ad,h1,.ref ad,vs.length,rfl,.inl ⟨vs,SqL.of h4,rfl⟩,by rw[h5.length];exact aft.now a k (.int _)⟩
def jb  {s:Uy}{σ:St}{G H:Hp}{v:V}{u:Ux}{d:D}{cv:Ux}{t:Bool}{A:Around}{E}{Q}(I:Inv X pins σ H s)(sg:Same G H)(r:Rep X.K G v d)(rv:RelV v u)(nx:OF d=zR)
  (ek:PySem.W.kitOne X.K (.type (Wq d)) cv=O t) (h:∀tk,Q (.bool t) {s with toks:=tk}):UE (model X.prog X.w) A (call (.builtin "isinstance") [u,cv]) Q E s:=by
 cases r with
 |non=>cases rv;exact JF PySem.W.kitx_none I.kIn True.intro ek (λz=>nomatch z) h
 |bl y=>cases rv;exact JF PySem.W.kitx_bool I.kIn True.intro ek (λz=>nomatch z) h
 |int i=>obtain⟨t',rfl⟩:=rv;exact JF PySem.W.kitx_int I.kIn True.intro ek (λz=>nomatch z) h
 |str y=>obtain⟨t',rfl⟩:=rv;exact JF PySem.W.kitx_str I.kIn True.intro ek (λz=>nomatch z) h
 |lst hl _=>cases rv;obtain⟨its,r,⟨o,n,e,hc,_,hd⟩,hz⟩:=I.list (sg.seq hl);exact JF PySem.W.kitx_list I.kIn ⟨o,e,hc⟩ ek (λz=>nomatch z) h
 |tup hl _=>cases rv;obtain⟨its,r,p,hz⟩:=I.tuple (Wd sg hl);obtain⟨o,e,hc,_⟩:=p;exact JF PySem.W.kitx_tuple I.kIn ⟨o,e,hc⟩ ek (λz=>nomatch z) h
 |@dic ad hd=>
  cases rv;obtain⟨_,_,vs,_,p⟩:=(I.hok ad _ (sg _ _ hd))
  obtain⟨o,es,ep,h1,h2,_⟩:=p;exact JF PySem.W.kitx_dict I.kIn ⟨o,h1,h2.1⟩ ek (λz=>nomatch z) h
 |exc _ _ _ _=>cases nx
 |@dct ad ks vs ds kvs e0 _ _ hd _=>
  cases rv;subst e0;rw[HN.1]at ek;obtain⟨_,_,vs,_,p⟩:=(I.hok ad _ (sg _ _ hd))
  obtain⟨o,es,ep,h1,h2,_⟩:=p;exact JF PySem.W.kitx_dict I.kIn ⟨o,h1,h2.1⟩ ek (λz=>nomatch z) h
 |@dtt ad ob ks vs ds kvs e0 _ hd _=>
  cases rv;subst e0;obtain⟨_,_,_,xs,_,o,es,ep,h1,h2,_⟩:=(I.hok ad _ (sg _ _ hd))
  exact JF PySem.W.kitx_dict I.kIn ⟨o,h1,h2.1⟩ ek (λz=>nomatch z) h
def ja(c)(hc:c = "int" ∨ c = "bool" ∨ c = "str" ∨ c = "list" ∨ c = "tuple" ∨ c = "dict"):typeOf (.type c)=pure (.type "type"):=by rcases hc with rfl|rfl|rfl|rfl|rfl|rfl<;>kernel_rfl
def kg:Xn X (.builtin "isinstance") (λxs H Q=>∃v c G d,xs=[v,.ty c]/\Same G H/\Rep X.K G v d/\(c = "int" ∨ c = "bool" ∨ c = "str" ∨ c = "list" ∨ c = "tuple" ∨ c = "dict")/\Q (.bl (K2 d c)) H):=by
 intro pins s σ H xs us Q I r h;obtain⟨v,c,G,d,rfl,sg,rp,hc,q⟩:=h;obtain⟨u,w',rfl,r1,r2⟩:=NZ r;cases (r2);by_cases nx:OF d=zQ
 .cases rp with
  |@exc a C dd bm nm vs ds ck hx hd rr=>
   refine kn (C5 I.ok.mod.kin) pins s σ H [.ref a,.ty c] [u,.type c] Q I r ⟨a,C,dd,bm,zR,.ty c,zR,rfl,⟨nm,ck⟩,sg _ _ hx,.inr ⟨c,rfl,ja c hc,?_⟩,?_⟩
   .rw[ck.ty];rcases hc with rfl|rfl|rfl|rfl|rfl|rfl<;>rfl
   .have e:K2 (.dict [(.none,.tuple [.str nm,.list ds])]) c=zR:=by rcases hc with rfl|rfl|rfl|rfl|rfl|rfl<;>rfl
    simp_all
  |dct e _ _ _ _=>subst e;rw[HN.2]at nx;simp_all
  |dtt e _ _ _=>subst e;cases nx
  |_=>cases nx
 .have nx   :=by simpa using nx
  exact jb I sg rp r1 nx (jc X.K d c nx hc) λtk=>⟨.bl _,H,I.tok tk,rfl,q⟩
noncomputable def zN:bootBuiltins "isinstance" = O (.builtin "isinstance"):=by decide +kernel
def OA  {p2 p3}{c}(hc:c = "int" ∨ c = "bool" ∨ c = "str" ∨ c = "list" ∨ c = "tuple" ∨ c = "dict")(hg:Gl X "isinstance")(hm:X.mg "isinstance" = zP)(hg2:Gl X (UR c))(hm2:X.mg (UR c)=zP)
  (hv2:bootBuiltins (UR c)=O (.type c)) (ha:PE X e (tD X.K B G0 f)) (hn2:(UR c) ≠ "__name__") (hd2:((UR c)==("__debug__" : Str))=zR)
  (hs:UF [e,.Name (UR c) p3] X.env=(zR,eval e X.env)::UF [.Name (UR c) p3] X.env:=by rfl)
  (hs2:UF [.Name (UR c) p3] X.env=[(zR,eval (.Name (UR c) p3) X.env)]:=by rfl) :
  PE X (.Call (.Name "isinstance" p2) [e,.Name (UR c) p3] [] pos) (tD X.K B G0 (Kb (λd=>.bool (K2 d c)) f)):=by
 refine KZ (Nx kg hg hm zN (SB ha (SB (jL (v:=.ty c) hg2 hm2 hv2 zO hn2 hd2) Pg (by rfl)) hs) (by decide) (by decide) hs (by rfl)) λσ H Q q=>?_
 refine tM.one  q λv H2 G Z x k r a=>?_
 exact⟨v,c,G,x,rfl,k.gh,r,hc,aft.now a k (.bl _)⟩
end
def spD(K:Frag)(n:Nat)(F:zS->zU):Sp:=λvs H Q _=>∃G ds d,vs.length=n/\Same G H/\Reps K G vs ds/\F ds=O d/\∀v G' H',Ext G H G' H'->Rep K G' v d->Q v H'
section
variable{K:Frag}{B G0 G H:Hp}{σ:St}{Z:U5}
noncomputable def EOk.exit(k:EOk K B G0 G H σ Z):Ext G0 B G H:=⟨k.bh,k.g0,k.gh,k.np⟩
def YG{α:Type}{l:List α}{i}{x y}(h:(l.set i x)[i]?=O y):y=x:=by
 by_cases hl:i<l.length
 .simp_all
 .simp_all
def DpOk.setOther   {y}(k:DpOk K B G H σ Z)(hy:∀s,y=O s->∃d,s=.pub d):DpOk K B G H (σ.set i x) (Z.set i y):=by
 have nz:∀{m:Nat}{s:Sl},(Z.set i y)[m]?=O (O s)->(∃d,s=.pub d)∨(Z[m]?=O _/\(σ.set i x)[m]?=σ[m]?):=λ{m s} q=>by
  by_cases z:i=m
  .subst z
   exact .inl (hy s (YG q).symm)
  .rw[Qq z]at q⊢;exact .inr ⟨q,rfl⟩
 refine k.map (λm p d q=>?_) (λm es q=>?_) λm p d v fp q s r w n=>⟨r,w⟩
 .rcases nz q with ⟨_,e⟩|q
  .cases e
  .exact q
 .rcases nz q with ⟨_,e⟩|q
  .cases e
  .exact⟨es,q⟩
def EOk.setPub  {v:V}{d}(k:EOk K B G0 G H σ Z)(r:Rep K G v d)(hi:i<Z.length):EOk K B G0 G H (σ.set i (O v)) (Z.set i (O (.pub d))) where
 bh:=k.bh
 gh:=k.gh
 g0:=k.g0
 np:=k.np
 len:=by rw[Jf,Jf];exact k.len
 pub:=λj d' q=>by
  by_cases z:i=j
  .subst z
   have:=YG q;cases this;exact⟨v,QW (by rw[←k.len];exact hi),r⟩
  .rw[Qq z]at q⊢
   exact k.pub j d' q
 own:=λj ds q=>by
  by_cases z:i=j
  .subst z
   have:=YG q;cases this
  .rw[Qq z]at q⊢
   exact k.own j ds q
 sep:=λj l c es fs q1 q2 s1 s2=>by
  have z1:i≠j:=λz=>by subst z;have:=YG q1;cases this
  have z2:i≠l:=λz=>by subst z;have:=YG q2;cases this
  rw[Qq z1]at q1 s1;rw[Qq z2]at q2 s2;exact k.sep j l c es fs q1 q2 s1 s2
 dp:=k.dp.setOther (λs e=>by cases e;exact⟨_,rfl⟩)
structure NewL(K:Frag)(B G H:Hp)(σ:St)(Z:U5)(a:UA)(vs:List V)(ds:zS):Prop where
 b:B a=zP
 g:G a=zP
 h:H a=O (.lst vs)
 r:Reps K G vs ds
 f:∀(j:Nat) es,Z[j]?=O (O (.own es))->σ[j]?≠O (O (.ref a))
 dp:∀(j:Nat) p d v fp,Z[j]?=O (O (.deep p d))->σ[j]?=O (O v)->RepO K G H p v d fp->a∉fp
def EOk.freshD   (k:EOk K B G0 G H σ Z)(e:Same H H')(ha:H a=zP){G'}{j:Nat}{p}{d}{v}{fp}(q:Z[j]?=O (O (.deep p d)))(s:σ[j]?=O (O v))(r:RepO K G' H' p v d fp):a∉fp:=λm=>by
 obtain⟨ω,k1,k2⟩:=k.dp;obtain⟨v',fp',s',r',n,w⟩:=k1 j p d q;rw[s]at s';cases s';have u:=r'.uniq e r;subst u;obtain⟨ws,hl⟩:=r'.isl a m
 lia
def EOk.setOwn  {a:UA}{vs:List V}{ds:zS}(k:EOk K B G0 G H σ Z)(n:NewL K B G H σ Z a vs ds)(hi:i<Z.length):EOk K B G0 G H (σ.set i (O (.ref a))) (Z.set i (O (.own ds))) where
 bh:=k.bh
 gh:=k.gh
 g0:=k.g0
 np:=k.np
 len:=by rw[Jf,Jf];exact k.len
 pub:=λj d' q=>by
  by_cases z:i=j
  .subst z
   have:=YG q;cases this
  .rw[Qq z]at q⊢
   exact k.pub j d' q
 own:=λj es q=>by
  by_cases z:i=j
  .subst z
   have:=YG q;cases this;exact⟨a,vs,QW (by rw[←k.len];exact hi),n.b,n.g,n.h,n.r⟩
  .rw[Qq z]at q⊢
   exact k.own j es q
 sep:=λj l c es fs q1 q2 s1 s2=>by
  have hs:i<σ.length:=by rw[←k.len];exact hi
  by_cases z1:i=j
  .subst z1
   rw[QW hs]at s1;cases s1;by_cases z2:i=l
   .exact z2
   .rw[Qq z2]at q2 s2
    exact absurd s2 (n.f l fs q2)
  .by_cases z2:i=l
   .subst z2
    rw[QW hs]at s2;cases s2;rw[Qq z1]at q1 s1;exact absurd s1 (n.f j es q1)
   .rw[Qq z1]at q1 s1
    rw[Qq z2]at q2 s2;exact k.sep j l c es fs q1 q2 s1 s2
 dp:=by
  obtain⟨ω,k1,k2⟩:=k.dp;have hs:i<σ.length:=by rw[←k.len];exact hi
  refine⟨λb=>if b=a then i else ω b,λj p d q=>?_,λj es b q s=>?_⟩
  .by_cases z:i=j
   .subst z;have:=YG q;cases this
   .rw[Qq z]at q⊢
    obtain⟨v,fp,s,r,nn,w⟩:=k1 j p d q;refine⟨v,fp,s,r,nn,λb m=>⟨(w b m).1,(w b m).2.1,?_⟩⟩;dsimp only;rw[QJ (λz=>n.dp j p d v fp q s r (by rw[←z];exact m))];exact(w b m).2.2
  .by_cases z:i=j
   .subst z
    rw[QW hs]at s;cases s;dsimp only;rw[Qu zO]
   .rw[Qq z]at q s
    dsimp only;rw[QJ (λe=>n.f j es q (by rw[←e];exact s))];exact k2 j es b q s
def EOk.change  {a:UA}{vs:List V}{ds es:zS}(k:EOk K B G0 G H σ Z)(q:Z[i]?=O (O (.own ds)))(ha:σ[i]?=O (O (.ref a)))(r:Reps K G vs es) :
  EOk K B G0 G (upd H a (.lst vs)) σ (Z.set i (O (.own es))):=by
 obtain⟨a',ws,h1,h2,h3,h4,h5⟩:=k.own i ds q;rw[ha]at h1;cases h1;refine⟨λb o e=>?_,λb o e=>?_,k.g0,k.np,by rw[Jf];exact k.len,λj d' e=>?_,λj fs e=>?_,λj l c fs gs q1 q2 s1 s2=>?_,?_⟩
 .rw[K7 (Y0 e h2)];exact k.bh b o e
 .rw[K7 (Y0 e h3)];exact k.gh b o e
 .by_cases z:i=j
  .subst z
   have:=YG e;cases this
  .rw[Qq z]at e
   exact k.pub j d' e
 .by_cases z:i=j
  .subst z
   have:=YG e;cases this;exact⟨a,vs,ha,h2,h3,ZE,r⟩
  .rw[Qq z]at e
   obtain⟨c,us,g1,g2,g3,g4,g5⟩:=k.own j fs e;have zc:c≠a:=λw=>z (k.sep i j a ds fs q e ha (by rw[←w];exact g1))
   exact⟨c,us,g1,g2,g3,by rw[K7 zc];exact g4,g5⟩
 .have f:∀{m:Nat}{ts:zS},(Z.set i (O (Sl.own es)))[m]?=O _->∃ts',Z[m]?=O (O (.own ts')):=λ{m ts} e=>by
   by_cases z:i=m
   .subst z;exact⟨ds,q⟩
   .rw[Qq z]at e;exact⟨ts,e⟩
  obtain⟨f1,w1⟩:=f q1;obtain⟨f2,w2⟩:=f q2;exact k.sep j l c f1 f2 w1 w2 s1 s2
 .refine k.dp.map (λj p d e=>?_) (λj fs e=>?_) λj p d v fp qj s rj w n=>⟨rj.upd (λ_ z=>by rw[h4]at z;cases z) (n i ds a q ha),w⟩
  .by_cases z:i=j
   .subst z;have:=YG e;cases this
   .rw[Qq z]at e;exact⟨e,rfl⟩
  .by_cases z:i=j
   .subst z;exact⟨ds,q,rfl⟩
   .rw[Qq z]at e;exact⟨fs,e,rfl⟩
end
inductive Out where
 |nx (Z:U5)|rt (d:D)|bk (Z:U5)|ct (Z:U5)|ex (Z:U5) (d:D)|ro (ds:zS)|bad
abbrev SM:=U5->Out
section
variable(K:Frag)(B G0:Hp)(KX:XW)
def aftS(o:Out)(G1:Hp)(Dn:Ends):Prop:=
 match o with
 |.nx Z=>∀σ G H,EOk K B G0 G H σ Z->Same G1 G->Dn.nx σ H
 |.bk Z=>∀σ G H,EOk K B G0 G H σ Z->Same G1 G->Dn.bk σ H
 |.ct Z=>∀σ G H,EOk K B G0 G H σ Z->Same G1 G->Dn.ct σ H
 |.rt d=>∀v G H,Ext G0 B G H->Rep K G v d->Dn.rt v H
 |.ro ds=>∀a vs G H,Ext G0 B G H->B a=zP->G a=zP->H a=O (.lst vs)->Reps K G vs ds->Dn.rt (.ref a) H
 |.ex Z d=>∀v σ G H,EOk K B G0 G H σ Z->Same G1 G->Rep K G v d->KX v σ H
 |.bad=>False
noncomputable def tS(g:SM):TS:=λDn σ H=>∃G Z,EOk K B G0 G H σ Z/\aftS K B G0 KX (g Z) G Dn
noncomputable def sB{α:Type}(f:M α)(g:α->SM):SM:=λZ=>match f Z with | .ok a Z'=>g a Z' | .bad=>.bad
end
section
variable{X:Cx}{B G0:Hp}{KX:XW}{e a b c:UC}{pos:Pos}{es rest:zV}{st:Stmt}{sts sts2:List Stmt}
def aftS.mono{K}{o}{G G'}{Dn}(e:Same G G')(h:aftS K B G0 KX o G Dn):aftS K B G0 KX o G' Dn:=by
 cases o with
 |nx Z=>exact λσ G2 H2 k s=>h σ G2 H2 k (e.trans s)
 |bk Z=>exact λσ G2 H2 k s=>h σ G2 H2 k (e.trans s)
 |ct Z=>exact λσ G2 H2 k s=>h σ G2 H2 k (e.trans s)
 |rt d=>exact h
 |ro ds=>exact h
 |ex Z d=>exact λv σ G2 H2 k s r=>h v σ G2 H2 k (e.trans s) r
 |bad=>exact h
def tS.bnd{K}{α γ}{R}{f:M α}{g}{Dn}{σ}{H}{P:γ->Hp->Prop}(q:tS K B G0 KX (sB f g) Dn σ H)
  (i:∀v H' G' Z' x,EOk K B G0 G' H' σ Z'->R G' v x->aftS K B G0 KX (g x Z') G' Dn->P v H'):tM K B G0 R f σ H P:=by
 obtain⟨G,Z,k,a⟩:=q;refine⟨G,Z,k,?_⟩;unfold sB at a;cases z:f Z with
 |bad=>rw[z]at a;exact a.elim
 |ok d Z1=>rw[z]at a;exact λv G' H' e s r=>i v H' G' Z1 d e r (aftS.mono s a)
noncomputable def sNx:SM:=λZ=>.nx Z
noncomputable def U3(g h:SM):SM:=λZ=>match g Z with | .nx Z'=>h Z'|o=>o
def Mm:PSs X [] (tS X.K B G0 KX sNx):=L7 jV λD σ H ⟨G,Z,k,a⟩=>a σ G H k (.refl _)
def Pn  (h1:PS X st (tS X.K B G0 KX g))(h2:PSs X sts (tS X.K B G0 KX h)):PSs X (st::sts) (tS X.K B G0 KX (U3 g h)):=L7 (xU h1 h2) λD σ H ⟨G,Z,k,a⟩=>by
 refine⟨G,Z,k,?_⟩;unfold U3 at a;cases z:g Z with
 |nx Z1=>rw[z]at a;exact λσ' G' H' k' s'=>⟨G',Z1,k',aftS.mono s' a⟩
 |rt d=>rw[z]at a;exact a
 |ro ds=>rw[z]at a;exact a
 |bk Z1=>rw[z]at a;exact a
 |ct Z1=>rw[z]at a;exact a
 |ex Z1 d=>rw[z]at a;exact a
 |bad=>rw[z]at a;exact a.elim
def Pe{g:SM}(h1:PS X st (tS X.K B G0 KX g)):PSs X [st] (tS X.K B G0 KX g):=jU h1
noncomputable def VC:SM:=λ_=>.bad
def kf:PS X st (tS X.K B G0 KX VC):=λ_ _ _ _ _ _ ⟨_,_,_,a⟩=>a.elim
noncomputable def Kc(f:M D):SM:=sB f λd _=>.rt d
def HM  (h:PE X e (tD X.K B G0 f)):PS X (.Return (O e) pos) (tS X.K B G0 KX (Kc f)):=ZS (AS h) λD σ H q=>tS.bnd  q λv H' G' Z' x k r a=>a v G' H' k.exit r
noncomputable def XI(f:M D):SM:=sB f λ_ Z=>.nx Z
def q9  (h:PE X e (tD X.K B G0 f))(hs:swapsWith e zP pos.line X.env=pure zR:=by rfl):PS X (.Expr e pos) (tS X.K B G0 KX (XI f)):=ZS (Fu h hs) λD σ H q=>tS.bnd  q λv H' G' Z' x k r a=>a σ G' H' k (.refl _)
noncomputable def sIf(f:M Bool)(g h:SM):SM:=sB f λt=>if t=zQ then g else h
def NV   (hc:PT X c (tBo X.K B G0 f))(ha:PSs X sts (tS X.K B G0 KX g))(hb:PSs X sts2 (tS X.K B G0 KX h)):PS X (.If c sts sts2 pos) (tS X.K B G0 KX (sIf f g h)):=
 ZS (Bq hc ha hb) λD σ H q=>tS.bnd  q λv H' G' Z' x k r a=>by
  subst r;cases v with
  |true=>exact⟨G',Z',k,a⟩
  |false=>exact⟨G',Z',k,a⟩
noncomputable def tG(K:Frag)(B G0:Hp)(s:D->U5->z8):TG:=λv σ H Q=>∃G Z d Z',EOk K B G0 G H σ Z/\Rep K G v d/\s d Z=O Z'/\∀σ' G' H',EOk K B G0 G' H' σ' Z'->Same G G'->Q σ' H'
noncomputable def tGs(K:Frag)(B G0:Hp)(s:zS->U5->z8):TGs:=λv σ H Q=>∃G Z d Z',EOk K B G0 G H σ Z/\Reps K G v d/\s d Z=O Z'/\∀σ' G' H',EOk K B G0 G' H' σ' Z'->Same G G'->Q σ' H'
noncomputable def pgof  (h:PG X e t)(i:∀v σ H Q,t' v σ H Q->t v σ H Q):PG X e t':=λpins s σ H v u Q I r q=>h pins s σ H v u Q I r (i v σ H Q q)
noncomputable def Hg  (h:PGs X es t)(i:∀v σ H Q,t' v σ H Q->t v σ H Q):PGs X es t':=λpins s σ H v u Q I r q=>h pins s σ H v u Q I r (i v σ H Q q)
noncomputable def gN(i:Nat):D->U5->z8:=λd Z=>if i<Z.length then O (Z.set i (O (.pub d)))else zP
def VE  (h:PG X e (N0 i)):PG X e (tG X.K B G0 (gN i)):=pgof h λv σ H Q ⟨G,Z,d,Z',k,r,e,q⟩=>by
 unfold gN at e;split at e
 .rename_i hi
  cases e;exact q _ G H (k.setPub r hi) (.refl _)
 simp_all
noncomputable def gN0:zS->U5->z8:=λd Z=>match d with | []=>O Z|_=>zP
noncomputable def gNC(s:D->U5->z8)(t:zS->U5->z8):zS->U5->z8:=λds Z=>match ds with|d::r=>(s d Z).bind (t r) | []=>zP
def OU:PGs X [] (tGs X.K B G0 gN0):=Hg jT λv σ H Q ⟨G,Z,d,Z',k,r,e,q⟩=>by
 cases r with
 |nil=>cases e;exact⟨rfl,q σ G H k (.refl _)⟩
 |cons _ _=>cases e
def VS   (h1:PG X e (tG X.K B G0 s))(h2:PGs X es (tGs X.K B G0 t))
  (hs:(UU (e::es) X.env).map (·.2)=assign e X.env::(UU es X.env).map (·.2):=by rfl):PGs X (e::es) (tGs X.K B G0 (gNC s t)):=Hg (xT h1 h2 hs) λv σ H Q ⟨G,Z,d,Z',k,r,e,q⟩=>by
 cases r with
 |nil=>cases e
 |@cons w dw ws dws rw rt=>
  unfold gNC at e;dsimp only at e;cases z:s dw Z with
  |none=>simp_all
  |some Z1=>rw[z]at e;refine⟨w,ws,rfl,G,Z,dw,Z1,k,rw,z,λσ' G' H' k' s'=>?_⟩;exact⟨G',Z1,dws,Z',k',rt.mono s',e,λσ2 G2 H2 k2 s2=>q σ2 G2 H2 k2 (s'.trans s2)⟩
noncomputable def gT(n:Nat)(t:zS->U5->z8):D->U5->z8:=λd Z=>match d with | .tuple ds=>if ds.length=n then t ds Z else zP|_=>zP
def OT{k1}{t}{n}(hc:X.calm=zQ)(h:PGs X es (tGs X.K B G0 t))
  (hn:(UU es X.env).length=n:=by rfl) (hst:(UU es X.env).findIdx? (·.1)=zP:=by rfl):PG X (.Tuple es k1 pos) (tG X.K B G0 (gT n t)):=pgof (AR hc h hn hst) λv σ H Q ⟨G,Z,d,Z',k,r,e,q⟩=>by
 unfold gT at e;split at e
 .split at e
  .rename_i hl
   obtain⟨ad,vs,rfl,h1,r1⟩:=r.tup_inv;exact⟨ad,vs,rfl,Wd k.gh h1,by rw[r1.length];exact hl,G,Z,_,Z',k,r1,e,q⟩
  simp_all
 simp_all
noncomputable def Zc(f:M D)(s:D->U5->z8):SM:=sB f λd Z=>match s d Z with|some Z'=>.nx Z'|none=>.bad
def Af  {f}{s}(he:PE X e (tD X.K B G0 f))(hg:PG X tg (tG X.K B G0 s))(hs:swapsWithSole [tg] e pos.line X.env=pure zR:=by rfl)(hw:swappedStores [tg] e X.env=pure zP:=by rfl)
  (h1:(UU [tg] X.env).map (·.2)=[assign tg X.env]:=by rfl):PS X (.Assign [tg] e pos) (tS X.K B G0 KX (Zc f s)):=
 ZS (AQ he hg hs hw h1) λD σ H q=>tS.bnd  q λv H' G' Z' x k r a=>by
  cases z:s x Z' with
  |none=>rw[z]at a;exact a.elim
  |some Z2=>rw[z]at a;exact⟨G',Z',x,Z2,k,r,z,λσ2 G2 H2 k2 s2=>a σ2 G2 H2 k2 s2⟩
noncomputable def Kj(i:Nat)(f:M D):SM:=Zc f (gN i)
def Ae     (hN:X.N.Nodup)(hi:X.N[i]?=O x)(hx:Loc X.env.scope x)(he:PE X e (tD X.K B G0 f))(hs:swapsWith e (O (.Name x p2)) pos.line X.env=pure zR:=by rfl)
  (hf:X.fn x=zQ∨X.env.scope.names.lookup x=O .local:=by first|exact .inl rfl|exact .inr rfl|assumption):PS X (.Assign [.Name x p2] e pos) (tS X.K B G0 KX (Kj i f)):=
 ZS (Ml hN hi hx he hs hf) λD σ H q=>tS.bnd  q λv H' G' Z' x k r a=>by
  unfold gN at a;split at a
  .rename_i Z2 hz
   split at hz
   .rename_i hi2
    cases hz;exact a _ G' H' (k.setPub r hi2) (.refl _)
   simp_all
  .exact a.elim
def tL(K:Frag)(B G0:Hp)(f:M zS):TE:=λσ H Q=>∃G Z,EOk K B G0 G H σ Z/\match f Z with
 |.ok ds Z'=>∀a vs G' H',EOk K B G0 G' H' σ Z'->Same G G'->NewL K B G' H' σ Z' a vs ds->Q (.ref a) H'
 |.bad=>False
noncomputable def Zn(i:Nat)(f:M zS):SM:=sB f λds Z=>if i<Z.length then .nx (Z.set i (O (.own ds)))else .bad
def Fy     (hN:X.N.Nodup)(hi:X.N[i]?=O x)(hx:Loc X.env.scope x)(he:PE X e (tL X.K B G0 f))(hs:swapsWith e (O (.Name x p2)) pos.line X.env=pure zR:=by rfl)
  (hf:X.fn x=zQ∨X.env.scope.names.lookup x=O .local:=by first|exact .inl rfl|exact .inr rfl|assumption):PS X (.Assign [.Name x p2] e pos) (tS X.K B G0 KX (Zn i f)):=
 ZS (Ml hN hi hx he hs hf) λD σ H ⟨G,Z,k,a⟩=>by
  refine⟨G,Z,k,?_⟩;unfold Zn sB at a;cases z:f Z with
  |bad=>rw[z]at a;exact a.elim
  |ok ds Z1=>
   rw[z]at a;intro ad vs G' H' k' s' n;dsimp only at a;split at a
   .rename_i hl
    exact a _ G' H' (k'.setOwn n hl) s'
   .exact a.elim
def NewL.of{K}{G H}{σ}{Z}{p}{vs}{ds}(k:EOk K B G0 G H σ Z)(hp:H p=zP)(r:Reps K G vs ds):NewL K B G (upd H p (.lst vs)) σ Z p vs ds where
 b:=k.bh.free hp
 g:=k.gh.free hp
 h:=ZE
 r:=r
 f:=λj es q z=>by
  obtain⟨a,ws,h1,h2,h3,h4,h5⟩:=k.own j es q
  lia
 dp:=λj pt d v fp q s rr=>k.freshD (Z7 hp) hp q s rr
def Fx  (h:PA X es (tDs X.K B G0 f)):PE X (.List es pos) (tL X.K B G0 (Ku f λxs=>if xs.length<=1000000 then U2 xs else λ_=>.bad)):=
 KZ (Hq h) λσ H Q ⟨G,Z,k,a⟩=>by
  refine⟨G,Z,k,?_⟩;unfold Ku at a;cases z:f Z with
  |bad=>simp_all
  |ok ds Z1=>
   rw[z]at a;dsimp only at a;intro v G' H' k' s' r;by_cases c:ds.length<=1000000
   .rw[Qu c]at a
    refine⟨by rw[r.length];exact QK c lim,λp hp=>?_⟩;exact a p v G' _ (k'.ext (Ext.hid k'.gh hp)) s' (NewL.of k' hp r)
   simp_all
noncomputable def ZI(i:Nat)(f:M D):SM:=λZ0=>match Z0[i]? with
 |some (O (.own _))=>sB f (λd Z=>match Z[i]? with
  |some (O (.own ds))=>if ds.length<1000000 then .nx (Z.set i (O (.own (ds++[d]))))else .bad
  |_=>.bad) Z0
 |_=>.bad
def HL  {f:M D}{o:UC}{apos cpos:Pos}(ho:PE X o (ZA i))(he:PE X e (tD X.K B G0 f))
  (hbase:attributeBase o "append" X.env (eval o X.env)=eval o X.env:=by rfl)
  (hfew:((backTo cpos (UF [e] X.env)).all (λx=>!x.1)&&(backToKw cpos (keywordEach [] X.env)).all (λx=>x.1.isSome)
   && decide ([e].length+([]:List Keyword).length+(if([]:List Keyword).isEmpty then 0 else 1)<30))=zQ:=by rfl)
  (hline:(apos.endLine==cpos.line)=zQ:=by rfl) (hs:UF [e] X.env=[(zR,eval e X.env)]:=by rfl)
  (hsw:swapsWith (.Call (.Attribute o "append" apos) [e] [] cpos) zP pos.line X.env=pure zR:=by rfl) :
  PS X (.Expr (.Call (.Attribute o "append" apos) [e] [] cpos) pos) (tS X.K B G0 KX (ZI i f)):=
 ZS (Fu (NS PySem.F.plainAttrs_list PySem.F.slot_list_append PySem.F.type_list_append EQ ho (SB he Pg (by rw[hs];rfl)) hbase hfew hline (by rw[hs];rfl) zO) hsw) λD σ H ⟨G,Z,k,a⟩=>by
  unfold ZI at a;cases q0:Z[i]? with
  |none=>rw[q0]at a;exact a.elim
  |some o0=>
   cases o0 with
   |none=>rw[q0]at a;exact a.elim
   |some sl0=>
    cases sl0 with
    |deep _ _=>rw[q0]at a;exact a.elim
    |pub d=>rw[q0]at a;exact a.elim
    |own bC=>
     rw[q0]at a;obtain⟨ad,vs0,h1,h2,h3,h4,h5⟩:=k.own i bC q0;refine⟨.ref ad,h1,.inl ⟨rfl,_,SqL.of h4⟩,G,Z,k,?_⟩;unfold sB at a;cases z:f Z with
     |bad=>rw[z]at a;exact a.elim
     |ok d Z1=>
      rw[z]at a;dsimp only at a;intro v G' H' k' s' r';cases q:Z1[i]? with
      |none=>rw[q]at a;exact a.elim
      |some o=>
       cases o with
       |none=>rw[q]at a;exact a.elim
       |some sl=>
        cases sl with
        |deep _ _=>rw[q]at a;exact a.elim
        |pub d=>rw[q]at a;exact a.elim
        |own ds=>
         rw[q]at a;dsimp only at a;split at a
         .rename_i hl
          obtain⟨ad',vs,g1,g2,g3,g4,g5⟩:=k'.own i ds q;rw[h1]at g1;cases g1;refine⟨ad,vs,v,rfl,rfl,g4,by rw[g5.length];exact QH hl lim,?_⟩;exact a σ G' _ (k'.change q h1 (g5.append (.cons r' .nil))) s'
         .exact a.elim
end
structure WU(K:Frag)(J:It)(ds:zS)(G1:Hp):Prop where
 go:∀i G H,Same G1 G->Same G H->i<ds.length->J.go i H
 stop:∀i G H,Same G1 G->Same G H->ds.length<=i->J.stop i H
 yld:∀i G H x H' d,Same G1 G->Same G H->ds[i]?=O d->J.yld i H x H'->∃G',Ext G H G' H'/\Rep K G' x d
def iD(K:Frag)(B G0:Hp)(f:M zS):TI:=λσ H R=>∃G Z,EOk K B G0 G H σ Z/\match f Z with
 |.ok ds Z'=>∀J G' H',EOk K B G0 G' H' σ Z'->Same G G'->WU K J ds G'->R J H'
 |.bad=>False
section
variable{X:Cx}{B G0:Hp}{KX:XW}{e a b c tg:UC}{pos:Pos}{es rest:zV}{st:Stmt}{sts sts2:List Stmt}
noncomputable def Wu  (h:PI X tg e t)(i:∀σ H R,t' σ H R->t σ H R):PI X tg e t':=λpins s σ H R I q=>h pins s σ H R I (i σ H R q)
def tM.toI{K}{α γ}{R0}{f:M α}{g}{σ}{H}{R}{P:γ->Hp->Prop}(q:iD K B G0 (Ku f g) σ H R)
  (i:∀v H' G' Z' x,EOk K B G0 G' H' σ Z'->R0 G' v x->(match g x Z' with
   |.ok ds Z2=>∀J G2 H2,EOk K B G0 G2 H2 σ Z2->Same G' G2->WU K J ds G2->R J H2
   |.bad=>False)->P v H'):tM K B G0 R0 f σ H P:=by
 obtain⟨G,Z,k,a⟩:=q;refine⟨G,Z,k,?_⟩;unfold Ku at a;cases z:f Z with
 |bad=>rw[z]at a;exact a.elim
 |ok d Z1=>
  rw[z]at a;intro v G' H' e s r;refine i v H' G' Z1 d e r ?_;dsimp only at a;cases z2:g d Z1 with
  |bad=>rw[z2]at a;exact a.elim
  |ok ds Z2=>rw[z2]at a;exact λJ G2 H2 k2 s2 it=>a J G2 H2 k2 (s.trans s2) it
def yb{K}{G1}{ad}{vs}{ds}(h:SqL K G1 ad vs)(r:Reps K G1 vs ds):WU K (Itl K ad) ds G1 where
 go:=λi G H s1 s2 hi=>by
  have hi':i<vs.length:=by rw[r.length];simp_all
  exact⟨vs,vs[i],(s1.trans s2).seq h,Qe hi'⟩
 stop:=λi G H s1 s2 hi=>⟨vs,(s1.trans s2).seq h,by rw[r.length];simp_all⟩
 yld:=λi G H x H' d s1 s2 e y=>by obtain⟨rfl,y⟩:=y;obtain⟨v,e1,r1⟩:=r.get e;have:=y vs ((s1.trans s2).seq h);rw[e1]at this;cases this;exact⟨G,.refl s2,r1.mono s1⟩
noncomputable def Ys(lo hi:Int):zS:=(UH (hi-lo).toNat).map λ(k:Nat)=>.int (lo+k)
def YZ(lo hi):(Ys lo hi).length=(hi-lo).toNat:=by unfold Ys;simp_all
def DG{K}{G1}(lo hi):WU K (Itr lo (hi-lo).toNat) (Ys lo hi) G1 where
 go:=λi G H s1 s2 h=>by rw[YZ]at h;exact h
 stop:=λi G H s1 s2 h=>by rw[YZ]at h;exact h
 yld:=λi G H x H' d s1 s2 e y=>by
  obtain⟨rfl,rfl⟩:=y;unfold Ys at e;rw[Qd]at e;have hi:i<(UH (hi-lo).toNat).length:=by refine Nat.lt_of_not_le λz=>?_;rw[Jx z]at e;cases e
  rw[Qe hi,List.getElem_range]at e;cases e;exact⟨G,.refl s2,.int _⟩
noncomputable def PY:zS->Option zS
 |[.int j]=>if j<=1000000 /\ -1000000<=j then O (Ys 0 j)else zP
 |_=>zP
noncomputable def PX:zS->Option zS
 |[.int i,.int j]=>if j<=1000000 /\ -1000000<=j/\i<=1000000 /\ -1000000<=i then O (Ys i j)else zP
 |_=>zP
noncomputable def YS(f:M zS):M zS:=Ku f λx=>Kw (PY x)
noncomputable def NU(f:M zS):M zS:=Ku f λx=>Kw (PX x)
def vI   (hg:Gl X "range")(hm:X.mg "range" = zP)(ha:PA X [a] (tDs X.K B G0 f))(hs:UF [a] X.env=[(zR,eval a X.env)]:=by rfl) :
  PI X tg (.Call (.Name "range" p2) [a] [] pos) (iD X.K B G0 (YS f)):=Wu (wR hg hm ha hs) λσ H R q=>tM.toI  q λv H' G' Z' x k r a=>by
 cases z:PY x with
 |none=>rw[z]at a;exact a.elim
 |some ds=>
  rw[z]at a;unfold PY at z;split at z
  .split at z
   .rename_i j c
    cases z;obtain⟨w,rfl,r'⟩:=r.one_inv;refine⟨j,by rw[r'.int_inv],by lia,by lia,?_⟩;have it:=DG (K:=X.K) (G1:=G') 0 j;rw[Int.sub_zero]at it;exact a _ G' H' k (.refl _) it
   simp_all
  simp_all
def vH  {p2}(hg:Gl X "range")(hm:X.mg "range" = zP)(ha:PA X [a,b] (tDs X.K B G0 f))(hs:UF [a,b] X.env=[(zR,eval a X.env),(zR,eval b X.env)]:=by rfl)(hs2:UF [b] X.env=[(zR,eval b X.env)]:=by rfl) :
  PI X tg (.Call (.Name "range" p2) [a,b] [] pos) (iD X.K B G0 (NU f)):=Wu (wQ hg hm ha hs hs2) λσ H R q=>tM.toI  q λv H' G' Z' x k r a=>by
 cases z:PX x with
 |none=>rw[z]at a;exact a.elim
 |some ds=>
  rw[z]at a;unfold PX at z;split at z
  .split at z
   .rename_i i j c
    cases z;obtain⟨w,w',rfl,r1,r2⟩:=r.two_inv;refine⟨i,j,by rw[r1.int_inv,r2.int_inv],⟨by lia,by lia,by lia,by lia⟩,?_⟩;exact a _ G' H' k (.refl _) (DG i j)
   simp_all
  simp_all
noncomputable def Yu(n:Nat):zS->zS
 |[]=>[]
 |d::r=>.tuple [.int n,d]::Yu (n+1) r
theorem YH:∀(n)(ds),(Yu n ds).length=ds.length
 |_,[]=>rfl
 |n,d::r=>by rw[Yu,QU,QU,YH]
theorem OB:∀(n)(ds)(i:Nat),(Yu n ds)[i]?=ds[i]?.map λd=>.tuple [.int ((n+i:Nat):Int),d]
 |_,[],i=>by simp[Yu]
 |n,d::r,0=>by simp[Yu]
 |n,d::r,i+1=>by
  rw[Yu,J6,J6,OB _ r i];have:n+1+i=n+(i+1):=by lia
  rw[this]
def ya{K}{G1}{ad}{vs}{ds}(h:SqL K G1 ad vs)(r:Reps K G1 vs ds):WU K (Ite K ad) (Yu 0 ds) G1 where
 go:=λi G H s1 s2 hi=>by
  rw[YH]at hi;have hi':i<vs.length:=by rw[r.length];exact hi
  exact⟨vs,vs[i],(s1.trans s2).seq h,Qe hi'⟩
 stop:=λi G H s1 s2 hi=>by rw[YH]at hi;exact⟨vs,(s1.trans s2).seq h,by rw[r.length];exact hi⟩
 yld:=λi G H x H' d s1 s2 e y=>by
  obtain⟨p,v,hp,rfl,y,rfl⟩:=y;rw[OB]at e;cases z:ds[i]? with
  |none=>rw[z]at e;cases e
  |some d0=>rw[z]at e;cases e;obtain⟨w,e1,r1⟩:=r.get z;have:=y vs ((s1.trans s2).seq h);rw[e1]at this;cases this;refine⟨upd G p _,Ext.new s2 hp,.tup (SqT.of ZE) (.cons ?_ (.cons ((r1.mono s1).mono (Z7 (s2.free hp))) .nil))⟩;rw[QX];exact .int _
noncomputable def PV:zS->Option zS
 |[.list ds]=>O (Yu 0 ds)
 |_=>zP
noncomputable def YR(f:M zS):M zS:=Ku f λx=>Kw (PV x)
def Fi   {elts}{x1}{tp}(hg:Gl X "enumerate")(hm:X.mg "enumerate" = zP)(ha:PA X [a] (tDs X.K B G0 f))(hs:UF [a] X.env=[(zR,eval a X.env)]:=by rfl) :
  PI X (.Tuple elts x1 tp) (.Call (.Name "enumerate" p2) [a] [] pos) (iD X.K B G0 (YR f)):=Wu (qI hg hm ha hs) λσ H R q=>tM.toI  q λv H' G' Z' x k r a=>by
 cases z:PV x with
 |none=>rw[z]at a;exact a.elim
 |some ds=>
  unfold PV at z;split at z
  .obtain⟨w,rfl,r'⟩:=r.one_inv
   obtain⟨ad,vs,rfl,h1,r1⟩:=r'.lst_inv;exact⟨ad,vs,rfl,k.gh.seq h1,a _ G' H' k (.refl _) (ya h1 r1)⟩
  simp_all
noncomputable def So(s:D->U5->z8)(g:SM):zS->SM
 |[],Z=>.nx Z
 |d::r,Z=>match s d Z with
  |none=>.bad
  |some Z1=>match g Z1 with
   |.nx Z2=>So s g r Z2
   |.ct Z2=>So s g r Z2
   |.bk Z2=>.nx Z2
   |.rt d=>.rt d
   |.ro ds=>.ro ds
   |.ex Z2 d=>.ex Z2 d
   |.bad=>.bad
noncomputable def KH(f:M zS)(s:D->U5->z8)(g:SM):SM:=sB f λds=>So s g ds
def Mf{iter:UC}{body:List Stmt}{f:M zS}{s}{g:SM}(hp:PassesOwn (model X.prog X.w) X.A X.env X.xe)(hc:X.calm=zQ)(hi:PI X tg iter (iD X.K B G0 f))(hg:PG X tg (tG X.K B G0 s))(hb:PSs X body (tS X.K B G0 KX g))
  (hs:∀x,UV iter X.env x=pure x:=by intro _;rfl):PS X (.For tg iter body [] pos) (tS X.K B G0 KX (KH f s g)):=
 ZS (ql hp hc hi hg hb hs) λDn σ H ⟨G,Z,k,a⟩=>by
  refine⟨G,Z,k,?_⟩;unfold KH sB at a;cases z:f Z with
  |bad=>rw[z]at a;exact a.elim
  |ok ds Z1=>
   rw[z]at a;intro J G1 H1 k1 s1 it;refine⟨λi m σ' H'=>m=ds.length-i/\∃G' Z',EOk X.K B G0 G' H' σ' Z'/\Same G1 G'/\aftS X.K B G0 KX (So s g (ds.drop i) Z') G' Dn,⟨ds.length,by lia,G1,Z1,k1,.refl _,by rw[List.drop_zero];exact aftS.mono s1 a⟩,?_⟩;rintro i m σ' H' ⟨rfl,G',Z',k',s',a'⟩;by_cases hi:i<ds.length
   .right
    refine⟨it.go i G' H' s' k'.gh hi,λσ2 H2=>∃G2 Z2,EOk X.K B G0 G2 H2 σ2 Z2/\Same G1 G2/\aftS X.K B G0 KX _ G2 Dn,λσ2 H2 h2=>⟨ds.length-(i+1),by lia,rfl,h2⟩,λx H2 y=>?_⟩;obtain⟨G2,ex,rx⟩:=it.yld i G' H' x H2 ds[i] s' k'.gh (Qe hi) y;rw[Ju hi,So]at a';cases z2:s ds[i] Z' with
    |none=>rw[z2]at a';exact a'.elim
    |some Z2=>
     rw[z2]at a';dsimp only at a';refine⟨G2,Z',ds[i],Z2,k'.ext ex,rx,z2,λσ3 G3 H3 k3 s3=>⟨G3,Z2,k3,?_⟩⟩;have s13:Same G1 G3:=(s'.trans ex.g).trans s3;cases z3:g Z2 with
     |nx Z3=>rw[z3]at a';exact λσ4 G4 H4 k4 s4=>⟨G4,Z3,k4,s13.trans s4,aftS.mono ((ex.g.trans s3).trans s4) a'⟩
     |ct Z3=>rw[z3]at a';exact λσ4 G4 H4 k4 s4=>⟨G4,Z3,k4,s13.trans s4,aftS.mono ((ex.g.trans s3).trans s4) a'⟩
     |bk Z3=>rw[z3]at a';exact λσ4 G4 H4 k4 s4=>a' σ4 G4 H4 k4 ((ex.g.trans s3).trans s4)
     |rt d=>rw[z3]at a';exact a'
     |ro ds=>rw[z3]at a';exact a'
     |ex Z3 d=>rw[z3]at a';exact λv σ4 G4 H4 k4 s4 r4=>a' v σ4 G4 H4 k4 ((ex.g.trans s3).trans s4) r4
     |bad=>rw[z3]at a';exact a'.elim
   .left
    rw[List.drop_eq_nil_of_le (by lia)]at a';exact⟨it.stop i G' H' s' k'.gh (by lia),a' σ' G' H' k' (.refl _)⟩
def ke    {ps}{F}{g}{x:Str}{p2:Pos}{n:Nat}(FK:FnOk X.prog X.w X.K X.mg X.base CX0 k f fd ps (spD X.K n F))(hr:Room k X.A)(hg:Gl X x)(hm:X.mg x=O (.ref f))(hk:PySem.W.keepIn X.K (.ref f)=zQ)
  (hb:T2 X.K fd ps []) (ha:PA X (e::es) (tDs X.K B G0 g)) (hn:(e::es).length=n) (hdb:(x==("__debug__" : Str))=zR:=by decide) (he:UF (e::es) X.env=(zR,eval e X.env)::UF es X.env:=by rfl) (hpl:(backTo pos (UF es X.env)).any (·.1)=zR:=by rfl) :
  PE X (.Call (.Name x p2) (e::es) [] pos) (tD X.K B G0 (Ku g λxs=>if xs.length=n then Kw (F xs)else λ_=>.bad)):=
 KZ (jR FK hr hg hm hk hb .nil Bb ha hdb he hpl) λσ H Q q=>tM.one  q λv H2 G Z ds k r a=>by
  split at a
  .rename_i hl
   obtain⟨d,e,a⟩:=a.opt;exact⟨G,ds,d,by rw[Jg,r.length];exact hl,k.gh,by rw[Jg];exact r,e,λw G' H' ex rw=>a.done k ex rw⟩
  .exact a.elim
end
noncomputable def WY(N:List Str)(ds:zS):U5:=(ds.map λd=>O (Sl.pub d))++UI (N.length-ds.length) zP
def ka{K}{N:List Str}{G H:Hp}{vs:List V}{ds:zS}(s:Same G H)(r:Reps K G vs ds):EOk K H G G H (L2.WZ N vs) (WY N ds) where
 bh:=.refl _
 gh:=s
 g0:=.refl _
 np:=λ_ _ _ n=>n
 len:=by unfold L2.WZ WY;rw[Qi,Qi,Qb,Qb,QO,QO,r.length]
 pub:=λi d q=>by
  unfold WY at q;unfold L2.WZ;by_cases hi:i<ds.length
  .rw[Qy (by rw[Qb];exact hi),Qd]at q
   cases z:ds[i]? with
   |none=>rw[z]at q;cases q
   |some d'=>rw[z]at q;cases q;obtain⟨v,e1,r1⟩:=r.get z;refine⟨v,?_,r1⟩;rw[Qy (by rw[Qb,r.length];exact hi),Qd,e1];rfl
  .rw[QI (by rw[Qb];lia),QA]at q
   split at q<;>cases q
 own:=λi es q=>by
  unfold WY at q;by_cases hi:i<ds.length
  .rw[Qy (by rw[Qb];exact hi),Qd]at q
   cases z:ds[i]? with
   |none=>rw[z]at q;cases q
   |some d'=>rw[z]at q;cases q
  .rw[QI (by rw[Qb];lia),QA]at q
   split at q<;>cases q
 sep:=λi j a es fs q _ _ _=>by
  unfold WY at q;by_cases hi:i<ds.length
  .rw[Qy (by rw[Qb];exact hi),Qd]at q
   cases z:ds[i]? with
   |none=>rw[z]at q;cases q
   |some d'=>rw[z]at q;cases q
  .rw[QI (by rw[Qb];lia),QA]at q
   split at q<;>cases q
 dp:=by
  have key:∀{i:Nat}{s:Sl},(WY N ds)[i]?=O (O s)->∃d,s=.pub d:=λ{i s} q=>by
   unfold WY at q;by_cases hi:i<ds.length
   .rw[Qy (by rw[Qb];exact hi),Qd]at q
    cases z:ds[i]? with
    |none=>rw[z]at q;cases q
    |some d'=>rw[z]at q;cases q;exact⟨_,rfl⟩
   .rw[QI (by rw[Qb];lia),QA]at q
    split at q<;>cases q
  exact .of (λi p d q=>by obtain⟨_,e⟩:=key q;cases e) λi ds q=>by obtain⟨_,e⟩:=key q;cases e
noncomputable def Ki(N:List Str)(g:SM)(ds:zS):zU:=match g (WY N ds)with
 |.rt d=>O d
 |.nx _=>O .none
 |_=>zP
def okD   {K}{mg}{base:Heap}{x qual:Str}{st:Stmt}{f:UA}{fd:UB}{N ps}{k n:Nat}{g:SM}(F:Fun K x qual st f fd)(S:Og N ps (Yw st))(hn:ps.length=n)
  (der:∀(cdv:Ux)(A:Around)(outer)(s:Uy)(H:Hp)(E:XK)(B G0:Hp),Room k (A.deeper (envOfC qual (Yw st) s.heap.objs.size f cdv)) ->
   PSs (X3 CX0 P w K mg base N qual (Yw st) f cdv A outer s H E).nox (VF st) (tS K B G0 KX0 g)):FnOk P w K mg base CX0 (k+1) f fd ps (spD K n (Ki N g)):=by
 refine F.ok S (λvs H Q E h=>?_) (λcdv A outer s H vs Q E hr h=>?_)
 .obtain⟨_,_,_,hl,_⟩:=h
  rw[hl,hn]
 .obtain⟨G,ds,d,hl,sg,r,hF,q⟩:=h
  refine⟨_,der cdv A outer s H E H G hr,G,WY N ds,ka sg r,?_⟩;unfold Ki at hF;cases z:g _ with
  |rt d'=>rw[z]at hF;cases hF;exact λv G' H' ex rr=>q v G' H' ex rr
  |nx Z=>rw[z]at hF;cases hF;exact λσ' G' H' k' _=>q .non G' H' k'.exit .non
  |ro ds=>rw[z]at hF;cases hF
  |bk Z=>rw[z]at hF;cases hF
  |ct Z=>rw[z]at hF;cases hF
  |ex Z d=>rw[z]at hF;cases hF
  |bad=>rw[z]at hF;cases hF
section
variable{X:Cx}{B G0:Hp}{e a b c tg:UC}{pos:Pos}{es rest:zV}
noncomputable def oNeg:D->zU
 |.int i=>O (.int (-i))
 |_=>zP
noncomputable def Yz(f:M D):M D:=Ku f λx=>Kw (oNeg x)
def Fh  (h:PE X a (tD X.K B G0 f)):PE X (.UnaryOp .USub a pos) (tD X.K B G0 (Yz f)):=
 KZ (Bl qe h) λσ H Q q=>tM.one  q λv H2 G Z x k r a=>by
  cases x with
  |int i=>exact⟨i,r.int_inv,aft.now a k (.int _)⟩
  |_=>exact a.elim
end
def Def(P:Uz)(w:World)(K:Frag)(mg:Str->zY)(base:Heap)(x:Str)(k n:Nat)(F:zS->zU):Prop:=
 ∃(f:UA)(fd:UB)(ps:List Str),mg x=O (.ref f)/\PySem.W.keepIn K (.ref f)=zQ/\T2 K fd ps []/\FnOk P w K mg base CX0 k f fd ps (spD K n F)
noncomputable def U7(n:Nat)(F:zS->zU)(g:M zS):M D:=Ku g λxs=>if xs.length=n then Kw (F xs)else λ_=>.bad
section
variable{X:Cx}{B G0:Hp}{e:UC}{pos:Pos}{es:zV}
def q8    {x}{p2}(d:Def X.prog X.w X.K X.mg X.base x k n F)(hr:Room k X.A)(hg:Gl X x)(ha:PA X (e::es) (tDs X.K B G0 g))(hn:(e::es).length=n:=by rfl)
  (hdb:(x==("__debug__" : Str))=zR:=by decide) (he:UF (e::es) X.env=(zR,eval e X.env)::UF es X.env:=by rfl) (hpl:(backTo pos (UF es X.env)).any (·.1)=zR:=by rfl) :
  PE X (.Call (.Name x p2) (e::es) [] pos) (tD X.K B G0 (U7 n F g)):=by
 obtain⟨f,fd,ps,h1,h2,h3,h4⟩:=d;exact ke h4 hr hg h1 h2 h3 ha hn hdb he hpl
end
def Def.mk   {K}{mg}{base}{x}{k n}{F}{st}{f}{fd}{ps}(hm:mg x=O (.ref f))(FU:Fun K x x st f fd)(hb:T2 K fd ps [])(ok:FnOk P w K mg base CX0 k f fd ps (spD K n F)) :
  Def P w K mg base x k n F:=⟨f,fd,ps,hm,FU.kp,hb,ok⟩
def Ad{K}{H}{a}{ns:zT}{F}{E}(hS:SqL K H a (ns.map V.int))(h:F [.list (ns.map int)]=O (.bool zQ)):spD K 1 F [.ref a] H (λv _=>v=.bl zQ) E:=
 ⟨H,[.list _],.bool zQ,rfl,.refl _,.cons (.lst hS (Reps.ints ns)) .nil,h,λ_ _ _ _ r=>r.bl_inv⟩
end DL
namespace L2
open PySem PySem.Spec PyProof.Rows
theorem mem_of_lookup   : ∀{l:List (Str×NameKind)},l.lookup x=O k->(x,k)∈l
 |[],h=>by cases h
 |(y,j)::r,h=>by
  rw[Q9]at h;split at h
  .simp_all
  .exact Qk _ (mem_of_lookup h)
theorem LA{env:Env}:∀(l:List (Str×NameKind))(acc:List (Str×UA)),(∀y∈l,y.2=.free->∃c,env.cells.lookup y.1=O c) ->
  ∃cl,(forIn l acc (λx r=>if(x.2==NameKind.free)=zQ then(do let a ←cellOf env x.1;pure (ForInStep.yield ((x.1,a)::r)))else pure (ForInStep.yield r)):Sem (List (Str×UA)))=pure cl /\
   (∀x c,cl.lookup x=O c->acc.lookup x=O c∨env.cells.lookup x=O c)/\(∀y∈l,y.2=.free->∃c,cl.lookup y.1=O c)/\(∀x c,acc.lookup x=O c->∃c',cl.lookup x=O c')
 |[],acc,_=>⟨acc,rfl,λ_ _ h=>.inl h,λ_ h=>absurd h (by simp),λx c h=>⟨c,h⟩⟩
 |(n,k)::r,acc,h=>by
  by_cases hk:k=.free
  .subst hk
   obtain⟨c,hc⟩:=h (n,.free) Ql zO;obtain⟨cl,e,p1,p2,p3⟩:=LA r ((n,c)::acc) λy hy=>h y (Qk _ hy)
   have hco:cellOf env n=pure c:=by unfold cellOf;rw[hc]
   have key:∀x c',((n,c)::acc).lookup x=O c'->acc.lookup x=O c'∨env.cells.lookup x=O c':=λx c' q=>by
    rw[Q9]at q;split at q
    .rename_i e1
     cases q;have:x=n:=by simpa using e1
     subst this;exact .inr hc
    .exact .inl q
   have own:((n,c)::acc).lookup n=O c:=by simp
   refine⟨cl,?_,λx c' q=>?_,λy hy hf=>?_,λx c' q=>?_⟩
   .rw[List.forIn_cons]
    have:(if(((n,NameKind.free):Str×NameKind).2==NameKind.free)=zQ then(do let a ←cellOf env n;pure (ForInStep.yield ((n,a)::acc)))else pure (ForInStep.yield acc):Sem _)=pure (ForInStep.yield ((n,c)::acc)):=by rw[hco];rfl
    refine Eq.trans ?_ e;rw[this];rfl
   .rcases p1 x c' q with z|z
    .exact key x c' z
    .exact .inr z
   .rcases Qx.mp hy with z|z
    .subst z
     exact p3 n c own
    .exact p2 y z hf
   .by_cases hx:x=n
    .subst hx;exact p3 x c own
    .refine p3 x c' ?_
     have hb:(x==n)=zR:=by simpa using hx
     rw[Q9,hb];exact q
  .obtain⟨cl,e,p1,p2,p3⟩:=LA r acc λy hy=>h y (Qk _ hy)
   refine⟨cl,?_,p1,λy hy hf=>?_,p3⟩
   .rw[List.forIn_cons]
    have hb:(k==NameKind.free)=zR:=by cases k<;>first|rfl|exact absurd zO hk
    refine Eq.trans ?_ e;dsimp only;rw[hb,QJ (by decide)];rfl
   .rcases Qx.mp hy with z|z
    .subst z;exact absurd hf hk
    .exact p2 y z hf
def w9   (h:∀y∈scope.names,y.2=.free->∃c,env.cells.lookup y.1=O c) :
  ∃cl,closureFor scope env=pure cl/\(∀x c,cl.lookup x=O c->env.cells.lookup x=O c)/\∀y∈scope.names,y.2=.free->∃c,cl.lookup y.1=O c:=by
 obtain⟨cl,e,p1,p2,_⟩:=LA scope.names [] h;refine⟨cl,?_,λx c q=>(p1 x c q).elim (λz=>by cases z) id,p2⟩;have e2:((forIn scope.names [] (λx r=>if(x.2==NameKind.free)=zQ then(do let a ←cellOf env x.1;pure (ForInStep.yield ((x.1,a)::r)))else pure (ForInStep.yield r)):Sem _) >>= λs=>pure s)=pure cl:=by rw[e];rfl
 exact e2
theorem DF{env:Env}{x}{k}:∀{names:List (Str×NameKind)},(names.map λ(n,k)=>if(k==NameKind.free&&env.scope.kind==.function&&env.kindOf n==O .cell)then(n,NameKind.cell)else(n,k)).lookup x=O k ->
  names.lookup x=O k∨(names.lookup x=O .free/\k=.cell)
 |[],h=>by cases h
 |(n,j)::r,h=>by
  have ih:=@DF env x k r;have h:List.lookup x ((if _=zQ then(n,NameKind.cell)else(n,j))::_)=O k:=h;cases hx:x==n with
  |true=>
   by_cases hc:(j==NameKind.free&&env.scope.kind==.function&&env.kindOf n==O .cell)=zQ
   .rw[Qu hc]at h
    simp only[Q9,hx]at h⊢;cases h;simp only[QM]at hc;have:j=.free:=by have:=hc.1.1;cases j<;>first|rfl|cases this
    subst this;exact .inr ⟨rfl,rfl⟩
   .rw[QJ hc]at h
    simp only[Q9,hx]at h⊢;exact .inl h
  |false=>
   by_cases hc:(j==NameKind.free&&env.scope.kind==.function&&env.kindOf n==O .cell)=zQ
   .rw[Qu hc]at h
    simp only[Q9,hx]at h⊢;exact ih h
   .rw[QJ hc]at h
    simp only[Q9,hx]at h⊢;exact ih h
theorem LW{env:Env}{x}:∀{names:List (Str×NameKind)},names.lookup x=O .free ->
  (names.map λ(n,k)=>if(k==NameKind.free&&env.scope.kind==.function&&env.kindOf n==O .cell)then(n,NameKind.cell)else(n,k)).lookup x=O .free ∨
  (names.map λ(n,k)=>if(k==NameKind.free&&env.scope.kind==.function&&env.kindOf n==O .cell)then(n,NameKind.cell)else(n,k)).lookup x=O .cell
 |[],h=>by cases h
 |(n,j)::r,h=>by
  have ih:=@LW env x r;show List.lookup x ((if _=zQ then(n,NameKind.cell)else(n,j))::_)=_∨List.lookup x ((if _=zQ then(n,NameKind.cell)else(n,j))::_)=_;cases hx:x==n with
  |true=>
   simp only[Q9,hx]at h;cases h;by_cases hc:(NameKind.free==NameKind.free&&env.scope.kind==.function&&env.kindOf n==O .cell)=zQ
   .rw[if_pos hc];simp[List.lookup_cons,hx]
   .rw[if_neg hc];simp[List.lookup_cons,hx]
  |false=>
   simp only[Q9,hx]at h;by_cases hc:(j==NameKind.free&&env.scope.kind==.function&&env.kindOf n==O .cell)=zQ
   .rw[Qu hc];simp only[Q9,hx];exact ih h
   .rw[QJ hc];simp only[Q9,hx];exact ih h
theorem Sh{env:Env}{x}{k}(hk:k≠.free):∀{names:List (Str×NameKind)},names.lookup x=O k ->
  (names.map λ(n,k)=>if(k==NameKind.free&&env.scope.kind==.function&&env.kindOf n==O .cell)then(n,NameKind.cell)else(n,k)).lookup x=O k
 |[],h=>by cases h
 |(n,j)::r,h=>by
  have ih:=@Sh env x k hk r;show List.lookup x ((if _=zQ then(n,NameKind.cell)else(n,j))::_)=_;cases hx:x==n with
  |true=>
   simp only[Q9,hx]at h;cases h;have:(k==NameKind.free)=zR:=by cases k<;>first|rfl|exact absurd zO hk
   rw[if_neg (by rw[this];simp)];simp[List.lookup_cons,hx]
  |false=>
   simp only[Q9,hx]at h;by_cases hc:(j==NameKind.free&&env.scope.kind==.function&&env.kindOf n==O .cell)=zQ
   .rw[Qu hc];simp only[Q9,hx];exact ih h
   .rw[QJ hc];simp only[Q9,hx];exact ih h
structure ClOk(env:Env)(scope:Scope)(cl:List (Str×UA))(L:UA)(h':Heap):Prop where
 old:∀x c,cl.lookup x=O c->env.cells.lookup x=O c∨(L<c/\h'.IsCell c zP)
 fre:∀x,scope.names.lookup x=O .free->∃c,cl.lookup x=O c/\env.cells.lookup x=O c
 cel:∀x,scope.names.lookup x=O .cell->∃c,cl.lookup x=O c/\L<c
 inj:∀x y c,cl.lookup x=O c->cl.lookup y=O c->L<c->x=y
theorem OC:∀(names)(n)(acc),cellsFrom n names acc=cellsFrom n names []++acc
 |[],_,_=>rfl
 |(x,k)::r,n,acc=>by
  unfold cellsFrom;split
  .rw[OC r _ _,OC r _ [(x,n)],Q5];rfl
  .exact OC r n acc
theorem LU:∀(names)(n)(x)(c),(x,c)∈cellsFrom n names []->(x,NameKind.cell)∈names
 |[],_,_,_,h=>by cases h
 |(y,k)::r,n,x,c,h=>by
  unfold cellsFrom at h;split at h
  .rw[OC]at h
   rcases Qz.mp h with h|h
   .exact Qk _ (LU r _ x c h)
   grind
  .exact Qk _ (LU r _ x c h)
def Ac{M:Model}{A:Around}{E}{scope:Scope}{env:Env}{bW:List (Str×UA)}{s:Uy}{Q:Env->Uy->Prop}(bV:∀x c,bW.lookup x=O c->env.cells.lookup x=O c)(cl2:∀y∈scope.names,y.2=.free->∃c,bW.lookup y.1=O c)(hn:∀y∈scope.names,scope.names.lookup y.1=O y.2)
  (hlt:∀x c,env.cells.lookup x=O c->c<s.heap.objs.size)
  (h:∀h' cl,h'.Ns s.heap.objs.size (λ_=>zP)->(∀b o,s.heap.get? b=O o->h'.get? b=O o)->ClOk env scope cl s.heap.objs.size h'->Q (newEnv scope s.heap.objs.size env.globals cl env.qual zP .none (O env) builtinsNs) {s with heap:=h'}) :
  UE M A (newFunctionEnv scope env.globals bW [] env.qual zP .none (O env)) Q E s:=by
 simp only[newFunctionEnv,Option.isSome_some,if_true];refine Qf (wpAny_alloc ?_);refine wpAny_bind (wpAny_layCells _ (λname kind cells=>by cases hkc:kind==NameKind.cell<;>simp[hkc]) _ _ _ _ ?_);have ok:=cellsFrom_ok scope.names (s.heap.push {cls:=.type "dict", data:=.dict #[]}) (s.heap.objs.size+1) [] ⟨λ_ _ hm=>(nomatch hm),List.Pairwise.nil⟩ (by rw[JK];exact Qv _);rw[JK]at ok;rw[JK ..];rw[List.forIn_nil];refine Qf (Qo (Qo (h _ _ ((Heap.Ns.new s.heap (.type "dict")).keeps (pushCells_keeps _ _)) (λb o e=>pushCells_keeps _ _ b o (Qj _ e)) ?_)));have look:∀x,(cellsFrom (s.heap.objs.size+1) scope.names bW).lookup x=((cellsFrom (s.heap.objs.size+1) scope.names []).lookup x).or (bW.lookup x):=λx=>by rw[OC,List.lookup_append]
 have own:∀x c,(cellsFrom (s.heap.objs.size+1) scope.names []).lookup x=O c->scope.names.lookup x=O .cell:=λx c e=>hn _ (LU _ _ _ _ (Ji e))
 refine⟨λx c e=>?_,λx e=>?_,λx e=>?_,λx y c e1 e2 hc=>?_⟩
 .rw[look]at e
  cases z:(cellsFrom (s.heap.objs.size+1) scope.names []).lookup x with
  |none=>rw[z]at e;exact .inl (bV x c e)
  |some c'=>rw[z]at e;cases e;obtain⟨h1,h2⟩:=ok.empty x c (Ji z);exact .inr ⟨h2,h1⟩
 .obtain⟨c,hc⟩:=cl2 (x,.free) (mem_of_lookup e) zO
  refine⟨c,?_,bV x c hc⟩;rw[look];cases z:(cellsFrom (s.heap.objs.size+1) scope.names []).lookup x with
  |none=>exact hc
  |some c'=>have:=own x c' z;rw[e]at this;cases this
 .obtain⟨c,hc⟩:=MU  e
  refine⟨c,by rw[look,hc];rfl,(ok.empty x c (Ji hc)).2⟩
 .rw[look]at e1 e2
  cases z1:(cellsFrom (s.heap.objs.size+1) scope.names []).lookup x with
  |none=>rw[z1]at e1;exact absurd (hlt x c (bV x c e1)) (Nat.lt_asymm hc)
  |some c1=>
  cases z2:(cellsFrom (s.heap.objs.size+1) scope.names []).lookup y with
  |none=>rw[z2]at e2;exact absurd (hlt y c (bV y c e2)) (Nat.lt_asymm hc)
  |some c2=>rw[z1]at e1;rw[z2]at e2;cases e1;cases e2;exact name_of_addr ok.apart (Ji z1) (Ji z2)
def Cx.blk(X:Cx)(N':List Str)(scope:Scope)(cl:List (Str×UA))(C:UA)(s₀:Uy)(H₀:Hp)(ex:zX):Cx:=
 {X with N:=N',s₀:=s₀,H₀:=H₀,env:=compEnvC scope cl C X.env,outer:=X.stack,ex:=ex,fn:=λx=>scope.names.lookup x==O .cell,xe:=λ_ _=>False}
section
variable{X:Cx}{N':List Str}{scope:Scope}{cl:List (Str×UA)}{C:UA}{s₀:Uy}{H₀:Hp}{ex:zX}{x:Str}
noncomputable def visK:Option NameKind->Bool
 |some .local=>zQ|some .free=>zQ|some .cell=>zQ|_=>zR
def qZ(h:visK (scope.names.lookup x)=zQ):Vis (X.blk N' scope cl C s₀ H₀ ex).env.scope x:=by
 cases z:scope.names.lookup x with
 |none=>rw[z]at h;cases h
 |some y=>
  rw[z]at h;cases y with
  | «local»=>exact .inl (Sh (by decide) z)
  |cell=>exact .inr (.inl (Sh (by decide) z))
  |free=>
   rcases LW  z with z|z
   .exact .inr (.inr z)
   .exact .inr (.inl z)
  |_=>cases h
noncomputable def locK:Option NameKind->Bool
 |some .local=>zQ|some .cell=>zQ|_=>zR
def Pm(h:locK (scope.names.lookup x)=zQ):Loc (X.blk N' scope cl C s₀ H₀ ex).env.scope x/\((X.blk N' scope cl C s₀ H₀ ex).fn x=zQ∨(X.blk N' scope cl C s₀ H₀ ex).env.scope.names.lookup x=O .local):=by
 cases z:scope.names.lookup x with
 |none=>rw[z]at h;cases h
 |some y=>
  rw[z]at h;cases y with
  | «local»=>exact⟨.inl (Sh (by decide) z),.inr (Sh (by decide) z)⟩
  |cell=>exact⟨.inr (Sh (by decide) z),.inl (by show(scope.names.lookup x==O .cell)=zQ;rw[z];rfl)⟩
  |_=>cases h
def Ab(h:scope.names.lookup x=O .globalImplicit):Gl (X.blk N' scope cl C s₀ H₀ ex) x:=Sh (by decide) h
end
noncomputable def Ou(names:List (Str×NameKind))(N N2:List Str)(k:Nat):Bool:=
 N2.length==N.length+k&&(UH N2.length).all λi=>match N2[i]? with
  |none=>zQ
  |some x=>match names.lookup x with
   |some .free=>N[i]?==O x
   |some .local=>decide (N.length<=i)&&decide (i<N.length+k)
   |some .cell=>decide (N.length<=i)&&decide (i<N.length+k)
   |_=>zQ
def yZ    (h:Ou names N N2 k=zQ) :
  N2.length=N.length+k/\∀(i) x,N2[i]?=O x->(names.lookup x=O .free->N[i]?=O x)/\(names.lookup x=O .local∨names.lookup x=O .cell->N.length<=i/\i<N.length+k):=by
 unfold Ou at h;simp only[QM,beq_iff_eq,Q2,QE]at h;refine⟨h.1,λi x e=>?_⟩;have hi:=(Qg.mp e).1;have:=h.2 i hi;rw[e]at this;refine⟨λq=>?_,λq=>?_⟩
 .simp_all
 .rcases q with q|q<;>(simp only[q]at this;simpa using this)
def Inv.enter{X:Cx}{pins:List (UA×Obj)}{σ:St}{H:Hp}{s3:Uy}(I:Inv X pins σ H s3){scope:Scope}{cl:List (Str×UA)}{N2:List Str}{k:Nat}{h':Heap}{fp:zX}{t':Nat}{m0:Str->zY}
  (hb:Ou scope.names X.N N2 k=zQ) (hkind:scope.kind=.function)
  (hfree:∀y∈scope.names,y.2=.free->X.env.scope.names.lookup y.1=O .cell∨X.env.scope.names.lookup y.1=O .free)
  (hc:ClOk X.env scope cl s3.heap.objs.size h')
  (hn:h'.Ns s3.heap.objs.size m0) (hk:∀b o,s3.heap.get? b=O o->h'.get? b=O o) (hf:∀b∈fp,Yh X pins H b) (hfo:∀b∈fp,∃o,s3.heap.get? b=O o) :
  Inv (X.blk N2 scope cl s3.heap.objs.size s3 H fp) pins (σ++UI k zP) H {s3 with heap:=h',toks:=t'}:=by
 obtain⟨hl,hN⟩:=yZ hb;have lt:∀b o,s3.heap.get? b=O o->b≠s3.heap.objs.size:=λb o e=>QZ (Qh e);have ofl:∀x,scope.names.lookup x=O .free->(x,NameKind.free)∈scope.names:=λx h=>mem_of_lookup h;have kinv:∀x kk,(X.blk N2 scope cl s3.heap.objs.size s3 H fp).env.scope.names.lookup x=O kk->scope.names.lookup x=O kk∨(scope.names.lookup x=O .free/\kk=.cell):=λx kk h=>DF (env:=X.env) h
 have isfc:∀x,(X.blk N2 scope cl s3.heap.objs.size s3 H fp).env.scope.names.lookup x=O .cell∨(X.blk N2 scope cl s3.heap.objs.size s3 H fp).env.scope.names.lookup x=O .free->scope.names.lookup x=O .free∨scope.names.lookup x=O .cell:=λx h=>by
  rcases h with h|h
  .rcases kinv x _ h with z|z
   .exact .inr z
   .exact .inl z.1
  .rcases kinv x _ h with z|z
   .exact .inl z
   .exact .inl z.1
 have lto   :=λx c e=>let ⟨_,q⟩:=I.cell x c e;q.lt
 have ok:(X.blk N2 scope cl s3.heap.objs.size s3 H fp).Ok:=
  {
   mod:=I.ok.mod
   kind:=hkind
   glob:=I.ok.glob
   blt:=I.ok.blt
   above:=Qv _
   inj:=λx y c a b=>by
    rcases hc.old x c a with q|⟨q,_⟩
    .rcases hc.old y c b with q'|⟨q',_⟩
     .exact I.ok.inj x y c q q'
     .exact absurd (lto x c q) (Nat.lt_asymm q')
    .exact hc.inj x y c a b q
   has:=λx h=>by
    rcases isfc x h with z|z
    .exact let ⟨c,e,_⟩:=hc.fre x z;⟨c,e⟩
    .exact let ⟨c,e,_⟩:=hc.cel x z;⟨c,e⟩
   cab:=λx c h e=>by
    have z:scope.names.lookup x=O .cell:=by have h:(scope.names.lookup x==O .cell)=zQ:=h;simpa using h
    obtain⟨c',e',l⟩:=hc.cel x z;have e:cl.lookup x=O c:=e;rw[e]at e';cases e';exact Us l
   hd:=I.ok.hd
   frames:=I.ok.frames
   stk:=.inl zO
   exf:=λb hb=>⟨let ⟨o,e⟩:=hfo b hb;lt b o e,λx c e=>by
    rcases hc.old x c e with q|⟨q,_⟩
    .exact(hf b hb).2.2.2.2.1 x c q
    .obtain⟨o,e'⟩:=hfo b hb
     exact JJ (Nat.lt_trans (Qh e') q)⟩
   bs:=I.bs
   bsz:=QK I.ok.bsz I.sz
   noex:=λb o e hb=>by
    rcases(hf b hb).2.2.2.1 with z|z
    .exact I.ok.noex b o e z
    .exact absurd (QH (Qh e) (QK I.ok.bsz z)) (Jp _)
   exfs:=λb hb hx=>by
    rcases Qx.mp (I.stkSub b hx)with z|z
    .exact(hf b hb).2.1 z
    .exact(hf b hb).2.2.1 z
   funs:=I.stack
   frf:=I.stkFree}
 refine⟨ok,rfl,I.bare,Un.kept hk,⟨m0,hn,λi x v e1 e2 e3=>?_⟩,λx c e=>?_,I.hok.fresh (Qv _),λx c e=>(hc.old x c e).elim (I.freeC x c) λq=>I.hok.fresh (Us q.1),λp hp=>?_,I.hok.kept hk,?_⟩
 .have nl:¬_:=λz=>by
   obtain⟨g1,g2⟩:=(hN i x e1).2 z;rw[←I.len]at g1 g2;rw[QI g1,QA]at e2;split at e2<;>cases e2
  have fr:scope.names.lookup x=O .free:=by
   rcases e3 with z|z
   .rcases kinv x _ z with q|q
    .exact absurd (.inl q) nl
    .cases q.2
   .rcases isfc x z with q|q
    .exact q
    .exact absurd (.inr q) nl
  have eN:=(hN i x e1).1 fr;have hi:i<σ.length:=by rw[I.len];exact(Qg.mp eN).1
  rw[Qy hi]at e2;obtain⟨m,hm,hlk⟩:=I.loc;have hkd:=hfree _ (ofl x fr) zO;obtain⟨u,r,l⟩:=hlk i x v eN e2 (.inr hkd);refine⟨u,r,.inr ⟨?_,?_⟩⟩
  .rcases e3 with z|z|z
   .rcases kinv x _ z with q|q
    .exact absurd (.inl q) nl
    .cases q.2
   .exact .inl z
   .exact .inr z
  .rcases l with l|⟨_,c,ec,z⟩
   .have:X.env.scope.names.lookup x=O .local:=l.1
    rcases hkd with q|q<;>(dsimp only at q;rw[this]at q;cases q)
   .obtain⟨c',ec',this⟩:=hc.fre x fr
    rw[ec]at this;cases this;obtain⟨o,ho,hd⟩:=z;exact⟨c,ec',o,hk c o ho,hd⟩
 .rcases hc.old x c e with q|⟨_,q⟩
  .obtain⟨v,o,ho,hd⟩:=I.cell x c q
   exact⟨v,o,hk c o ho,hd⟩
  .exact⟨_,q⟩
 .obtain⟨e,n,ne,nf,d⟩:=I.pin p hp
  refine⟨hk _ _ e,n,lt _ _ e,λz=>?_,d⟩;rcases Qx.mp (I.stkSub _ z)with q|q
  .exact ne q
  .exact nf q
 .rw[Qi,QO,I.len]
  exact hl.symm
noncomputable abbrev nox:Ux->Uy->Prop:=λ_ _=>False
def Ot(prog:Uz)(w:World)(A:Around)(tg:UC)(ifs:zV)(env:Env)(it:Ux)(code:Code)(W:(Uy->Prop)->Uy->Prop):Prop:=
 ∀(R:Result->Uy->Prop)(I:Nat->Uy->Prop)(n:Nat)(s:Uy),I n s ->
  (∀n s,I n s->UE (model prog w) A (pyNext it) (λr s₁=>match r with
   |none=>R (.ok .next) s₁
   |some v=>UE (model prog w) A (letOwnedTupleGo tg it v) (λ_ s₁'=>UE (model prog w) A (assign tg env v) (λ_ s₂=>
     UE (model prog w) A (forIn ifs zQ λc r=>if r=zQ then do let ok ←isTrue c env (eval c env);pure (ForInStep.yield ok)else pure (ForInStep.yield r)) (λok s₃=>
      if ok=zQ then W (λs₅=>∃m,m<n/\I m s₅) s₃ else ∃m,m<n/\I m s₃) nox s₂) nox s₁') nox s₁) nox s)->codeAny (model prog w) A code R s
section
variable{prog:Uz}{w:World}{A:Around}{elt tg i:UC}{ifs:zV}{gens:List Comprehension}{scope:Scope}{pos:Pos}{it acc:Ux}{env:Env}{j:Nat}
def vG(hg:gens[j]?=O ⟨tg,i,ifs,0⟩)(hn:gens[j+1]?=zP):Ot prog w A tg ifs env it (.compLoop (.ListComp elt gens scope pos) j it acc env)
  (λQ s=>UE (model prog w) A (eval elt env) (λx s₄=>UE (model prog w) A (call (.builtin "list.append") [acc,x]) (λ_ s₅=>Q s₅) nox s₄) nox s):=by
 intro R I n s h turn;refine codeAny_loop zO I (λn s hI=>?_) n h;refine wpAny_noted ?_;unfold compTurn;dsimp only;simp only[hg,hn];refine Qf (JD (Qf (QS (turn n s hI) (λr s₁ h₁=>?_) λ_ _ h'=>h'.elim)));cases r with
 |none=>exact Qo h₁
 |some v=>
  refine Qf (QS h₁ (λ_ s₁' h₁'=>?_) λ_ _ h'=>h'.elim);refine Qf (QS h₁' (λ_ s₂ h₂=>Qf (QS h₂ (λok s₃ h₃=>?_) λ_ _ h'=>h'.elim)) λ_ _ h'=>h'.elim);cases ok with
  |false=>exact Qo ⟨rfl,h₃⟩
  |true=>exact Qf (Qf (QS h₃ (λx s₄ h₄=>Qf (QS h₄ (λ_ s₅ h₅=>Qo (Qo ⟨rfl,h₅⟩)) λ_ _ h'=>h'.elim)) λ_ _ h'=>h'.elim))
def vF  {ifs1:zV}(hg:gens[j]?=O ⟨tg,i,ifs,0⟩)(hn:gens[j+1]?=O ⟨aY,i1,ifs1,0⟩)(hs:∀x,UV i1 env x=pure x):Ot prog w A tg ifs env it (.compLoop (.ListComp elt gens scope pos) j it acc env)
  (λQ s=>UE (model prog w) A (eval i1 env) (λx s₄=>UE (model prog w) A (pyIter x) (λaz s₅=>codeAny (model prog w) A (.compStart (.ListComp elt gens scope pos) (j+1) az acc env)
   (λr s₆=>match r with | .ok _=>Q s₆ | .error _=>False) s₅) nox s₄) nox s):=by
 intro R I n s h turn;refine codeAny_loop zO I (λn s hI=>?_) n h;refine wpAny_noted ?_;unfold compTurn;dsimp only;simp only[hg,hn];refine Qf (JD (Qf (QS (turn n s hI) (λr s₁ h₁=>?_) λ_ _ h'=>h'.elim)));cases r with
 |none=>exact Qo h₁
 |some v=>
  refine Qf (QS h₁ (λ_ s₁' h₁'=>?_) λ_ _ h'=>h'.elim);refine Qf (QS h₁' (λ_ s₂ h₂=>Qf (QS h₂ (λok s₃ h₃=>?_) λ_ _ h'=>h'.elim)) λ_ _ h'=>h'.elim);cases ok with
  |false=>exact Qo ⟨rfl,h₃⟩
  |true=>
   refine Qf (QS h₃ (λx s₄ h₄=>Qf (JD (Qf (wpAny_of_eq (hs x) (Qf (wpAny_holding (QS h₄ (λaz s₅ h₅=>?_) λ_ _ h'=>h'.elim))))))) λ_ _ h'=>h'.elim);refine Qf (wpAny_runOwn (codeAny_mono h₅ λr s₆ h₆=>?_));cases r with
   |ok f=>exact Qo ⟨rfl,h₆⟩
   |error x=>exact h₆.elim
def yY   (hg:gens[j]?=O ⟨tg,i,ifs,0⟩)
  (h0:codeAny (model prog w) A (.compLoop (.ListComp elt gens scope pos) j it acc env) R s)
  (h:UE (model prog w) A (pyIter it) (λit' s'=>codeAny (model prog w) A (.compLoop (.ListComp elt gens scope pos) j it' acc env) R s') nox s) :
  codeAny (model prog w) A (.compStart (.ListComp elt gens scope pos) j it acc env) R s:=by
 refine codeAny_of_tree ?_;refine wpAny_notedAt ?_;unfold compStart;have hc:(clausesOf (.ListComp elt gens scope pos))[j]?=O ⟨tg,i,ifs,0⟩:=hg;simp only[hc];refine Qf (wpAny_askSetting (wpAny_ite ?_));split
 .first
   |exact Qf _
   |exact Qo (And.intro rfl h0)
 .first
   |exact Qf _
   |(refine Qf (wpAny_rule ?_);exact Qf (JD (Qf (QS h (λit' s' h'=>Qo (And.intro rfl h')) λ_ _ x=>x.elim))))
end
end L2
namespace DL
open PySem PySem.Spec L2
open PyProof.Rows hiding St
noncomputable def WT:Option Sl->Option Sl
 |some (.own _)=>zP
 |some (.deep _ _)=>zP
 |x=>x
def KR(Z:U5):U5:=Z.map WT
def vE  {i:Nat}{d}(h:(KR Z)[i]?=O (O (.pub d))):Z[i]?=O (O (.pub d)):=by
 unfold KR at h;rw[Qd]at h;cases e:Z[i]? with
 |none=>simp_all
 |some o=>
  rw[e]at h;cases o with
  |none=>cases h
  |some sl=>cases sl with
   |pub d'=>cases h;rfl
   |own ds=>cases h
   |deep p d'=>cases h
def VX  {i:Nat}{ds}(h:(KR Z)[i]?=O (O (.own ds))):False:=by
 unfold KR at h;rw[Qd]at h;cases e:Z[i]? with
 |none=>simp_all
 |some o=>
  rw[e]at h;cases o with
  |none=>cases h
  |some sl=>cases sl with
   |pub d'=>cases h
   |own ds=>cases h
   |deep p d'=>cases h
def Lz  {i:Nat}{p}{d}(h:(KR Z)[i]?=O (O (.deep p d))):False:=by
 unfold KR at h;rw[Qd]at h;cases e:Z[i]? with
 |none=>simp_all
 |some o=>
  rw[e]at h;cases o with
  |none=>cases h
  |some sl=>cases sl<;>cases h
def Zf(s:D->U5->z8)(t:M Bool)(g:M D):zS->U5->zS->Option zS
 |[],_,es=>O es
 |d::r,Z,es=>match s d Z with
  |none=>zP
  |some Z1=>match t Z1 with
   |.bad=>zP
   |.ok b Z2=>if b=zQ then(match g Z2 with
     |.bad=>zP
     |.ok e Z3=>if es.length<1000000 then Zf s t g r (KR Z3) (es++[e])else zP)
    else Zf s t g r (KR Z2) es
def Za(f:M zS)(k:Nat)(s:D->U5->z8)(t:M Bool)(g:M D):M zS:=λZ=>match f Z with
 |.bad=>.bad
 |.ok ds Z1=>match Zf s t g ds (KR Z1++UI k zP) []with
  |none=>.bad
  |some es=>.ok es Z1
def X5(X:Cx)(ifs:zV)(t:TT):Prop:=
 ∀(pins:List (UA×Obj))(s:Uy)(σ:St)(H:Hp)(Q:Bool->Hp->Prop),Inv X pins σ H s->t σ H Q ->
  UE (model X.prog X.w) X.A (forIn ifs zQ λc r=>if r=zQ then do let ok ←isTrue c X.env (eval c X.env);pure (ForInStep.yield ok)else pure (ForInStep.yield r)) (TP X pins σ Q) X.xe s
section
variable{X:Cx}{B G0:Hp}
def qY:X5 X [] (tBo X.K B G0 (U2 zQ)):=λpins s σ H Q I ⟨G,Z,k,a⟩=>wpAny_tests_nil ⟨H,I,a zQ G H k (.refl _) zO⟩
def Fg   (h:PT X c (tBo X.K B G0 t)):X5 X [c] (tBo X.K B G0 t):=λpins s σ H Q I q=>wpAny_tests_one (h pins s σ H Q I q)
def EOk.rebase{K}{G H}{σ}{Z}(k:EOk K B G0 G H σ Z):EOk K H G G H σ (KR Z) where
 bh:=.refl _
 gh:=k.gh
 g0:=.refl _
 np:=λ_ _ _ n=>n
 len:=by unfold KR;rw[Qb];exact k.len
 pub:=λi d q=>k.pub i d (vE q)
 own:=λi ds q=>(VX q).elim
 sep:=λi j a ds es q=>(VX q).elim
 dp:=.of (λ_ _ _ q=>Lz q) λ_ _ q=>VX q
def EOk.more{K}{G H:Hp}{σ:St}{Z}(k:EOk K H G G H σ (KR Z))(n:Nat):EOk K H G G H (σ++UI n zP) (KR Z++UI n zP) where
 bh:=.refl _
 gh:=k.gh
 g0:=.refl _
 np:=λ_ _ _ n=>n
 len:=by rw[Qi,Qi,k.len,QO,QO]
 pub:=λi d q=>by
  by_cases hi:i<(KR Z).length
  .rw[Qy hi]at q
   rw[Qy (by rw[←k.len];exact hi)];exact k.pub i d q
  .rw[QI (Jk hi),QA]at q
   split at q<;>cases q
 own:=λi ds q=>by
  by_cases hi:i<(KR Z).length
  .rw[Qy hi]at q
   exact(VX q).elim
  .rw[QI (Jk hi),QA]at q
   split at q<;>cases q
 sep:=λi j a ds es q=>by
  by_cases hi:i<(KR Z).length
  .rw[Qy hi]at q
   exact(VX q).elim
  .rw[QI (Jk hi),QA]at q
   split at q<;>cases q
 dp:=by
  refine .of (λi p d q=>?_) λi ds q=>?_
  .by_cases hi:i<(KR Z).length
   .rw[Qy hi]at q;exact Lz q
   .rw[QI (Jk hi),QA]at q;split at q<;>cases q
  .by_cases hi:i<(KR Z).length
   .rw[Qy hi]at q;exact VX q
   .rw[QI (Jk hi),QA]at q;split at q<;>cases q
def EOk.beside{K}{G H}{σ}{Z}{a}{o}(k:EOk K B G0 G H σ Z)(hg:G a=zP):EOk K (upd H a o) G G (upd H a o) σ (KR Z) where
 bh:=.refl _
 gh:=λb u e=>by rw[K7 (λz=>by lia)];exact k.gh b u e
 g0:=.refl _
 np:=λ_ _ _ n=>n
 len:=k.rebase.len
 pub:=k.rebase.pub
 own:=λi ds q=>(VX q).elim
 sep:=λi j a ds es q=>(VX q).elim
 dp:=.of (λ_ _ _ q=>Lz q) λ_ _ q=>VX q
def lim1:1000000<=UD:=lim
noncomputable def Bz:Option Sl->Option Sl
 |some (.own ds)=>O (.pub (.list ds))
 |some (.deep _ d)=>O (.pub d)
 |x=>x
noncomputable def Yt(Z:U5):U5:=Z.map Bz
def EN  {i:Nat}{d}(h:(Yt Z)[i]?=O (O (.pub d))):Z[i]?=O (O (.pub d))∨(∃ds,d=.list ds/\Z[i]?=O (O (.own ds))) ∨ ∃p,Z[i]?=O (O (.deep p d)):=by
 unfold Yt at h;rw[Qd]at h;cases e:Z[i]? with
 |none=>simp_all
 |some o=>
  rw[e]at h;cases o with
  |none=>cases h
  |some sl=>cases sl with
   |pub d'=>cases h;exact .inl zO
   |own ds=>cases h;exact .inr (.inl ⟨ds,rfl,rfl⟩)
   |deep p d'=>cases h;exact .inr (.inr ⟨p,rfl⟩)
def PH  {i:Nat}{ds}(h:(Yt Z)[i]?=O (O (.own ds))):False:=by
 unfold Yt at h;rw[Qd]at h;cases e:Z[i]? with
 |none=>simp_all
 |some o=>
  rw[e]at h;cases o with
  |none=>cases h
  |some sl=>cases sl with
   |pub d'=>cases h
   |own ds=>cases h
   |deep p d'=>cases h
def DT  {i:Nat}{p}{d}(h:(Yt Z)[i]?=O (O (.deep p d))):False:=by
 unfold Yt at h;rw[Qd]at h;cases e:Z[i]? with
 |none=>simp_all
 |some o=>
  rw[e]at h;cases o with
  |none=>cases h
  |some sl=>cases sl<;>cases h
noncomputable def flat:D->Bool
 |.none=>zQ | .bool _=>zQ | .int _=>zQ | .str _=>zQ|_=>zR
def Rep.flat{K}{G G'}{v}{d}(r:Rep K G v d)(h:DL.flat d=zQ):Rep K G' v d:=by
 cases r with
 |non=>exact .non
 |bl b=>exact .bl b
 |int i=>exact .int i
 |str x=>exact .str x
 |lst _ _=>cases h
 |tup _ _=>cases h
 |dic _=>cases h
 |exc _ _ _ _=>cases h
 |dct _ _ _ _ _=>cases h
 |dtt _ _ _ _=>cases h
def Reps.flat{K}{G G'}:∀{vs}{ds},Reps K G vs ds->ds.all DL.flat=zQ->Reps K G' vs ds
 |_,_,.nil,_=>.nil
 |_,_,.cons r t,h=>by rw[Uv,QM]at h;exact .cons (r.flat h.1) (Reps.flat t h.2)
def EOk.lend{K}{B G0 G H:Hp}{σ:St}{Z:U5}{D:UA}{o:HO}(k:EOk K B G0 G H σ Z)(hD:H D=zP)(n:Nat):EOk K (upd H D o) H H (upd H D o) (σ++UI n zP) (Yt Z++UI n zP) where
 bh:=.refl _
 gh:=Z7 hD
 g0:=.refl _
 np:=λ_ _ _ n=>n
 len:=by unfold Yt;rw[Qi,Qi,Qb,k.len,QO,QO]
 pub:=λi d q=>by
  have hl:(Yt Z).length=Z.length:=by unfold Yt;rw[Qb]
  by_cases hi:i<(Yt Z).length
  .rw[Qy hi]at q
   rw[Qy (by rw[←k.len,←hl];exact hi)];rcases EN q with e|⟨ds,rfl,e⟩|⟨p,e⟩
   .obtain⟨v,h1,h2⟩:=k.pub i d e
    exact⟨v,h1,h2.mono k.gh⟩
   .obtain⟨a,vs,h1,h2,h3,h4,h5⟩:=k.own i ds e
    exact⟨.ref a,h1,.lst (SqL.of h4) (h5.mono k.gh)⟩
   .obtain⟨ω,k1,k2⟩:=k.dp
    obtain⟨v,fp,s,r,_⟩:=k1 i p d e;exact⟨v,s,r.rep k.gh⟩
  .rw[QI (Jk hi),QA]at q
   split at q<;>cases q
 own:=λi ds q=>by
  by_cases hi:i<(Yt Z).length
  .rw[Qy hi]at q
   exact(PH q).elim
  .rw[QI (Jk hi),QA]at q
   split at q<;>cases q
 sep:=λi j a ds es q=>by
  by_cases hi:i<(Yt Z).length
  .rw[Qy hi]at q
   exact(PH q).elim
  .rw[QI (Jk hi),QA]at q
   split at q<;>cases q
 dp:=by
  refine .of (λi p d q=>?_) λi ds q=>?_
  .by_cases hi:i<(Yt Z).length
   .rw[Qy hi]at q;exact DT q
   .rw[QI (Jk hi),QA]at q;split at q<;>cases q
  .by_cases hi:i<(Yt Z).length
   .rw[Qy hi]at q;exact PH q
   .rw[QI (Jk hi),QA]at q;split at q<;>cases q
def Pj(f:M zS)(k:Nat)(s:D->U5->z8)(t:M Bool)(g:M D):M zS:=λZ=>match f Z with
 |.bad=>.bad
 |.ok ds Z1=>match Zf s t g ds (Yt Z1++UI k zP) []with
  |none=>.bad
  |some es=>if es.all flat=zQ then .ok es Z1 else .bad
end
def Xv(s:D->U5->z8)(t:M Bool)(g:M D):zS->U5->zS->Option (zS×U5)
 |[],Z,es=>O (es,Z)
 |d::r,Z,es=>match s d Z with
  |none=>zP
  |some Z1=>match t Z1 with
   |.bad=>zP
   |.ok b Z2=>if b=zQ then(match g Z2 with
     |.bad=>zP
     |.ok e Z3=>if es.length<1000000 then Xv s t g r (KR Z3) (es++[e])else zP)
    else Xv s t g r (KR Z2) es
def VA(s0:D->U5->z8)(t0:M Bool)(f1:M zS)(s1:D->U5->z8)(t1:M Bool)(g:M D):zS->U5->zS->Option zS
 |[],_,es=>O es
 |d::r,Z,es=>match s0 d Z with
  |none=>zP
  |some Z1=>match t0 Z1 with
   |.bad=>zP
   |.ok b Z2=>if b=zQ then(match f1 Z2 with
     |.bad=>zP
     |.ok ds Z3=>match Xv s1 t1 g ds (KR Z3) es with
      |none=>zP
      |some (es',Z4)=>VA s0 t0 f1 s1 t1 g r Z4 es')
    else VA s0 t0 f1 s1 t1 g r (KR Z2) es
def P5(f:M zS)(k:Nat)(s:D->U5->z8)(t:M Bool)(f1:M zS)(bM:D->U5->z8)(t1':M Bool)(g:M D):M zS:=λZ=>match f Z with
 |.bad=>.bad
 |.ok ds Z1=>match VA s t f1 bM t1' g ds (KR Z1++UI k zP) []with
  |none=>.bad
  |some es=>.ok es Z1
def We(s0:D->U5->z8)(t0:M Bool)(f1:M zS)(Rd:zS->U5->zS->Option (zS×U5)):zS->U5->zS->Option (zS×U5)
 |[],Z,es=>O (es,Z)
 |d::r,Z,es=>match s0 d Z with
  |none=>zP
  |some Z1=>match t0 Z1 with
   |.bad=>zP
   |.ok b Z2=>if b=zQ then(match f1 Z2 with
     |.bad=>zP
     |.ok ds Z3=>match Rd ds (KR Z3) es with
      |none=>zP
      |some (es',Z4)=>We s0 t0 f1 Rd r Z4 es')
    else We s0 t0 f1 Rd r (KR Z2) es
noncomputable def SO(Rd:zS->U5->zS->Option (zS×U5))(ds:zS)(Z:U5)(es:zS):Option zS:=(Rd ds Z es).map (·.1)
def P4(f:M zS)(k:Nat)(s:D->U5->z8)(t:M Bool)(f1:M zS)(bM:D->U5->z8)(t1':M Bool)(fx2:M zS)(s2':D->U5->z8)(t2':M Bool)(g:M D):M zS:=λZ=>match f Z with
 |.bad=>.bad
 |.ok ds Z1=>match SO (We s t f1 (We bM t1' fx2 (Xv s2' t2' g))) ds (KR Z1++UI k zP) []with
  |none=>.bad
  |some es=>.ok es Z1
abbrev RdB:=U5->zS->Option (zS×U5)
def rL(g:M D):RdB:=λZ es=>match g Z with
 |.bad=>zP
 |.ok e Z3=>if es.length<1000000 then O (es++[e],KR Z3)else zP
def cT(s:D->U5->z8)(t:M Bool)(rd:RdB):zS->U5->zS->Option (zS×U5)
 |[],Z,es=>O (es,Z)
 |d::r,Z,es=>match s d Z with
  |none=>zP
  |some Z1=>match t Z1 with
   |.bad=>zP
   |.ok b Z2=>if b=zQ then(match rd Z2 es with
     |none=>zP
     |some (es',Z')=>cT s t rd r Z' es')
    else cT s t rd r (KR Z2) es
def rN(f:M zS)(s:D->U5->z8)(t:M Bool)(rd:RdB):RdB:=λZ es=>match f Z with
 |.bad=>zP
 |.ok ds Z3=>cT s t rd ds (KR Z3) es
structure Left(Y:Cx)(D':UA)(pins:List (UA×Obj))(H G:Hp)(es':zS)(Z':U5)(σ':St)(H' G':Hp)(vs':List V)(s':Uy):Prop where
 inv:Inv Y pins σ' H' s'
 eok:EOk Y.K H' G' G' H' σ' Z'
 hh:∀a o,a≠D'->H a=O o->H' a=O o
 gg:Same G G'
 np:∀a(u:MO),a≠D'->H a=O u.ho->G a=zP->G' a=zP
 hd:H' D'=O (.lst vs')
 gd:G' D'=zP
 rp:Reps Y.K G' vs' es'
def PU(Y:Cx)(D':UA)(W:(Uy->Prop)->Uy->Prop)(rd:RdB):Prop:=
 ∀(pins:List (UA×Obj))(sh:Uy)(σ:St)(B1 G1 H G:Hp)(Z Z':U5)(vs:List V)(es es':zS)(Q:Uy->Prop),
  Inv Y pins σ H sh->EOk Y.K B1 G1 G H σ Z->B1 D'=O (.lst vs)->G1 D'=zP->Reps Y.K G1 vs es->rd Z es=O (es',Z') ->
  (∀σ' H' G' vs' s',Left Y D' pins B1 G1 es' Z' σ' H' G' vs' s'->Q s')->W Q sh
section
variable{Y:Cx}{D':UA}
def vD   (hx:Y.xe=nox)(he:∀B1 G1,PE Y elt (tD Y.K B1 G1 g)) :
  PU Y D' (λQ s=>UE (model Y.prog Y.w) Y.A (eval elt Y.env) (λx s₄=>UE (model Y.prog Y.w) Y.A (call (.builtin "list.append") [.ref D',x]) (λ_ s₅=>Q s₅) nox s₄) nox s) (rL g):=by
 intro pins sh σ B1 G1 H G Z Z' vs es es' Q I k hD gD r z fin;unfold rL at z;cases zg:g Z with
 |bad=>simp_all
 |ok e Z4=>
 rw[zg]at z;dsimp only at z;split at z
 .cases z
  have h:=he B1 G1 pins sh σ H (λv H8=>∃G8,EOk Y.K B1 G1 G8 H8 σ Z4/\Rep Y.K G8 v e) I ⟨G,Z,k,by rw[zg];exact λv G8 H8 k8 _ q=>⟨G8,k8,q⟩⟩;rw[hx]at h;refine thn h λev s8 ⟨v,H8,I8,rv,G8,k8,r8⟩=>?_;have h2:=EQ pins s8 σ H8 (.ref D') [v] _ [ev] (λ_ H9=>H9=upd H8 D' _) I8 zO (.cons rv .nil) ⟨D',vs,v,rfl,rfl,k8.bh _ _ hD,by have:=lim1;rw[r.length];lia,rfl⟩
  rw[hx]at h2;refine thn h2 λ_ s9 ⟨_,H9,I9,_,e9⟩=>?_;subst e9;have g8:=k8.np _ (.l _) hD gD;exact fin σ _ G8 _ s9 ⟨I9,k8.beside g8,λa o z q=>by rw[K7 z];exact k8.bh a o q,k8.g0,λa o _ q w=>k8.np a o q w,ZE,g8,(r.mono k8.g0).append (.cons r8 .nil)⟩
 simp_all
def Ec{tg:UC}{ifs:zV}{code:Code}{W:(Uy->Prop)->Uy->Prop}{s:D->U5->z8}{t:M Bool}{rd:RdB}{it:UA}(hx:Y.xe=nox)(hc:Y.calm=zQ)(rule:Ot Y.prog Y.w Y.A tg ifs Y.env (.ref it) code W)
  (hg:∀B1 G1,PG Y tg (tG Y.K B1 G1 s)) (ht:∀B1 G1,X5 Y ifs (tBo Y.K B1 G1 t)) (hb:PU Y D' W rd)
  {pins:List (UA×Obj)} {sh:Uy} {σ:St} {H G:Hp} {Z ZF:U5} {fp:zX} {tn:Nat->Heap->Prop} {J:It} {ds es esF:zS} {vs:List V} {R:Result->Uy->Prop}
  (I:Inv Y pins σ H sh) (T:Turn Y.prog Y.w Y.K tg J fp it tn) (st:tn 0 sh.heap) (hf:∀b∈fp,Yh Y pins H b)
  (k:EOk Y.K H G G H σ Z) (its:WU Y.K J ds G) (hD:H D'=O (.lst vs)) (gD:G D'=zP) (r:Reps Y.K G vs es) (zl:cT s t rd ds Z es=O (esF,ZF))
  (aS:∀σ' H' G' vs' s',Left Y D' pins H G esF ZF σ' H' G' vs' s'->R (.ok .next) s'):codeAny (model Y.prog Y.w) Y.A code R sh:=by
 have stat:∀{H':Hp},(∀b∈fp,H' b=zP)->∀b∈fp,Yh Y pins H' b:=λhn b hb=>⟨hn b hb,(hf b hb).2⟩
 refine rule R (λn s'=>∃i σ' H' G' Z' vs' es',n=ds.length-i/\tn i s'.heap/\(∀b∈fp,H' b=zP)/\Left Y D' pins H G es' Z' σ' H' G' vs' s'/\cT s t rd (ds.drop i) Z' es'=O (esF,ZF)) ds.length sh
  ⟨0,σ,H,G,Z,vs,es,rfl,st,λb hb=>(hf b hb).1,⟨I,k,λ_ _ _ q=>q,.refl _,λ_ _ _ _ n=>n,hD,gD,r⟩,by rw[List.drop_zero];exact zl⟩ ?_
 rintro n s' ⟨i,σ',H',G',Z',vs',es',rfl,tn',fr',⟨I',k',bX,bL,np',bU,gD',r'⟩,zc⟩;by_cases hlt:i<ds.length
 .rw[Ju hlt,cT]at zc
  cases zs:s ds[i] Z' with
  |none=>rw[zs]at zc;cases zc
  |some Z2=>
  rw[zs]at zc;dsimp only at zc;cases zt:t Z2 with
  |bad=>rw[zt]at zc;cases zc
  |ok b Z3=>
  rw[zt]at zc;dsimp only at zc;refine thn (T.item Y zO zO zO hc i pins s' σ' H' nox I' (stat fr') tn' (its.go i G' H' bL k'.gh hlt)) λrr s4 ⟨u,hr,h4⟩=>?_;subst hr;refine thn h4 λ_ s5 ⟨x,H5,I5,r5,y5,aO,fr5⟩=>?_
  obtain⟨G5,e5,rx⟩:=its.yld i G' H' x H5 ds[i] bL k'.gh (Qe hlt) y5;have h6:=hg H' G' _ s5 σ' H5 x u (λσ6 H6=>∃G6,EOk Y.K H' G' G6 H6 σ6 Z2) (I5.pinned (stat fr5) (T.obj _ _ aO)) r5 ⟨G5,Z',ds[i],Z2,k'.ext e5,rx,zs,λσ6 G6 H6 k6 _=>⟨G6,k6⟩⟩;rw[hx]at h6;refine thn h6 λ_ s6 ⟨σ6,H6,I6,G6,k6⟩=>?_;have h7:=ht H' G' _ s6 σ6 H6 (λc H7=>c=b/\∃G7,EOk Y.K H' G' G7 H7 σ6 Z3) I6 ⟨G6,Z2,k6,by unfold aft;rw[zt];exact λc G7 H7 k7 _ q=>⟨q,G7,k7⟩⟩
  rw[hx]at h7;refine thn h7 λok s7 ⟨H7,I7,hb7,G7,k7⟩=>?_;subst hb7
  have again:∀{H9:Hp}{σ9:St}{s9:Uy},Inv Y (pins++OY fp s5.heap) σ9 H9 s9->Inv Y pins σ9 H9 s9/\tn (i+1) s9.heap/\∀b∈fp,H9 b=zP:=λ{H9 σ9 s9} I9=>by refine⟨I9.unpinned,T.keep _ _ _ aO λb hb o e=>(I9.pin (b,o) (QN _ (QN _ (NC hb e)))).1,λb hb=>?_⟩;obtain⟨o,e,d⟩:=T.obj _ _ aO b hb;exact(I9.pin (b,o) (QN _ (QN _ (NC hb e)))).2.1
  have lt:ds.length-(i+1)<ds.length-i:=Nat.sub_lt_sub_left hlt (JO i);cases ok with
  |false=>obtain⟨J1,J2,J3⟩:=again I7;exact⟨_,lt,i+1,σ6,H7,G7,KR Z3,vs',es',rfl,J2,J3,⟨J1,k7.rebase,λa o z q=>k7.bh a o (bX a o z q),bL.trans k7.g0,λa o z q w=>k7.np a o (bX a _ z q) (np' a o z q w),k7.bh _ _ bU,k7.np _ (.l _) bU gD',r'.mono k7.g0⟩,zc⟩
  |true=>
   rw[Qu zO]at zc⊢;cases ze:rd Z3 es' with
   |none=>rw[ze]at zc;cases zc
   |some pr=>
   obtain⟨es1,Z5⟩:=pr;rw[ze]at zc;refine hb _ s7 σ6 H' G' H7 G7 Z3 Z5 vs' es' es1 _ I7 k7 bU gD' r' ze λσ9 H9 G9 vs9 s9 L=>?_
   obtain⟨J1,J2,J3⟩:=again L.inv;exact⟨_,lt,i+1,σ9,H9,G9,Z5,vs9,es1,rfl,J2,J3,⟨J1,L.eok,λa o z q=>L.hh a o z (bX a o z q),bL.trans L.gg,λa o z q w=>L.np a o z (bX a _ z q) (np' a o z q w),L.hd,L.gd,L.rp⟩,zc⟩
 .rw[List.drop_eq_nil_of_le (Jk hlt),cT]at zc
  cases zc;refine thn (T.done Y zO zO zO hc i pins s' σ' H' nox I' (stat fr') tn' (its.stop i G' H' bL k'.gh (Jk hlt))) λrr s4 ⟨hr,I6⟩=>?_
  subst hr;exact aS σ' H' G' vs' s4 ⟨I6,k',bX,bL,np',bU,gD',r'⟩
def vC{elt aY i1:UC}{ifs1}{gens}{scope:Scope}{pos:Pos}{j:Nat}{W:Ux->(Uy->Prop)->Uy->Prop}{f}{s}{t}{rd:RdB}(hx:Y.xe=nox)(hc:Y.calm=zQ)
  (hn:gens[j+1]?=O ⟨aY,i1,ifs1,0⟩) (rule:∀az,Ot Y.prog Y.w Y.A aY ifs1 Y.env az (.compLoop (.ListComp elt gens scope pos) (j+1) az (.ref D') Y.env) (W az))
  (hi:∀B1 G1,PI Y aY i1 (iD Y.K B1 G1 f)) (hg:∀B1 G1,PG Y aY (tG Y.K B1 G1 s)) (ht:∀B1 G1,X5 Y ifs1 (tBo Y.K B1 G1 t)) (hb:∀az,PU Y D' (W az) rd) :
  PU Y D' (λQ s=>UE (model Y.prog Y.w) Y.A (eval i1 Y.env) (λx s₄=>UE (model Y.prog Y.w) Y.A (pyIter x) (λaz s₅=>codeAny (model Y.prog Y.w) Y.A (.compStart (.ListComp elt gens scope pos) (j+1) az (.ref D') Y.env)
   (λr s₆=>match r with | .ok _=>Q s₆ | .error _=>False) s₅) nox s₄) nox s) (rN f s t rd):=by
 intro pins sh σ B1 G1 H G Z Z' vs es es' Q I k hD gD r z fin;unfold rN at z;cases zf:f Z with
 |bad=>rw[zf]at z;cases z
 |ok ds Z3=>
 rw[zf]at z;have h:=hi B1 G1 pins sh σ H (λJ1 H8=>∃G8,EOk Y.K B1 G1 G8 H8 σ Z3/\WU Y.K J1 ds G8) I ⟨G,Z,k,by rw[zf];exact λJ1 G8 H8 k8 _ q=>⟨G8,k8,q⟩⟩;rw[hx]at h;refine thn h λxv s8 h8=>thn h8 λitv s9 h9=>?_
 obtain⟨az,fp1,tn1,J1,H9,rfl,I9,T1,st9,f9,G9,k9,its9⟩:=h9
 have loop:codeAny _ Y.A _ (λr s₆=>match r with | .ok _=>Q s₆ | .error _=>False) s9:=
  Ec hx hc (rule _) hg ht (hb _) I9 T1 st9 f9 k9.rebase its9 (k9.bh _ _ hD) (k9.np _ (.l _) hD gD) (r.mono k9.g0) z λσ' H' G' vs' s' L=>
   fin σ' H' G' vs' s' ⟨L.inv,L.eok,λa o z q=>L.hh a o z (k9.bh a o q),k9.g0.trans L.gg,λa o z q w=>L.np a o z (k9.bh a _ q) (k9.np a o q w),L.hd,L.gd,L.rp⟩
 exact yY hn loop (T1.self Y.A 0 _ _ _ st9 loop)
end
def PR(Y:Cx)(e:UC)(j:Nat)(tg:UC)(ifs:zV)(rd:RdB):Prop:=
 ∀(D':UA)(it:Ux),∃W,Ot Y.prog Y.w Y.A tg ifs Y.env it (.compLoop e j it (.ref D') Y.env) W/\PU Y D' W rd
section
variable{Y:Cx}{elt tg i:UC}{ifs:zV}{gens:List Comprehension}{scope:Scope}{pos:Pos}{j:Nat}
def EM  (hx:Y.xe=nox)(hg:gens[j]?=O ⟨tg,i,ifs,0⟩)(hn:gens[j+1]?=zP)(he:∀B1 G1,PE Y elt (tD Y.K B1 G1 g)):PR Y (.ListComp elt gens scope pos) j tg ifs (rL g):=
 λ_ _=>⟨_,vG hg hn,vD hx he⟩
def vB       (hx:Y.xe=nox)(hc:Y.calm=zQ)(hg:gens[j]?=O ⟨tg,i,ifs,0⟩)(hn:gens[j+1]?=O ⟨aY,i1,ifs1,0⟩)(hs:∀x,UV i1 Y.env x=pure x)
  (hi:∀B1 G1,PI Y aY i1 (iD Y.K B1 G1 f)) (hgt:∀B1 G1,PG Y aY (tG Y.K B1 G1 s)) (ht:∀B1 G1,X5 Y ifs1 (tBo Y.K B1 G1 t)) (hb:PR Y (.ListComp elt gens scope pos) (j+1) aY ifs1 rd):PR Y (.ListComp elt gens scope pos) j tg ifs (rN f s t rd):=
 λD' _=>⟨_,vF hg hn hs,vC hx hc hn (λaz=>(Classical.choose_spec (hb D' az)).1) hi hgt ht (λaz=>(Classical.choose_spec (hb D' az)).2)⟩
end
def Xy(l:Bool)(Z:U5):U5:=match l with|true=>Yt Z|false=>KR Z
def By{K}{B G0 G1 H2}{σ}{Z1}{D}(l)(k1:EOk K B G0 G1 H2 σ Z1)(hfr:H2 D=zP)(n) :
  ∃Gb,EOk K (upd H2 D (.lst [])) Gb Gb (upd H2 D (.lst [])) (σ++UI n zP) (Xy l Z1++UI n zP)/\Same G1 Gb/\Gb D=zP /\
   ∀(G' H') vs es,(l=zQ->es.all flat=zQ)->Same Gb G'->Same H2 H'->Same G' H'->(∀a(u:MO),H2 a=O u.ho->Gb a=zP->G' a=zP)->G' D=zP->Reps K G' vs es->∃Gf,Ext G1 H2 Gf H'/\Gf D=zP/\Reps K Gf vs es:=by
 have gD   :=k1.gh.free hfr;cases l with
 |false=>exact⟨G1,(k1.beside gD).more n,.refl _,gD,λG' H' vs es _ g h gh np d r=>⟨G',⟨h,g,gh,np⟩,d,r⟩⟩
 |true=>exact⟨H2,k1.lend hfr n,k1.gh,hfr,λG' H' vs es fl _ h _ _ _ r=>⟨G1,⟨h,.refl _,k1.gh.trans h,λ_ _ _ n=>n⟩,gD,r.flat (fl zO)⟩⟩
def dCG(l:Bool)(f:M zS)(k:Nat)(s:D->U5->z8)(t:M Bool)(rd:RdB):M zS:=λZ=>match f Z with
 |.bad=>.bad
 |.ok ds Z1=>match cT s t rd ds (Xy l Z1++UI k zP) []with
  |none=>.bad
  |some (es,_)=>if l=zQ->es.all flat=zQ then .ok es Z1 else .bad
def MG       {Z Z'}{es}(h:dCG l f k s t rd Z=.ok es Z'):∃ds ZF,f Z=.ok ds Z'/\cT s t rd ds (Xy l Z'++UI k zP) []=O (es,ZF)/\(l=zQ->es.all flat=zQ):=by
 unfold dCG at h;cases zf:f Z with
 |bad=>rw[zf]at h;cases h
 |ok ds Z1=>
 rw[zf]at h;dsimp only at h;cases zl:cT s t rd ds _ []with
 |none=>rw[zl]at h;cases h
 |some pr=>
 obtain⟨esF,ZF⟩:=pr;rw[zl]at h;dsimp only at h;split at h
 .rename_i hf
  cases h;exact⟨ds,ZF,rfl,zl,hf⟩
 .cases h
section
variable{X:Cx}{B G0:Hp}{KX:XW}
def YA(X:Cx)(N2:List Str)(scope:Scope)(e tg:UC)(ifs:zV)(s:D->U5->z8)(t:M Bool)(rd:RdB):Prop:=
 ∀(cl:List (Str×UA))(C:UA)(s₀:Uy)(H₀:Hp)(ex:zX),(∀B' G',PG (X.blk N2 scope cl C s₀ H₀ ex) tg (tG X.K B' G' s))/\(∀B' G',X5 (X.blk N2 scope cl C s₀ H₀ ex) ifs (tBo X.K B' G' t))/\PR (X.blk N2 scope cl C s₀ H₀ ex) e 0 tg ifs rd
structure R1(SC scope:Scope)(N1 N2:List Str)(k:Nat):Prop where
 b:Ou scope.names N1 N2 k=zQ
 kind:scope.kind=.function
 names:∀y∈scope.names,scope.names.lookup y.1=O y.2
 free:∀y∈scope.names,y.2=.free->SC.names.lookup y.1=O .cell∨SC.names.lookup y.1=O .free
def La{l:Bool}{tg elt iter:UC}{ifs:zV}{gs:List Comprehension}{scope:Scope}{pos pos':Pos}{N2:List Str}{k:Nat}{f:M zS}{s:D->U5->z8}{t:M Bool}{rd:RdB}{use:Option (Ux->Sem Unit)}{Qc:Ux->Uy->Prop}(hc:X.calm=zQ)
  (hi:PI X tg iter (iD X.K B G0 f)) (ah:YA X N2 scope (.ListComp elt (⟨tg,iter,ifs,0⟩::gs) scope pos) tg ifs s t rd) (hb:R1 X.env.scope scope X.N N2 k) (hs:∀x,UV iter X.env x=pure x)
  {pins:List (UA×Obj)} {s0:Uy} {σ:St} {G H:Hp} {Z Z1 ZF:U5} {ds esF:zS} (I:Inv X pins σ H s0) (k0:EOk X.K B G0 G H σ Z) (zf:f Z=.ok ds Z1) (zl:cT s t rd ds (Xy l Z1++UI k zP) []=O (esF,ZF)) (hfl:l=zQ->esF.all flat=zQ)
  (aS:∀(C D:UA)(vs:List V)(G' H':Hp)(s4:Uy)(m:Str->zY),Inv X pins σ H' s4->s4.heap.Ns C m->H' C=zP->C≠X.env.locals->X.s₀.heap.objs.size<=C->(∀x c,X.env.cells.lookup x=O c->c≠C)->(∀p∈X.pn++pins,p.1≠C) ->
   EOk X.K B G0 G' H' σ Z1->Same G G'->NewL X.K B G' H' σ Z1 D vs esF->compPost (model X.prog X.w) X.A X.xe use Qc (.ref D) C (.ok .next) s4) :
  UE (model X.prog X.w) X.A (comprehension (.ListComp elt (⟨tg,iter,ifs,0⟩::gs) scope pos) scope X.env pos' (newList []) zR (eval iter X.env) use) Qc X.xe s0:=by
 obtain⟨bW,hcl,bV,cl2⟩:=w9 (scope:=scope) (env:=X.env) λy hy hf=>I.ok.has y.1 (hb.free y hy hf)
 refine wpAny_comprehension_free (use:=use) zO hs hcl hb.kind (λy hy hl=>(hb.names y hy).trans (by rw[hl])) (thn (hi pins s0 σ H (λJ H1=>∃G1,EOk X.K B G0 G1 H1 σ Z1/\Same G G1/\WU X.K J ds G1) I ⟨G,Z,k0,by rw[zf];exact λJ G1 H1 k1 s1 it=>⟨G1,k1,s1,it⟩⟩) λv s1 h1=>thn h1 λitv s2 h2=>?_);obtain⟨it,fp,tn,J,H2,rfl,I2,T,st2,f2,G1,k1,sg1,its⟩:=h2;refine wpAny_newObj_type (Ac bV cl2 hb.names (λx c e=>let ⟨_,q⟩:=I2.cell x c e;QH q.lt (by first|exact Qv _|(rw[JK];exact JW _))) λh₁ cl hns₁ kept hco=>?_);dsimp only at hns₁ kept hco⊢;have hfr:H2 s2.heap.objs.size=zP:=I2.hok.fresh (Qv _)
 have I3:Inv X pins σ (upd H2 s2.heap.objs.size (.lst [])) {s2 with heap:=s2.heap.push {cls:=.type "list", dict:=zP,data:=.seq ([]:zW).toArray}}:=
  I2.laid (t':=s2.toks) (λb u e=>Qj _ e) (Qv _) ⟨JX _,[],0,.nil,QF _ zO⟩
 generalize hP:s2.heap.push {cls:=.type "list", dict:=zP,data:=.seq ([]:zW).toArray}=P at I3 hns₁ kept hco⊢;have old:∀b o,s2.heap.get? b=O o->P.get? b=O o:=λb o e=>hP ▸ Qj _ e;have fpo:∀b∈fp,∃o,s2.heap.get? b=O o:=λb hb=>let ⟨o,e,_⟩:=T.obj _ _ st2 b hb;⟨o,e⟩
 have fpD:∀b∈fp,b≠s2.heap.objs.size:=λb hb=>let ⟨o,e⟩:=fpo b hb;QZ (Qh e)
 have f3:∀b∈fp,Yh X pins (upd H2 s2.heap.objs.size (.lst [])) b:=λb hb=>⟨by rw[K7 (fpD b hb)];exact(f2 b hb).1,(f2 b hb).2⟩
 have I4:=I3.enter (scope:=scope) (cl:=cl) (N2:=N2) (k:=k) (fp:=fp) (t':=s2.toks) hb.b hb.kind hb.free hco hns₁ kept f3 (λb hb=>let ⟨o,e⟩:=fpo b hb;⟨o,old b o e⟩);dsimp only at I4;obtain⟨Gb,kb,sgb,gbD,ex⟩:=By l k1 hfr k;have sH:Same H2 (upd H2 s2.heap.objs.size (.lst [])):=Z7 hfr;have hD3:upd H2 s2.heap.objs.size (.lst []) s2.heap.objs.size=O (.lst []):=ZE;generalize upd H2 s2.heap.objs.size (.lst [])=H3 at I3 I4 f3 kb sH hD3;generalize s2.heap.objs.size=D at *;have tn0:tn 0 h₁:=T.keep 0 _ _ st2 λb hb o e=>kept b o (old b o e)
 have stat:∀b∈fp,Yh (X.blk N2 scope cl P.objs.size {s2 with heap:=P} H3 fp) pins H3 b:=λb hb=>by
  obtain⟨z0,z1,z2,z3,z4,z5⟩:=f3 b hb;obtain⟨o,e⟩:=fpo b hb;refine⟨z0,QZ (Qh (old b o e)),λz=>?_,.inl hb,λx c q=>(hco.old x c q).elim (z4 x c) λw=>JJ (Nat.lt_trans (Qh (old b o e)) w.1),z5⟩;rcases Qx.mp (I3.stkSub b z)with q|q
  .exact z1 q
  .exact z2 q
 have neD:∀a o,H2 a=O o->a≠D:=λa o q z=>by subst z;rw[hfr]at q;cases q
 obtain⟨hg,ht,hcl'⟩:=ah cl P.objs.size {s2 with heap:=P} H3 fp;obtain⟨W,rule,body⟩:=hcl' D (.ref it)
 have loop:=Ec (Y:=X.blk N2 scope cl P.objs.size {s2 with heap:=P} H3 fp) (D':=D)  rfl hc rule hg ht body I4 T tn0 stat kb
  ⟨λi G H s1 s2 hi=>its.go i G H (sgb.trans s1) s2 hi,λi G H s1 s2 hi=>its.stop i G H (sgb.trans s1) s2 hi,λi G H x H' d s1 s2 e y=>its.yld i G H x H' d (sgb.trans s1) s2 e y⟩ hD3 gbD .nil zl λσ' H' G' vs' s4 L=>by
   obtain⟨m,hm,_⟩:=id L.inv.loc;have I7:Inv X pins σ H' s4:=I3.call' (ch:=fp) L.inv.os L.inv.base L.inv.hok L.inv.bare λb hb=>⟨(f3 b hb).2.2.2.1,(f3 b hb).2.1,(f3 b hb).2.2.2.2.1,(f3 b hb).2.2.2.2.2⟩
   obtain⟨Gf,eF,dF,rF⟩:=ex G' H' vs' esF hfl L.gg (λa o q=>L.hh a o (neD a o q) (sH a o q)) L.eok.gh (λa o q z=>L.np a o (neD a _ q) (sH a _ q) z) L.gd L.rp
   refine aS P.objs.size D vs' Gf H' s4 m I7 hm L.inv.free (JJ I3.lt) I3.sz (λx c e z=>by obtain⟨_,q⟩:=I3.cell x c e;exact absurd q.lt (by rw[z];exact Jp _)) (λp hp z=>by have:=Qh (I3.pin p hp).1;exact absurd this (by rw[z];exact Jp _))
    (k1.ext eF) (sg1.trans eF.g) ⟨k1.bh.free hfr,dF,L.hd,rF,λj es' q z=>?_,λj pt d v fp q s r=>k1.freshD eF.h hfr q s r⟩
   obtain⟨a',ws,h1',h2',h3',h4',h5'⟩:=k1.own j es' q;rw[z]at h1';cases h1';rw[hfr]at h4';cases h4'
 exact codeAny_compStart_list loop (T.self X.A 0 _ _ _ tn0 loop)
def Hf  {tg elt iter}{ifs}{gs}{scope}{pos}{N2}{k:Nat}{f}{s}{t}{rd:RdB}(hc:X.calm=zQ)
  (hi:PI X tg iter (iD X.K B G0 f)) (ah:YA X N2 scope (.ListComp elt (⟨tg,iter,ifs,0⟩::gs) scope pos) tg ifs s t rd) (hb:R1 X.env.scope scope X.N N2 k) (hs:∀x,UV iter X.env x=pure x:=by intro _;rfl) :
  PE X (.ListComp elt (⟨tg,iter,ifs,0⟩::gs) scope pos) (tL X.K B G0 (dCG l f k s t rd)):=by
 intro pins s0 σ H Q I ⟨G,Z,k0,a⟩;cases z:dCG l f k s t rd Z with
 |bad=>rw[z]at a;exact a.elim
 |ok es Z1=>
 rw[z]at a;obtain⟨ds,ZF,zf,zl,hfl⟩:=MG z;refine La hc hi ah hb hs I k0 zf zl hfl λC D vs G' H' s4 m I7 hm hC hL hz hcl hp k' s' n=>?_
 exact⟨m,hm,λh' sb=>⟨.ref D,H',I7.turned   (λb o hb e=>(sb.2 b hb).trans e) hC hL (.inr hz) hcl hp,rfl,a D vs G' H' k' s' n⟩⟩
def sD_g{l:Bool}{y:Str}{j:Nat}{py:Pos}{spos:Pos}{tg elt iter:UC}{ifs:zV}{gs}{scope:Scope}{pos:Pos}{N2:List Str}{k:Nat}{f:M zS}{s}{t:M Bool}{rd:RdB}(hN:X.N.Nodup)(hj:X.N[j]?=O y)(hy:X.env.scope.names.lookup y=O .local)(hc:X.calm=zQ)
  (hi:PI X tg iter (iD X.K B G0 f)) (ah:YA X N2 scope (.ListComp elt (⟨tg,iter,ifs,0⟩::gs) scope pos) tg ifs s t rd) (hb:R1 X.env.scope scope X.N N2 k) (hs:∀x,UV iter X.env x=pure x:=by intro _;rfl)
  (hsw:swapsWith (.ListComp elt (⟨tg,iter,ifs,0⟩::gs) scope pos) (O (.Name y py)) spos.line X.env=pure zQ:=by rfl) :
  PS X (.Assign [.Name y py] (.ListComp elt (⟨tg,iter,ifs,0⟩::gs) scope pos) spos) (tS X.K B G0 KX (Zn j (dCG l f k s t rd))):=by
 intro pins s0 σ H Dn I ⟨G,Z,k0,a⟩;unfold Zn sB at a;cases z:dCG l f k s t rd Z with
 |bad=>rw[z]at a;exact a.elim
 |ok es Z1=>
 rw[z]at a;dsimp only at a;by_cases hl:j<Z1.length
 .rw[Qu hl]at a
  obtain⟨ds,ZF,zf,zl,hfl⟩:=MG z;rw[exec_Assign_Name_used _ _ _ _ hsw];refine Qf (JD (Qf ?_));refine Qf (QS (La   hc hi ah hb hs I k0 zf zl hfl λC D vs G' H' s4 m I7 hm hC hL hz hcl hp k' s' n=>?_) (λ_ s' hq=>Qo (Qo hq)) λ_ _ e=>e);refine wpAny_assign_Name (Lp I7 hN hj (.inl hy) (v:=.ref D) zO (λs5 I8 ⟨ad,sb,hx⟩=>?_) (.inr hy))
  have hCa:C≠ad:=by
   rcases hx with e|e
   .rw[e];exact hL
   .exact Ne.symm (hcl y ad e)
  refine⟨m,hm.sameBut sb hCa,λh' aT=>⟨_,H',I8.turned (t':=s5.toks) (it:=C) (λb o hb e=>(aT.2 b hb).trans e) hC hL (.inr hz) hcl hp,?_⟩⟩;exact a _ G' H' (k'.setOwn n hl) s'
 .rw[QJ hl]at a;exact a.elim
def He{K}{f f'}(h:∀Z es Z',f Z=.ok es Z'->f' Z=.ok es Z'){σ}{H}{Q}(q:tL K B G0 f σ H Q):tL K B G0 f' σ H Q:=by
 obtain⟨G,Z,k,a⟩:=q;refine⟨G,Z,k,?_⟩;cases z:f Z with
 |bad=>simp_all
 |ok es Z'=>rw[z]at a;rw[h Z es Z' z];exact a
def HK{K}{f f'}{j}(h:∀Z es Z',f Z=.ok es Z'->f' Z=.ok es Z'){Dn}{σ}{H}(q:tS K B G0 KX (Zn j f) Dn σ H):tS K B G0 KX (Zn j f') Dn σ H:=by
 obtain⟨G,Z,k,a⟩:=q;refine⟨G,Z,k,?_⟩;unfold Zn sB at a⊢;cases z:f Z with
 |bad=>rw[z]at a;exact a.elim
 |ok es Z'=>rw[z]at a;rw[h Z es Z' z];exact a
end
theorem Nv    : ∀{ds}{Z:U5}{es esF},Zf s t g ds Z es=O esF->∃ZF,cT s t (rL g) ds Z es=O (esF,ZF)
 |[],Z,es,esF,h=>by cases h;exact⟨Z,rfl⟩
 |d::r,Z,es,esF,h=>by
  rw[Zf]at h;rw[cT];cases zs:s d Z with
  |none=>rw[zs]at h;cases h
  |some Z1=>
  rw[zs]at h;dsimp only at h⊢;cases zt:t Z1 with
  |bad=>rw[zt]at h;cases h
  |ok b Z2=>
  rw[zt]at h;dsimp only at h⊢;cases b with
  |false=>exact Nv  h
  |true=>
   rw[Qu zO]at h⊢;unfold rL;cases zg:g Z2 with
   |bad=>rw[zg]at h;cases h
   |ok e Z3=>
   rw[zg]at h;dsimp only at h⊢;split at h
   .rename_i hl
    rw[Qu hl];exact Nv  h
   .cases h
theorem NF    : ∀{ds}{Z}{es},Xv s t g ds Z es=cT s t (rL g) ds Z es
 |[],Z,es=>rfl
 |d::r,Z,es=>by
  rw[Xv,cT];cases s d Z with
  |none=>rfl
  |some Z1=>
  dsimp only;cases t Z1 with
  |bad=>rfl
  |ok b Z2=>
  dsimp only;cases b with
  |false=>exact NF
  |true=>
   rw[Qu zO,Qu zO];unfold rL;cases g Z2 with
   |bad=>rfl
   |ok e Z3=>
   dsimp only;split
   .exact NF
   .rfl
theorem NE{s s1}{t t1}{f}{Rd}{rd}(hR:∀ds Z es,Rd ds Z es=cT s1 t1 rd ds Z es) :
  ∀{ds}{Z}{es},We s t f Rd ds Z es=cT s t (rN f s1 t1 rd) ds Z es
 |[],Z,es=>rfl
 |d::r,Z,es=>by
  rw[We,cT];cases s d Z with
  |none=>rfl
  |some Z1=>
  dsimp only;cases t Z1 with
  |bad=>rfl
  |ok b Z2=>
  dsimp only;cases b with
  |false=>exact NE hR
  |true=>
   rw[Qu zO,Qu zO];unfold rN;cases f Z2 with
   |bad=>rfl
   |ok ds Z3=>
   dsimp only;rw[hR];cases cT s1 t1 rd ds _ es with
   |none=>rfl
   |some pr=>exact NE hR
theorem Ln  {t t1}{f}{g:M D}:∀{ds:zS}{Z:U5}{es esF:zS},VA s t f s1 t1 g ds Z es=O esF->∃ZF,cT s t (rN f s1 t1 (rL g)) ds Z es=O (esF,ZF)
 |[],Z,es,esF,h=>by cases h;exact⟨Z,rfl⟩
 |d::r,Z,es,esF,h=>by
  rw[VA]at h;rw[cT];cases zs:s d Z with
  |none=>rw[zs]at h;cases h
  |some Z1=>
  rw[zs]at h;dsimp only at h⊢;cases zt:t Z1 with
  |bad=>rw[zt]at h;cases h
  |ok b Z2=>
  rw[zt]at h;dsimp only at h⊢;cases b with
  |false=>exact Ln  h
  |true=>
   rw[Qu zO]at h⊢;unfold rN;cases zg:f Z2 with
   |bad=>rw[zg]at h;cases h
   |ok ds Z3=>
   rw[zg]at h;dsimp only at h⊢;rw[←NF];cases zl:Xv s1 t1 g ds _ es with
   |none=>rw[zl]at h;cases h
   |some pr=>rw[zl]at h;exact Ln  h
def Eb      (Z)(es)(Z')(h:Za f k s t g Z=.ok es Z'):dCG zR f k s t (rL g) Z=.ok es Z':=by
 unfold Za at h;unfold dCG;cases zf:f Z with
 |bad=>simp_all
 |ok ds Z1=>
 rw[zf]at h;dsimp only[Xy]at h⊢;cases zl:Zf s t g ds _ []with
 |none=>rw[zl]at h;cases h
 |some esF=>
 obtain⟨ZF,e⟩:=Nv zl;simp_all
def vA      (Z)(es)(Z')(h:Pj f k s t g Z=.ok es Z'):dCG zQ f k s t (rL g) Z=.ok es Z':=by
 unfold Pj at h;unfold dCG;cases zf:f Z with
 |bad=>simp_all
 |ok ds Z1=>
 rw[zf]at h;dsimp only[Xy]at h⊢;cases zl:Zf s t g ds _ []with
 |none=>rw[zl]at h;cases h
 |some esF=>
 rw[zl]at h;dsimp only at h;split at h
 .rename_i hf
  cases h;obtain⟨ZF,e⟩:=Nv zl;rw[e];exact Qu λ_=>hf
 simp_all
def vz  {k}{s s1}{t t1}{g}(Z)(es)(Z')(h:P5 f k s t f1 s1 t1 g Z=.ok es Z'):dCG zR f k s t (rN f1 s1 t1 (rL g)) Z=.ok es Z':=by
 unfold P5 at h;unfold dCG;cases zf:f Z with
 |bad=>simp_all
 |ok ds Z1=>
 rw[zf]at h;dsimp only[Xy]at h⊢;cases zl:VA s t f1 s1 t1 g ds _ []with
 |none=>rw[zl]at h;cases h
 |some esF=>
 obtain⟨ZF,e⟩:=Ln zl;simp_all
def vy  {k}{s s1 s2}{t t1 t2}{g}(Z)(es)(Z')(h:P4 f k s t f1 s1 t1 f2 s2 t2 g Z=.ok es Z'):dCG zR f k s t (rN f1 s1 t1 (rN f2 s2 t2 (rL g))) Z=.ok es Z':=by
 unfold P4 at h;unfold dCG;cases zf:f Z with
 |bad=>simp_all
 |ok ds Z1=>
 rw[zf]at h;dsimp only[Xy,SO]at h⊢;rw[NE λ_ _ _=>NE λ_ _ _=>NF]at h;cases zl:cT s t _ ds _ []with
 |none=>simp_all
 |some pr=>
 simp_all
noncomputable def Vz(q:Option NameKind->Bool)(SC scope:Scope)(N1 N2:List Str)(k:Nat):Bool:=
 Ou scope.names N1 N2 k&&decide (scope.kind=.function)&&(scope.names.all λy=>decide (scope.names.lookup y.1=O y.2))&&scope.names.all λy=>match y.2 with
  |.free=>q (SC.names.lookup y.1)
  |_=>zQ
noncomputable def T4:Option NameKind->Bool
 |some .cell=>zQ|some .free=>zQ|_=>zR
def DS  {SC SC' scope}{N1 N2}{k}(h:Vz q SC scope N1 N2 k=zQ)(f:∀x,q (SC.names.lookup x)=zQ->SC'.names.lookup x=O .cell∨SC'.names.lookup x=O .free):R1 SC' scope N1 N2 k:=by unfold Vz at h;rw[QM,QM,QM,Q2,Q2]at h;obtain⟨⟨⟨h1,h2⟩,h0⟩,h3⟩:=h;refine⟨h1,Qa h2,λy hy=>Qa (h0 y hy),λy hy e=>?_⟩;have:=h3 y hy;rw[e]at this;exact f _ this
def MF    (h:Vz T4 SC scope N1 N2 k=zQ):R1 SC scope N1 N2 k:=DS h λx e=>by
 cases z:SC.names.lookup x with
 |none=>rw[z]at e;cases e
 |some y=>rw[z]at e;cases y<;>first|exact .inl rfl|exact .inr rfl|cases e
section
variable{X:Cx}{B G0:Hp}{KX:XW}
def Bx  {tg elt iter}{ifs}{gs}{scope}{pos}{f}{s}{t}{rd}{F}(SC)(N1 N2)(k)(le:∀Z es Z',F Z=.ok es Z'->dCG l f k s t rd Z=.ok es Z')(hc:X.calm=zQ)
  (hi:PI X tg iter (iD X.K B G0 f)) (ah:YA X N2 scope (.ListComp elt (⟨tg,iter,ifs,0⟩::gs) scope pos) tg ifs s t rd) (h1:X.env.scope=SC) (h2:X.N=N1) (hb:Vz T4 SC scope N1 N2 k=zQ) (hs:∀x,UV iter X.env x=pure x:=by intro _;rfl) :
  PE X (.ListComp elt (⟨tg,iter,ifs,0⟩::gs) scope pos) (tL X.K B G0 F):=
 KZ (Hf hc hi ah (by rw[h1,h2];exact MF hb) hs) λ_ _ _ q=>He le q
def sD_1   {j:Nat}{py:Pos}{spos:Pos}{tg elt iter:UC}{ifs}{gs}{scope}{pos:Pos}{f}{s}{t}{rd:RdB}{F}(SC:Scope)(N1 N2)(k:Nat)(le:∀Z es Z',F Z=.ok es Z'->dCG l f k s t rd Z=.ok es Z')(hN:X.N.Nodup)(hj:X.N[j]?=O y)(hy:X.env.scope.names.lookup y=O .local)(hc:X.calm=zQ)
  (hi:PI X tg iter (iD X.K B G0 f)) (ah:YA X N2 scope (.ListComp elt (⟨tg,iter,ifs,0⟩::gs) scope pos) tg ifs s t rd) (h1:X.env.scope=SC) (h2:X.N=N1) (hb:Vz T4 SC scope N1 N2 k=zQ) (hs:∀x,UV iter X.env x=pure x:=by intro _;rfl)
  (hsw:swapsWith (.ListComp elt (⟨tg,iter,ifs,0⟩::gs) scope pos) (O (.Name y py)) spos.line X.env=pure zQ:=by rfl) :
  PS X (.Assign [.Name y py] (.ListComp elt (⟨tg,iter,ifs,0⟩::gs) scope pos) spos) (tS X.K B G0 KX (Zn j F)):=
 ZS (sD_g hN hj hy hc hi ah (by rw[h1,h2];exact MF hb) hs hsw) λ_ _ _ q=>HK le q
def Aa   {cl}{C:UA}{s₀}{H₀:Hp}{ex}{N2}{tg elt iter:UC}{ifs}{gs}{scope:Scope}{pos:Pos}{f}{s}{t}{rd:RdB}{F}(N3)(k:Nat)(le:∀Z es Z',F Z=.ok es Z'->dCG l f k s t rd Z=.ok es Z')(hc:X.calm=zQ)
  (hi:PI (X.blk N2 scope0 cl C s₀ H₀ ex) tg iter (iD X.K B G0 f)) (ah:YA (X.blk N2 scope0 cl C s₀ H₀ ex) N3 scope (.ListComp elt (⟨tg,iter,ifs,0⟩::gs) scope pos) tg ifs s t rd) (hb:Vz T4 scope0 scope N2 N3 k=zQ) (hs:∀x,UV iter (X.blk N2 scope0 cl C s₀ H₀ ex).env x=pure x:=by intro _;rfl) :
  PE (X.blk N2 scope0 cl C s₀ H₀ ex) (.ListComp elt (⟨tg,iter,ifs,0⟩::gs) scope pos) (tL X.K B G0 F):=by
 refine KZ (Hf  hc hi ah (DS hb λx e=>?_) hs) λ_ _ _ q=>He le q
 cases z:scope0.names.lookup x with
 |none=>rw[z]at e;cases e
 |some y=>
  rw[z]at e;cases y with
  |free=>exact(LW  z).symm
  |cell=>exact .inl (Sh (by decide) z)
  |_=>cases e
end
def j9   {s bM s2'}{t t1' t2'}{f1 f2}{g}{Z Z1 Z2}{ds es}(h1:f Z=.ok ds Z1)(h2:We s t f1 (We bM t1' f2 (Xv s2' t2' g)) ds (KR Z1++UI k zP) []=O (es,Z2)) :
  P4 f k s t f1 bM t1' f2 s2' t2' g Z=.ok es Z1:=by
 unfold P4;dsimp only[SO];simp_all
section
variable{X:Cx}{B G0:Hp}{e a b c tg:UC}{pos:Pos}{es rest:zV}
def EOk.given{K}{G H:Hp}{σ:St}{Z:U5}{a:UA}{vs}{ds:zS}(k:EOk K B G0 G H σ Z)(n:NewL K B G H σ Z a vs ds):EOk K B G0 (upd G a (.lst vs)) H σ Z where
 bh:=k.bh
 gh:=λb u q=>by
  by_cases z:b=a
  .subst z;rw[ZE]at q;cases q;exact n.h
  .rw[K7 z]at q;exact k.gh b u q
 g0:=k.g0.trans (Z7 n.g)
 np:=λb o q z=>by
  have zb:b≠a:=λz=>by subst z;rw[n.b]at q;cases q
  rw[K7 zb];exact k.np b o q z
 len:=k.len
 pub:=λi d q=>let ⟨v,h1,h2⟩:=k.pub i d q;⟨v,h1,h2.mono (Z7 n.g)⟩
 own:=λi ds q=>by
  obtain⟨b,ws,h1,h2,h3,h4,h5⟩:=k.own i ds q;have zb:b≠a:=λz=>by subst z;exact n.f i ds q h1
  exact⟨b,ws,h1,h2,by rw[K7 zb];exact h3,h4,h5.mono (Z7 n.g)⟩
 sep:=k.sep
 dp:=k.dp.map (λ_ _ _ q=>⟨q,rfl⟩) (λ_ ds q=>⟨ds,q,rfl⟩) λi p d v fp q s r w nn=>⟨r.mono (Z7 n.g) (.refl _),λb m=>⟨(w b m).1,by rw[K7 (λz=>n.dp i p d v fp q s r (by rw[←z];exact m))];exact(w b m).2⟩⟩
def qX  (h:PE X e (tL X.K B G0 f)):PE X e (tD X.K B G0 (Kb UJ f)):=
 KZ h λσ H Q ⟨G,Z,k,a⟩=>by
  refine⟨G,Z,k,?_⟩;unfold Kb Ku at a;cases z:f Z with
  |bad=>rw[z]at a;exact a.elim
  |ok ds Z1=>rw[z]at a;intro ad vs G' H' k' s' n;exact a _ _ H' (k'.given n) (s'.trans (Z7 n.g)) (.lst (SqL.of ZE) (n.r.mono (Z7 n.g)))
def j8(hc:X.calm=zQ):Xn X (.builtin "all") (λxs H Q=>∃l,∃bs:List Bool,xs=[.ref l]/\SqL X.K H l (bs.map V.bl)/\Q (.bl (bs.all id)) H):=by
 intro pins s σ H xs us Q I rx h;obtain⟨l,bs,rfl,hq,q⟩:=h;obtain⟨u,rfl,ru⟩:=rx.one;cases ru;obtain⟨its,rv,p,hz⟩:=I.list hq;have hl:=p.isList;have hlt:l<s.heap.objs.size:=by obtain⟨_,e,_⟩:=id hl;exact Qh e
 have key:∀(i:Nat) v,its.toArray[i]?=O v->∃t,bs[i]?=O t/\v=.bool t:=λi v e=>by
  have e   :=by simpa using e
  have hi:i<bs.length:=by
   have:=(Qg.mp e).1;have h2:=rv.length;rw[Qb]at h2
   lia
  obtain⟨u,e2,r2⟩:=rv.get (i:=i) (x:=.bl bs[i]) (by rw[Qd,Qe hi];rfl);rw[e]at e2;cases e2;exact⟨bs[i],Qe hi,r2⟩
 refine call_all_walk (JA hl ?_)
 refine⟨s.heap.objs.size,[s.heap.objs.size,l],[s.heap.objs.size],its.toArray.size,_,_,λi=>(bs[i]?).getD zQ,rfl,Walks.list (A:=X.A.in1) (I.ok.hd hc) _ l (QZ hlt) its.toArray,
  ⟨⟨_,QF _ zO,rfl,rfl⟩,hl.push _⟩,λi v s' Q' E' hP hQ=>?_,λh' tk hk=>?_⟩
 .obtain⟨b,e,rfl⟩:=key i v hP
  simp only[e]at hQ;exact Q3 hQ
 .have hn:its.toArray.size=bs.length:=by have:=rv.length;rw[List.length_map]at this;simp;lia
  have e:((UH its.toArray.size).all λi=>(bs[i]?).getD zQ)=bs.all id:=by
   rw[hn,JU,Q2,Q2];constructor
   .intro h b hb
    obtain⟨i,hi,e⟩:=List.getElem_of_mem hb;have:=h i (QE.mpr hi);simp only[Qe hi,Option.getD_some,e]at this;exact this
   .intro h i hi
    have hi':=QE.mp hi;simp only[Qe hi',Option.getD_some];exact h _ (JI hi')
  rw[e];exact⟨.bl (bs.all id),H,I.kept (t':=tk) λb x e=>hk b x (λhm=>by rw[Qt.mp hm]at e;exact Jp _ (Qh e)) (Qj _ e),rfl,q⟩
noncomputable def VD:zS->Option (List Bool)
 |[]=>O []
 |.bool b::r=>(VD r).map (b :: ·)
 |_=>zP
theorem LV{K}{G}:∀{vs}{ds}{bs},Reps K G vs ds->VD ds=O bs->vs=bs.map V.bl
 |_,_,bs,.nil,e=>by cases e;rfl
 |_,_,bs,.cons (d:=d) r t,e=>by
  cases d with
  |bool b=>
   unfold VD at e;cases z:VD _ with
   |none=>rw[z]at e;cases e
   |some cs=>rw[z]at e;cases e;rw[r.bl_inv,LV t z];rfl
  |_=>cases e
noncomputable def ZK:zS->zU
 |[.list ds]=>(VD ds).map λbs=>.bool (bs.all id)
 |_=>zP
def Bw(hc:X.calm=zQ):Xr X (.builtin "all") ZK:=by
 refine⟨_,j8 hc,λvs G H ds d Q s r e k=>?_⟩;unfold ZK at e;split at e
 .rename_i ds
  cases z:VD ds with
  |none=>simp_all
  |some bs=>rw[z]at e;cases e;obtain⟨v,rfl,q⟩:=r.one_inv;obtain⟨l,ws,rfl,h1,r1⟩:=q.lst_inv;have hw:=LV r1 z;subst hw;exact⟨l,bs,rfl,s.seq h1,k _ G H (.refl s) (.bl _)⟩
 simp_all
noncomputable def Its(x:Str):It:=⟨λi _=>i<x.cps.size,λi H v H'=>H'=H/\∃c,x.cps[i]?=O c/\v=.str ⟨#[c]⟩,λi _=>x.cps.size<=i⟩
def j7{P:Uz}{w:World}{K:Frag}{tg:UC}(x:Str)(t:Tok)(it:UA):Turn P w K tg (Its x) [it] it (λi h=>h.IsStrIter it (strIterType x) x t i) where
 mem:=by simp
 obj:=λi h st b hb=>by
  have e:b=it:=by simpa using hb
  subst e;obtain⟨o,e,c,d⟩:=st;exact⟨o,e,λv z=>by rw[d]at z;cases z⟩
 keep:=λi h h' st k=>by obtain⟨o,e,c,d⟩:=st;exact⟨o,k it (by simp) o e,c,d⟩
 item:=by
  intro X hP hw hK hc i pins s σ H E I hf st hg;subst hP hw hK;obtain⟨f0,f1,f2,f3,f4,f5⟩:=hf it (by simp);have hx:x.cps[i]?=O x.cps[i]:=Array.getElem?_eq_getElem hg
  have fin:∀h' tk(T:String),strIterType x=T->h'.IsStrIter it T x t (i+1)->Heap.SameBut it s.heap h'->["enumerate", "zip", "dict_itemiterator", "dict_reverseitemiterator", "odict_iterator", "itertools.zip_longest", "itertools.pairwise"].contains T=zR ->
    ∃u,O (Value.str ⟨#[x.cps[i]]⟩ s.toks)=O u/\UE (model X.prog X.w) X.A (letOwnedTupleGo tg (.ref it) u) (λ_ s2=>∃v H',Inv X pins σ H' s2/\RelV v u/\(Its x).yld i H v H'/\s2.heap.IsStrIter it (strIterType x) x t (i+1)/\∀b∈[it],H' b=zP) E {s with heap:=h',toks:=tk}:=by
   intro h' tk T eT st' sb hn;have I1   :=I.turned (t':=tk) (λb o hb e=>(sb.2 b hb).trans e) f0 f1 f3 f4 f5;obtain⟨o,e,c,d⟩:=id st';refine⟨_,rfl,OL  e c d hn ⟨.str ⟨#[x.cps[i]]⟩,H,I1,⟨_,rfl⟩,⟨rfl,_,hx,rfl⟩,by rw[eT];exact st',λb hb=>(hf b hb).1⟩⟩
  cases ha:x.cps.all (· < 128)with
  |true=>
   have eT:strIterType x = "str_ascii_iterator" :=by simp[strIterType,ha]
   rw[eT]at st;exact wpAny_pyNext_ascii_item st hx λh' st' sb=>fin h' _ _ eT st' sb (by decide)
  |false=>
   have eT:strIterType x = "str_iterator" :=by simp[strIterType,ha]
   rw[eT]at st;exact wpAny_pyNext_wide_item st hx λh' st' sb=>fin h' _ _ eT st' sb (by decide)
 done:=by
  intro X hP hw hK hc i pins s σ H E I hf st hg;subst hP hw hK;obtain⟨f0,f1,f2,f3,f4,f5⟩:=hf it (by simp);have hx:x.cps[i]?=zP:=Array.getElem?_eq_none hg;cases ha:x.cps.all (· < 128)with
  |true=>
   have eT:strIterType x = "str_ascii_iterator" :=by simp[strIterType,ha]
   rw[eT]at st;exact wpAny_pyNext_ascii_end (I.ok.hd hc) st hx λh' eb=>⟨rfl,I.turned (t':=s.toks) (λb o hb e=>eb b o hb e) f0 f1 f3 f4 f5⟩
  |false=>
   have eT:strIterType x = "str_iterator" :=by simp[strIterType,ha]
   rw[eT]at st;exact wpAny_pyNext_wide_end (I.ok.hd hc) st hx λh' eb=>⟨rfl,I.turned (t':=s.toks) (λb o hb e=>eb b o hb e) f0 f1 f3 f4 f5⟩
 self:=λA i s Q E st h=>by
  cases ha:x.cps.all (· < 128)with
  |true=>
   have eT:strIterType x = "str_ascii_iterator" :=by simp[strIterType,ha]
   rw[eT]at st;exact wpAny_pyIter_striter_ascii st h
  |false=>
   have eT:strIterType x = "str_iterator" :=by simp[strIterType,ha]
   rw[eT]at st;exact wpAny_pyIter_striter_wide st h
def iAny(K:Frag)(tl:TE):TI:=λσ H R=>tl σ H λx H1=>(∃a,x=.ref a/\(∃xs,SqL K H1 a xs)/\R (Itl K a) H1)∨(∃a,x=.ref a/\(∃xs,SqT K H1 a xs)/\R (Itt K a) H1) ∨ ∃z,x=.str z/\R (Its z) H1
def B9{l:UC}{tl:TE}(hl:PE X l tl):PI X tg l (iAny X.K tl):=by
 intro pins s σ H R I h;refine thn (hl pins s σ H _ I h) λv s1 ⟨x,H1,I1,r1,q1⟩=>?_
 have fpOk:∀b∈[s1.heap.objs.size],Yh X pins H1 b:=λb hb=>by
  have e   :=by simpa using hb
  subst e;exact I1.fpOk (Qv _) (I1.hok.fresh (Qv _))
 rcases q1 with ⟨a,e,⟨xs,hq⟩,q⟩|⟨a,e,⟨xs,hq⟩,q⟩|⟨z,e,q⟩
 .subst e
  cases r1;obtain⟨its,rv,p,hz⟩:=I1.list hq;refine JA p.isList ?_;exact⟨s1.heap.objs.size,[s1.heap.objs.size],_,_,H1,rfl,I1.kept (t':=s1.toks) λb o e=>Qj _ e,wS a _,⟨_,QF _ zO,rfl,rfl⟩,fpOk,q⟩
 .subst e
  cases r1;obtain⟨its,rv,p,hz⟩:=I1.tuple hq;refine wpAny_pyIter_tuple p ?_;exact⟨s1.heap.objs.size,[s1.heap.objs.size],_,_,H1,rfl,I1.kept (t':=s1.toks) λb o e=>Qj _ e,yh a _,⟨_,QF _ zO,rfl,rfl⟩,fpOk,q⟩
 .subst e
  obtain⟨t,rfl⟩:=r1;refine wpAny_pyIter_strU ?_;exact⟨s1.heap.objs.size,[s1.heap.objs.size],_,_,H1,rfl,I1.kept (t':=s1.toks) λb o e=>Qj _ e,j7 z t _,⟨_,QF _ zO,rfl,rfl⟩,fpOk,q⟩
noncomputable def Oc(z:Str):zS:=z.cps.toList.map λc=>.str ⟨#[c]⟩
noncomputable def ME:D->Option zS
 |.list ds=>O ds
 |.tuple ds=>O ds
 |.str z=>O (Oc z)
 |_=>zP
def yN{K}{G1}{ad}{vs}{ds}(h:SqT K G1 ad vs)(r:Reps K G1 vs ds):WU K (Itt K ad) ds G1 where
 go:=λi G H s1 s2 hi=>by
  have hi':i<vs.length:=by rw[r.length];simp_all
  exact⟨vs,vs[i],Wd (s1.trans s2) h,Qe hi'⟩
 stop:=λi G H s1 s2 hi=>⟨vs,Wd (s1.trans s2) h,by rw[r.length];simp_all⟩
 yld:=λi G H x H' d s1 s2 e y=>by obtain⟨rfl,y⟩:=y;obtain⟨v,e1,r1⟩:=r.get e;have:=y vs (Wd (s1.trans s2) h);rw[e1]at this;cases this;exact⟨G,.refl s2,r1.mono s1⟩
def vw{K}{G1}{z}:WU K (Its z) (Oc z) G1 where
 go:=λi G H s1 s2 hi=>by unfold Oc at hi;simpa[Its]using hi
 stop:=λi G H s1 s2 hi=>by unfold Oc at hi;simpa[Its]using hi
 yld:=λi G H x H' d s1 s2 e y=>by
  obtain⟨rfl,c,hc,rfl⟩:=y;unfold Oc at e;rw[Qd]at e;have:z.cps.toList[i]?=O c:=by simp_all
  rw[this]at e;cases e;exact⟨G,.refl s2,.str _⟩
noncomputable def K4(f:M D):M zS:=Ku f λx=>Kw (ME x)
def Me  (h:PE X e (tD X.K B G0 f)):PI X tg e (iD X.K B G0 (K4 f)):=Wu (B9 h) λσ H R q=>tM.toI  q λv H' G' Z' x k r a=>by
 cases x with
 |list ds=>obtain⟨ad,vs,rfl,h1,r1⟩:=r.lst_inv;exact .inl ⟨ad,rfl,⟨vs,k.gh.seq h1⟩,a _ G' H' k (.refl _) (yb h1 r1)⟩
 |tuple ds=>obtain⟨ad,vs,rfl,h1,r1⟩:=r.tup_inv;exact .inr (.inl ⟨ad,rfl,⟨vs,Wd k.gh h1⟩,a _ G' H' k (.refl _) (yN h1 r1)⟩)
 |str z=>have:=r.str_inv;subst this;exact .inr (.inr ⟨z,rfl,a _ G' H' k (.refl _) vw⟩)
 |_=>exact a.elim
noncomputable def inS(i j:Str):Bool:=!(Builtin.Str.occurrences j i 0 j.length 1).isEmpty
noncomputable def oInS:D->D->ag
 |.str i,.str j=>O (inS i j)
 |_,_=>zP
noncomputable def Hd:D->D->ag
 |.str i,.str j=>O (!inS i j)
 |_,_=>zP
def Cy:OpB X (UG .In) oInS:=⟨_,wO,λv u G H x y d Q s rx ry e k=>by
 unfold oInS at e;split at e
 .cases e
  have:=rx.str_inv;subst this;have:=ry.str_inv;subst this;exact⟨_,_,rfl,rfl,k⟩
 simp_all⟩
def B8:OpB X (UG .NotIn) Hd:=⟨_,zh,λv u G H x y d Q s rx ry e k=>by
 unfold Hd at e;split at e
 .cases e
  have:=rx.str_inv;subst this;have:=ry.str_inv;subst this;exact⟨_,_,rfl,rfl,k⟩
 simp_all⟩
def Cw   (hg:Gl X x)(hm:∃t,X.mg x=O (.int i t))(hd:(x==("__debug__" : Str))=zR:=by decide):PE X (.Name x pos) (tD X.K B G0 (U2 (.int i))):=by obtain⟨t,hm⟩:=hm;exact KZ (Fv (v:=.int i) hg hm ⟨t,rfl⟩ hd) λσ H Q ⟨G,Z,k,a⟩=>aft.now a k (.int _)
end
section
variable{X:Cx}{B G0:Hp}{KX:XW}{e o a b c tg i:UC}{pos p2:Pos}{es rest:zV}{te to ti:TE}
def B7(te to ti:TE):TS:=λD σ H=>te σ H λv H1=>to σ H1 λx H2=>ti σ H2 λk H3=>∃l xs n,x=.ref l/\H3 l=O (.lst xs)/\k=.int n/\0<=n/\n<xs.length/\D.nx σ (upd H3 l (.lst (xs.set n.toNat v)))
def j6(he:PE X e te)(ho:PE X o to)(hi:PE X i ti)(hs:swapsWith e (O (.Subscript o i p2)) pos.line X.env=pure zR:=by rfl):PS X (.Assign [.Subscript o i p2] e pos) (B7 te to ti):=by
 intro pins s σ H D I h;refine wpAny_Assign_Subscript (thn (he pins s σ H _ I h) λv s1 ⟨x,H1,I1,r1,q1⟩=>thn (ho pins s1 σ H1 _ I1 q1) λov s2 ⟨y,H2,I2,r2,q2⟩=>thn (hi pins s2 σ H2 _ I2 q2) λiv s3 ⟨k,H3,I3,r3,q3⟩=>?_) hs;obtain⟨l,xs,n,rfl,hl,rfl,h0,h1,q⟩:=q3;cases r2;obtain⟨t,rfl⟩:=r3;obtain⟨z,its,m,r,hlen,ee⟩:=I3.lstM hl
 refine PySem.W.ki_setAt (items:=its.toArray) (n:=m) ee h0 (by
                                  have:UD<2 ^ 63:=by decide
                                  lia) (by simp;lia) ?_
 refine⟨σ,_,I3.lset     hl ee (by simp) (r.set r1 n.toNat) (by rw[List.length_set];exact z),q⟩
noncomputable def Sn(j:Nat)(g f:M D):SM:=sB f λd Z1=>match Z1[j]? with
 |some (O (.own _))=>sB g (λy Z2=>match y with
  |.int k=>(match Z2[j]? with
   |some (O (.own ds))=>if 0<=k/\k<ds.length then .nx (Z2.set j (O (.own (ds.set k.toNat d))))else .bad
   |_=>.bad)
  |_=>.bad) Z1
 |_=>.bad
def Ff  {f g:M D}(he:PE X e (tD X.K B G0 f))(ho:PE X o (ZA j))(hi:PE X i (tD X.K B G0 g))(hs:swapsWith e (O (.Subscript o i p2)) pos.line X.env=pure zR:=by rfl) :
  PS X (.Assign [.Subscript o i p2] e pos) (tS X.K B G0 KX (Sn j g f)):=
 ZS (j6 he ho hi hs) λD σ H q=>tS.bnd  q λv H1 G1 Z1 d k r a=>by
  cases q0:Z1[j]? with
  |none=>rw[q0]at a;exact a.elim
  |some o0=>
   cases o0 with
   |none=>rw[q0]at a;exact a.elim
   |some sl0=>
    cases sl0 with
    |deep _ _=>rw[q0]at a;exact a.elim
    |pub d=>rw[q0]at a;exact a.elim
    |own bC=>
     rw[q0]at a;obtain⟨ad,vs0,h1,h2,h3,h4,h5⟩:=k.own j bC q0;refine⟨.ref ad,h1,G1,Z1,k,?_⟩;dsimp only at a;unfold sB at a;cases z:g Z1 with
     |bad=>rw[z]at a;exact a.elim
     |ok y Z2=>
      rw[z]at a;dsimp only at a;intro kv G' H' k' s' r';cases y with
      |int n=>
       cases q:Z2[j]? with
       |none=>rw[q]at a;exact a.elim
       |some oo=>
        cases oo with
        |none=>rw[q]at a;exact a.elim
        |some sl=>
         cases sl with
         |deep _ _=>rw[q]at a;exact a.elim
         |pub d=>rw[q]at a;exact a.elim
         |own ds=>
          rw[q]at a;dsimp only at a;split at a
          .rename_i hn
           obtain⟨ad',vs,g1,g2,g3,g4,g5⟩:=k'.own j ds q;rw[h1]at g1;cases g1;refine⟨ad,vs,n,rfl,g4,r'.int_inv,hn.1,by rw[g5.length];exact hn.2,?_⟩;exact a σ G' _ (k'.change q h1 (g5.set (r.mono s') n.toNat)) s'
          .exact a.elim
      |_=>exact a.elim
noncomputable def WA(z:Str)(lo hi:zZ):Str:=if(Builtin.Str.strSliceIndices lo hi 1 z.length).length=z.length then z else⟨((Builtin.Str.strSliceIndices lo hi 1 z.length).filterMap (z.cps[·]?)).toArray⟩
def B6:SlR X (λx lo hi H Q=>∃z,x=.str z/\(WA z lo hi).length<=UD/\Q (.str (WA z lo hi)) H):=by
 intro pins s σ H x v vl vu lo hi sl Q I rx hs pl pu h;obtain⟨z,rfl,hz,q⟩:=h;obtain⟨t,rfl⟩:=rx;refine⟨"str", _,F.slot_str_getitem.lookup,typeIs_str s z t,?_⟩
 obtain⟨l,el,e1⟩:∃l:Option (Int×Tok),vl=partValue l/\l.map (·.1)=lo:=by
  cases pl with
  |none=>exact⟨zP,rfl,rfl⟩
  |int k t'=>exact⟨O (k,t'),rfl,rfl⟩
 obtain⟨u,eu,e2⟩:∃u:Option _,vu=partValue u/\u.map (·.1)=hi:=by
  cases pu with
  |none=>exact⟨zP,rfl,rfl⟩
  |int k t'=>exact⟨O (k,t'),rfl,rfl⟩
 subst el eu;refine wpAny_getItem_str_slice (l:=l) (u:=u) (st:=zP) hs zO ?_;unfold sliceMade slicePicked;rw[e1,e2];unfold WA at hz q;by_cases hw:(Builtin.Str.strSliceIndices lo hi 1 z.length).length=z.length
 .rw[Qu hw]at hz q
  rw[if_pos (by simp[hw])];exact⟨.str z,H,I,⟨t,rfl⟩,q⟩
 .rw[QJ hw]at hz q
  rw[if_neg (by simp[hw])];exact⟨hz,.str _,H,I.tok _,⟨_,rfl⟩,q⟩
end
section
variable{X:Cx}{B G0:Hp}{KX:XW}{e o a b c tg i:UC}{pos p2:Pos}{es rest:zV}{te to ti:TE}
def pvb(i){x}{pos}{N'}{scope}{cl}{C}{s₀}{H₀}{ex}(hN:N'[i]?=O x:=by rfl)
  (h:visK (scope.names.lookup x)=zQ:=by rfl) (hd:(x==("__debug__" : Str))=zR:=by decide) (hcd:(x==("__classdict__" : Str))=zR:=by decide) :
  PE (X.blk N' scope cl C s₀ H₀ ex) (.Name x pos) (ZA i):=Ht hN (qZ h) hd hcd
def Xw:D->zZ->zZ->zU
 |.list xs,lo,hi=>O (.list (DL.cutD xs lo hi))
 |.str z,lo,hi=>if(WA z lo hi).length<=1000000 then O (.str (WA z lo hi))else zP
 |_,_,_=>zP
def Yg(f:M D)(lo hi:M zZ):M D:=Ku f λx=>Ku lo λl=>Ku hi λh=>Kw (Xw x l h)
def w8{lo hi:Option UC}{f:M D}{l h}(he:PE X e (tD X.K B G0 f))(hl:PO X lo (tOi X.K B G0 l))(hu:PO X hi (tOi X.K B G0 h)) :
  PE X (.Subscript e (.Slice lo hi zP p2) pos) (tD X.K B G0 (Yg f l h)):=
 KZ (ku (qL.or B6) he hl hu) λσ H Q q=>by
  refine tM.one (R:=Rep X.K) q λv H2 G Z x k r a=>?_;refine tM.nx  k a λl' H3 G3 Z3 xl k3 s3 r3 a3=>?_;refine tM.nx  k3 a3 λh' H4 G4 Z4 xh k4 s4 r4 a4=>?_;subst r3 r4;unfold Kw Xw at a4
  cases x with
  |list xs=>obtain⟨ad,vs,rfl,h1,r1⟩:=((r.mono s3).mono s4).lst_inv;exact .inl ⟨ad,vs,rfl,k4.gh.seq h1,λp hp=>aft.done a4 k4 (Ext.new k4.gh hp) (.lst (SqL.of ZE) ((r1.cut l' h').mono (Z7 (k4.gh.free hp))))⟩
  |str z=>
   dsimp only at a4;have:=r.str_inv;subst this;by_cases hc:(WA z l' h').length<=1000000
   .rw[Qu hc]at a4
    exact .inr ⟨z,rfl,QK hc lim,aft.now a4 k4 (.str _)⟩
   .rw[QJ hc]at a4;exact a4.elim
  |_=>exact a4.elim
end
section
variable{X:Cx}{B G0:Hp}{e o a b c tg:UC}{pos p2:Pos}{es rest:zV}{te to ti:TE}
noncomputable def Zp{β:Type}(p:D->D->Option β)(i:Nat)(g:M D):M β:=λZ=>match Z[i]? with
 |some (O (.pub d))=>(Ku g λy=>Kw (p d y)) Z
 |some (O (.own _))=>(Ku g λy=>λZ'=>match Z'[i]? with|some (O (.own ds))=>Kw (p (.list ds) y) Z'|_=>.bad) Z
 |_=>.bad
def Hc{K}{σ:St}{H:Hp}{p}{r:R2}{i:Nat}{g:M D}{Q}{QV:VK}(hq:∀t H3,Q t H3->QV (.bl t) H3)(hr:∀v u G H x y d Q,Same G H->Rep K G v x->Rep K G u y->p x y=O d->Q (.bl d) H->r v u H Q)
  (q:tBo K B G0 (Zp p i g) σ H Q):ZA i σ H λx H1=>tD K B G0 g σ H1 λy H2=>r x y H2 QV:=by
 obtain⟨G,Z,k,a⟩:=q;unfold Zp at a;cases q:Z[i]? with
 |none=>rw[q]at a;exact a.elim
 |some o=>
  cases o with
  |none=>rw[q]at a;exact a.elim
  |some sl=>
   cases sl with
   |deep _ _=>rw[q]at a;exact a.elim
   |pub d=>
    rw[q]at a;obtain⟨v,h1,h2⟩:=k.pub i d q;refine⟨v,h1,G,Z,k,?_⟩;dsimp only[Ku]at a;cases z:g Z with
    |bad=>rw[z]at a;exact a.elim
    |ok y Z1=>rw[z]at a;intro u G' H' k' s' r';obtain⟨d',e',a'⟩:=aft.opt a;exact hr v u G' H' d y d' _ k'.gh (h2.mono s') r' e' (hq _ _ (a' d' G' H' k' s' zO))
   |own ds=>
    rw[q]at a;obtain⟨ad,vs,h1,h2,h3,h4,h5⟩:=k.own i ds q;refine⟨.ref ad,h1,G,Z,k,?_⟩;dsimp only[Ku]at a;cases z:g Z with
    |bad=>rw[z]at a;exact a.elim
    |ok y Z1=>
     rw[z]at a;dsimp only at a;intro u G' H' k' s' r';cases q1:Z1[i]? with
     |none=>rw[q1]at a;exact a.elim
     |some oo=>
      cases oo with
      |none=>rw[q1]at a;exact a.elim
      |some sl1=>
       cases sl1 with
       |deep _ _=>rw[q1]at a;exact a.elim
       |pub d1=>rw[q1]at a;exact a.elim
       |own ds1=>
        rw[q1]at a;obtain⟨ad',ws,g1,g2,g3,g4,g5⟩:=k'.own i ds1 q1;rw[h1]at g1;cases g1;obtain⟨d',e',a'⟩:=aft.opt a;have sg:Same G' (upd G' ad (.lst ws)):=Z7 g3
        have sh:Same (upd G' ad (.lst ws)) H':=λb o q=>by
         by_cases z:b=ad
         .subst z;rw[ZE]at q;cases q;exact g4
         .rw[K7 z]at q;exact k'.gh b o q
        exact hr (.ref ad) u _ H' (.list ds1) y d' _ sh (.lst (SqL.of ZE) (g5.mono sg)) (r'.mono sg) e' (hq _ _ (a' d' G' H' k' s' zO))
def qW     (o:OpB X (UG op) p)(ha:PE X a (ZA i))(hb:PE X b (tD X.K B G0 g))(hm:behindInMarks op b=zR) :
  PT X (.Compare a [op] [b] pos) (tBo X.K B G0 (Zp p i g)):=by
 obtain⟨r,h,j⟩:=o;exact YK (MM h ha hb hm) λσ H Q q=>Hc (λt H3 z=>⟨t,rfl,z⟩) j q
def qV     (o:OpB X (UG op) p)(ha:PE X a (ZA i))(hb:PE X b (tD X.K B G0 g))(hm:behindInMarks op b=zR) :
  PE X (.Compare a [op] [b] pos) (tD X.K B G0 (Kb UK (Zp p i g))):=by
 obtain⟨r,h,j⟩:=o;exact KZ (Ft h ha hb hm) λσ H Q q=>Hc (λt H3 z=>z) j (tBo.val q)
end
end DL
namespace L2
open PySem PySem.Spec PyProof.Rows
noncomputable def Itz(K:Frag)(a b:UA):It:=
 ⟨λi H=>∃xs x ys y,SqL K H a xs/\xs[i]?=O x/\SqL K H b ys/\ys[i]?=O y,
  λi H v H'=>∃p x y,H p=zP/\v=.ref p/\(∀xs,SqL K H a xs->xs[i]?=O x)/\(∀ys,SqL K H b ys->ys[i]?=O y)/\H'=upd H p (.tup [x,y]),
  λi H=>∃xs ys,SqL K H a xs/\SqL K H b ys/\(xs.length<=i∨ys.length<=i)⟩
def j4{P:Uz}{w:World}{K:Frag}{elts:zV}{x1}{tp:Pos}(a b z TI TO i1 i2:UA)(Dz:ZipApart z TI TO i1 i2 a b) :
  Turn P w K (.Tuple elts x1 tp) (Itz K a b) [z,TI,TO,i1,i2] z (λi h=>IsZip h z TI TO .none/\IsPair h TI (.ref i1) (.ref i2)/\(∃c d,IsPair h TO c d)/\h.IsListIter i1 a i/\h.IsListIter i2 b i) where
 mem:=by simp
 obj:=λi h st c hc=>by
  obtain⟨h1,h2,⟨c0,d0,h3⟩,⟨o4,h4,_,d4⟩,⟨o5,h5,_,d5⟩⟩:=st;have hc':c=z∨c=TI∨c=TO∨c=i1∨c=i2:=by simpa using hc
  rcases hc' with rfl|rfl|rfl|rfl|rfl
  .exact⟨_,h1,λv q=>by have q':Data.fields _=Data.cell v:=q;cases q'⟩
  .exact⟨_,h2,λv q=>by have q':Data.seq _ _=Data.cell v:=q;cases q'⟩
  .exact⟨_,h3,λv q=>by have q':Data.seq _ _=Data.cell v:=q;cases q'⟩
  .exact⟨o4,h4,λv q=>by rw[d4]at q;cases q⟩
  .exact⟨o5,h5,λv q=>by rw[d5]at q;cases q⟩
 keep:=λi h h' st k=>by obtain⟨h1,h2,⟨c0,d0,h3⟩,h4,h5⟩:=st;exact⟨k z (by simp) _ h1,k TI (by simp) _ h2,⟨c0,d0,k TO (by simp) _ h3⟩,h4.at λo q=>k i1 (by simp) o q,h5.at λo q=>k i2 (by simp) o q⟩
 item:=by
  intro X hP hw hK hc i pins s σ H E I hf st hg;subst hP hw hK;obtain⟨h1,h2,⟨c0,d0,h3⟩,h4,h5⟩:=st;obtain⟨xs,x,ys,y,hq,hx,aq,hy⟩:=hg;obtain⟨its,rv,p,hz⟩:=I.list hq;obtain⟨its',rv',p',hz'⟩:=I.list aq;obtain⟨u,hu,ru⟩:=rv.get hx;obtain⟨u',hu',ru'⟩:=rv'.get hy;refine wpAny_pyNext_zip_item Dz h1 h2 h3 h4 h5 p.isList p'.isList (x:=u) (y:=u') (by simpa using hu) (by simpa using hu') λh' g1 g3 g4 g5 gp gs gk=>?_
  refine⟨_,rfl,wpAny_letOwnedTupleGo_zip g1 λh2' gz sb=>?_⟩;have hzl:z<s.heap.objs.size:=Qh h1;have aT:Heap.SameBut z h' h2':=sb;have gp2   :=(aT.2 _ (JJ hzl)).trans gp
  have kk:∀c o,c∉[z,TI,TO,i1,i2]->s.heap.get? c=O o->h2'.get? c=O o:=λc o hc q=>by
   have n1:c≠z:=λe=>hc (by simp[e])
   have n3:c≠TO:=λe=>hc (by simp[e])
   have n4:c≠i1:=λe=>hc (by simp[e])
   have n5:c≠i2:=λe=>hc (by simp[e])
   exact(aT.2 c n1).trans (gk c o n1 n3 n4 n5 q)
  have hn:H s.heap.objs.size=zP:=I.hok.fresh (Qv _)
  have I2:Inv X pins σ (upd H s.heap.objs.size (.tup [x,y])) {s with heap:=h2'}:=
   I.turnedNew (t':=s.toks) (fp:=[z,TI,TO,i1,i2]) hf kk (Qv _) ⟨by show 2<=UD;decide,[u,u'],.cons ru (.cons ru' .nil),⟨_,gp2,rfl,_,rfl⟩⟩
  have gTI:IsPair h' TI (.ref i1) (.ref i2):=gk TI _ Dz.TIz Dz.TITO Dz.TIi1 Dz.TIi2 h2
  refine⟨.ref s.heap.objs.size,_,I2,rfl,⟨_,x,y,hn,rfl,λws hw=>by rw[I.list_inj hw hq];exact hx,λws hw=>by rw[I.list_inj hw aq];exact hy,rfl⟩,
   ⟨gz,(aT.2 _ Dz.TIz).trans gTI,⟨u,u',(aT.2 _ Dz.TOz).trans g3⟩,g4.at λo q=>(aT.2 _ Dz.i1z).trans q,g5.at λo q=>(aT.2 _ Dz.i2z).trans q⟩,λc hc=>?_⟩
  have hlt:c<s.heap.objs.size:=by
   have hc':c=z∨c=TI∨c=TO∨c=i1∨c=i2:=by simpa using hc
   rcases hc' with rfl|rfl|rfl|rfl|rfl
   .exact hzl
   .exact Qh h2
   .exact Qh h3
   .obtain⟨o,ho,_⟩:=h4;exact Qh ho
   .obtain⟨o,ho,_⟩:=h5;exact Qh ho
  rw[K7 (QZ hlt)];exact(hf c hc).1
 done:=by
  intro X hP hw hK hc i pins s σ H E I hf st hg;subst hP hw hK;obtain⟨h1,h2,⟨c0,d0,h3⟩,h4,h5⟩:=st;obtain⟨xs,ys,hq,aq,hx⟩:=hg;obtain⟨its,rv,p,hz⟩:=I.list hq;obtain⟨its',rv',p',hz'⟩:=I.list aq;have hl:=rv.length;have hl':=rv'.length;refine wpAny_pyNext_zip_end (I.ok.hd hc) Dz h1 h2 h3 h4 h5 p.isList p'.isList ?_ λh' eb=>⟨rfl,I.turnedL (t':=s.toks) hf λc o hb q=>eb c o (λe=>hb (by simp[e])) (λe=>hb (by simp[e])) (λe=>hb (by simp[e])) (λe=>hb (by simp[e])) q⟩
  rcases hx with hx|hx
  .exact .inl (by simp;lia)
  .exact .inr (by simp;lia)
 self:=λ_ _ _ _ _ st h=>wpAny_pyIter_zip st.1 h
section
variable{X:Cx}
def iZip(K:Frag)(ta:TA):TI:=λσ H R=>ta σ H λvs H1=>∃a b xs ys,vs=[.ref a,.ref b]/\SqL K H1 a xs/\SqL K H1 b ys/\R (Itz K a b) H1
def B5{a b:UC}{ta:TA}{p pos:Pos}{elts:zV}{x1}{tp:Pos}(hg:Gl X "zip")(hm:X.mg "zip" = zP)(ha:PA X [a,b] ta)
  (hs:UF [a,b] X.env=[(zR,eval a X.env),(zR,eval b X.env)]:=by rfl) (hs2:UF [b] X.env=[(zR,eval b X.env)]:=by rfl):PI X (.Tuple elts x1 tp) (.Call (.Name "zip" p) [a,b] [] pos) (iZip X.K ta):=by
 intro pins s σ H R I h;refine Call_ (T8 I hg hm boot_zip (JM (thn (ha pos pins s σ H _ I h) λus s1 ⟨vs,H1,I1,r1,q1⟩=>?_) (by rw[hs,hs2]) (by rw[hs2];rfl)));obtain⟨l1,l2,xs,ys,e,hq,aq,q⟩:=q1;subst e;cases r1 with
 |cons r rr=>
  cases rr with
  |cons r' rr=>
   cases rr;cases (r);cases (r');obtain⟨its,rv,pl,hz⟩:=I1.list hq;obtain⟨its',rv',pl',hz'⟩:=I1.list aq;have n1:l1<s1.heap.objs.size:=by obtain⟨_,e,_⟩:=id pl.isList;exact Qh e
   have n2:l2<s1.heap.objs.size:=by obtain⟨_,e,_⟩:=id pl'.isList;exact Qh e
   have ne:∀i j:Nat,i≠j->s1.heap.objs.size+i≠s1.heap.objs.size+j:=λi j h e=>h (Nat.add_left_cancel e);have m1:∀m:Nat,l1≠s1.heap.objs.size+m:=λm=>QZ (QH n1 (Nat.le_add_right _ _));have m2:∀m:Nat,l2≠s1.heap.objs.size+m:=λm=>QZ (QH n2 (Nat.le_add_right _ _));refine call_zip_2 pl.isList pl'.isList λh' g1 g2 g3 g4 g5 gs kk=>?_;have I2   :=I1.kept (t':=s1.toks) kk;refine wpAny_pyIter_zip g1 ?_
   refine⟨s1.heap.objs.size+4,[s1.heap.objs.size+4,s1.heap.objs.size+2,s1.heap.objs.size+3,s1.heap.objs.size,s1.heap.objs.size+1],_,_,H1,rfl,I2,
    j4 l1 l2 (s1.heap.objs.size+4) (s1.heap.objs.size+2) (s1.heap.objs.size+3) s1.heap.objs.size (s1.heap.objs.size+1) ⟨ne 2 4 (by decide),ne 3 4 (by decide),ne 0 4 (by decide),ne 1 4 (by decide),ne 2 3 (by decide),ne 2 0 (by decide),ne 2 1 (by decide),ne 3 0 (by decide),ne 3 1 (by decide),ne 0 1 (by decide),m1 4,m1 3,m1 0,m1 1,m2 4,m2 3,m2 0,m2 1⟩,⟨g1,g2,⟨_,_,g3⟩,g4,g5⟩,λc hc=>?_,q⟩
   have hc':s1.heap.objs.size<=c:=by
    have hc'   :=by simpa using hc
    rcases hc' with rfl|rfl|rfl|rfl|rfl<;>first|exact Nat.le_add_right _ _|exact Qv _
   exact I1.fpOk hc' (I1.hok.fresh hc')
end
end L2
namespace DL
open PySem PySem.Spec L2
open PyProof.Rows hiding St
section
variable{X:Cx}{B G0:Hp}{e a b c tg:UC}{pos:Pos}{es rest:zV}
noncomputable def YE(xs ys:zS):zS:=(xs.zip ys).map λp=>.tuple [p.1,p.2]
def vv{K}{G1:Hp}{a b:UA}{vs ws:List V}{ds es:zS}(h:SqL K G1 a vs)(h':SqL K G1 b ws)(r:Reps K G1 vs ds)(r':Reps K G1 ws es):WU K (Itz K a b) (YE ds es) G1 where
 go:=λi G H s1 s2 hi=>by
  unfold YE at hi;rw[Qb,JG]at hi;have hi1:i<vs.length:=by rw[r.length];lia
  have hi2:i<ws.length:=by rw[r'.length];lia
  exact⟨vs,vs[i],ws,ws[i],(s1.trans s2).seq h,Qe hi1,(s1.trans s2).seq h',Qe hi2⟩
 stop:=λi G H s1 s2 hi=>by
  unfold YE at hi;rw[Qb,JG]at hi;refine⟨vs,ws,(s1.trans s2).seq h,(s1.trans s2).seq h',?_⟩;rw[r.length,r'.length]
  lia
 yld:=λi G H x H' d s1 s2 e y=>by
  obtain⟨p,u,v,hp,rfl,y1,y2,rfl⟩:=y;have z1:=y1 vs ((s1.trans s2).seq h);have z2:=y2 ws ((s1.trans s2).seq h');unfold YE at e;rw[Qd]at e;cases q:(ds.zip es)[i]? with
  |none=>rw[q]at e;cases e
  |some pr=>rw[q]at e;cases e;rw[List.getElem?_zip_eq_some]at q;obtain⟨u',e1,r1⟩:=r.get q.1;obtain⟨v',e2,r2⟩:=r'.get q.2;rw[z1]at e1;rw[z2]at e2;cases e1;cases e2;exact⟨upd G p _,Ext.new s2 hp,.tup (SqT.of ZE) (.cons ((r1.mono s1).mono (Z7 (s2.free hp))) (.cons ((r2.mono s1).mono (Z7 (s2.free hp))) .nil))⟩
noncomputable def W8:zS->Option zS
 |[.list xs,.list ys]=>O (YE xs ys)
 |_=>zP
def jZ  (h:W8 x=O l):∃xs ys,x=[.list xs,.list ys]/\l=YE xs ys:=by
 unfold W8 at h;split at h
 .cases h;exact⟨_,_,rfl,rfl⟩
 simp_all
noncomputable def Wz(f:M zS):M zS:=Ku f λx=>Kw (W8 x)
def B4  {p2}{elts}{x1}{tp}(hg:Gl X "zip")(hm:X.mg "zip" = zP)(ha:PA X [a,b] (tDs X.K B G0 f))(hs:UF [a,b] X.env=[(zR,eval a X.env),(zR,eval b X.env)]:=by rfl)(hs2:UF [b] X.env=[(zR,eval b X.env)]:=by rfl) :
  PI X (.Tuple elts x1 tp) (.Call (.Name "zip" p2) [a,b] [] pos) (iD X.K B G0 (Wz f)):=Wu (B5 hg hm ha hs hs2) λσ H R q=>tM.toI  q λv H' G' Z' x k r a=>by
 cases z:W8 x with
 |none=>rw[z]at a;exact a.elim
 |some l=>
  obtain⟨xs,ys,rfl,rfl⟩:=jZ z;cases r with
  |cons r1 rr=>
   cases rr with
   |cons r2 rr=>cases rr;obtain⟨l1,vs,rfl,h1,q1⟩:=r1.lst_inv;obtain⟨l2,ws,rfl,h2,q2⟩:=r2.lst_inv;exact⟨l1,l2,vs,ws,rfl,k.gh.seq h1,k.gh.seq h2,a _ G' H' k (.refl _) (vv h1 h2 q1 q2)⟩
end
section
variable{X:Cx}{B G0:Hp}{e o a b c tg:UC}{pos p2 p3:Pos}{es rest:zV}{te to ti:TE}
noncomputable def oIn:D->D->ag
 |.str i,.str j=>O (inS i j)
 |x,.list xs=>if x.canLay0=zQ/\UN xs=zQ/\x.depth<=60 then O (xs.any λy=>UP y x)else zP
 |x,.tuple xs=>if x.canLay0=zQ/\UN xs=zQ/\x.depth<=60 then O (xs.any λy=>UP y x)else zP
 |_,_=>zP
noncomputable def Y1(x y:D):ag:=(oIn x y).map λt=>!t
noncomputable def Ww(x y:D):ag:=match y with
 |.list xs=>if x.canLay0=zQ/\UN xs=zQ/\x.depth<=60 then O (xs.any λy=>UP y x)else zP
 |.tuple xs=>if x.canLay0=zQ/\UN xs=zQ/\x.depth<=60 then O (xs.any λy=>UP y x)else zP
 |_=>zP
def Cv(hu:X.A.units+64<cLine):OpB X (UG .In) Ww:=by
 refine⟨λv u H Q=>∃G x y d,Same G H/\Rep X.K G v x/\Rep X.K G u y/\Ww x y=O d/\Q _ H,?_,λv u G H x y d Q s rx ry e k=>⟨G,x,y,d,s,rx,ry,e,k⟩⟩;intro pins s σ H x y v u Q I rx ry ⟨G,dx,dy,d,sg,px,py,e,q⟩;unfold Ww at e;split at e
 .split at e
  .rename_i c
   cases e;obtain⟨as,ra⟩:=XV I sg px rx c.1;obtain⟨bs,rb⟩:=XV I sg py ry (c.2.1);exact SeqAt.in_list_reads rb ra c.2.1 c.1 (by have:=c.2.2;lia) ⟨.bl _,H,I,rfl,q⟩
  simp_all
 .split at e
  .rename_i c
   cases e;obtain⟨as,ra⟩:=XV I sg px rx c.1;obtain⟨bs,rb⟩:=XV I sg py ry (c.2.1);exact SeqAt.in_tuple_reads rb ra c.2.1 c.1 (by have:=c.2.2;lia) ⟨.bl _,H,I,rfl,q⟩
  simp_all
 simp_all
def B3(hu:X.A.units+64<cLine):OpB X (UG .NotIn) (λx y=>(Ww x y).map λt=>!t):=by
 refine⟨λv u H Q=>∃G x y d,Same G H/\Rep X.K G v x/\Rep X.K G u y/\(Ww x y).map _=O d/\Q _ H,?_,λv u G H x y d Q s rx ry e k=>⟨G,x,y,d,s,rx,ry,e,k⟩⟩;intro pins s σ H x y v u Q I rx ry ⟨G,dx,dy,d,sg,px,py,e,q⟩;unfold Ww at e;split at e
 .split at e
  .rename_i c
   cases e;obtain⟨as,ra⟩:=XV I sg px rx c.1;obtain⟨bs,rb⟩:=XV I sg py ry (c.2.1);exact SeqAt.notIn_list_reads rb ra c.2.1 c.1 (by have:=c.2.2;lia) ⟨.bl _,H,I,rfl,q⟩
  simp_all
 .split at e
  .rename_i c
   cases e;obtain⟨as,ra⟩:=XV I sg px rx c.1;obtain⟨bs,rb⟩:=XV I sg py ry (c.2.1);exact SeqAt.notIn_tuple_reads rb ra c.2.1 c.1 (by have:=c.2.2;lia) ⟨.bl _,H,I,rfl,q⟩
  simp_all
 simp_all
def B_in(hu:X.A.units+64<cLine):OpB X (UG .In) oIn:=(Cy.or (Cv hu)).congr λx y=>by cases x<;>cases y<;>rfl
def Cu(hu:X.A.units+64<cLine):OpB X (UG .NotIn) Y1:=(B8.or (B3 hu)).congr λx y=>by cases x<;>cases y<;>rfl
def vq  {lo hi:Option UC}{st:UC}(he:PE X e te)(hl:PO X lo tl)(hu:PO X hi th)(hst:PO X (O st) ts):PE X (.Subscript e (.Slice lo hi (O st) p2) pos)
  (λσ H Q=>te σ H λx H1=>tl σ H1 λl H2=>th σ H2 λu H3=>ts σ H3 λt H4=>∃a xs,x=.ref a/\SqL X.K H4 a xs/\l=zP/\u=zP/\t=O (-1)/\∀p,H4 p=zP->Q (.ref p) (upd H4 p (.lst xs.reverse))):=by
 intro pins s σ H Q I h;refine Subscript_ (thn (he pins s σ H _ I h) λv s1 ⟨x,H1,I1,r1,q1⟩=>?_);refine wpAny_Slice (thn (hl pins s1 σ H1 _ I1 q1) λvl s2 ⟨l,H2,I2,pl,q2⟩=>thn (hu pins s2 σ H2 _ I2 q2) λvu s3 ⟨u,H3,I3,pu,q3⟩=>thn (hst pins s3 σ H3 _ I3 q3) λvt s4 ⟨t,H4,I4,pt,q4⟩=>?_);obtain⟨a,xs,rfl,hx,rfl,rfl,rfl,q⟩:=q4;cases r1;have I5:Inv X pins σ H4 {s4 with heap:=s4.heap.push {cls:=.type "slice", data:=.fields #[vl,vu,vt]}}:=I4.kept (t':=s4.toks) λb ob q=>Qj _ q
 obtain⟨its,r,ht,hz⟩:=I5.list hx;have hlen:=r.length;have hg:UE (model X.prog X.w) X.A (getItem (.ref a) (.ref s4.heap.objs.size)) (EP X pins σ Q) X.xe {s4 with heap:=s4.heap.push {cls:=.type "slice", data:=.fields #[vl,vu,vt]}}:=by refine wpAny_getItem_list_slice ht.isList (Heap.IsSliceOf.new ..) pl pu pt (by simp) ?_ (by rw[List.size_toArray]<;>lia);rw[PySem.W.krv_pick];refine⟨.ref _,_,I5.laid   (λb ob q=>Qj _ q) (Qv _) ?_,rfl,q _ (I5.hok.fresh (Qv _))⟩;exact⟨by rw[List.length_reverse];exact hz,its.reverse,0,r.reverse,QF _ zO⟩
 exact tail_any  ht.isList.typeIs slot_list_getitem.lookup hg (by with_unfolding_all rfl)
noncomputable def SN:D->zZ->zZ->zZ->zU
 |.list xs,zP,zP,O i=>if i = -1 then O (.list xs.reverse)else zP
 |_,_,_,_=>zP
noncomputable def V6(f:M D)(lo hi st:M zZ):M D:=Ku f λx=>Ku lo λl=>Ku hi λh=>Ku st λt=>Kw (SN x l h t)
def qU{lo hi}{st:UC}{f:M D}{l h t}(he:PE X e (tD X.K B G0 f))(hl:PO X lo (tOi X.K B G0 l))(hu:PO X hi (tOi X.K B G0 h))(hst:PO X (O st) (tOi X.K B G0 t)) :
  PE X (.Subscript e (.Slice lo hi (O st) p2) pos) (tD X.K B G0 (V6 f l h t)):=
 KZ (vq he hl hu hst) λσ H Q q=>by
  refine tM.one  q λv H2 G Z x k r a=>?_;refine tM.nx  k a λl' H3 G3 Z3 xl k3 s3 r3 a3=>?_;refine tM.nx  k3 a3 λh' H4 G4 Z4 xh k4 s4 r4 a4=>?_;refine tM.nx  k4 a4 λt' H5 G5 Z5 xt k5 s5 r5 a5=>?_;subst r3 r4 r5
  cases x with
  |list xs=>
   cases l' with
   |some _=>exact a5.elim
   |none=>
   cases h' with
   |some _=>exact a5.elim
   |none=>
   cases t' with
   |none=>exact a5.elim
   |some i=>
   obtain⟨ad,vs,rfl,h1,r1⟩:=(((r.mono s3).mono s4).mono s5).lst_inv;by_cases hi:i = -1
   .subst hi
    exact⟨ad,vs,rfl,k5.gh.seq h1,rfl,rfl,rfl,λp hp=>aft.done a5 k5 (Ext.new k5.gh hp) (.lst (SqL.of ZE) (r1.reverse.mono (Z7 (k5.gh.free hp))))⟩
   .unfold Kw SN at a5
    dsimp only at a5;rw[QJ hi]at a5;exact a5.elim
  |_=>exact a5.elim
noncomputable def Sm:zS->Option zS
 |[.list xs]=>O xs
 |[.tuple xs]=>O xs
 |_=>zP
def vp  (h:Sm x=O l):x=[.list l]∨x=[.tuple l]:=by
 unfold Sm at h;split at h
 .cases h;exact .inl zO
 .cases h;exact .inr zO
 simp_all
def w6:bootBuiltins "list" = O (.type "list"):=by decide +kernel
noncomputable def Sx(i:Nat):M zS:=λZ=>match Z[i]? with
 |some (O (.pub d))=>Kw (Sm [d]) Z
 |some (O (.own ds))=>.ok ds Z
 |_=>.bad
def vZ  (hg:Gl X "list")(hm:X.mg "list" = zP)(ho:PE X a (ZA i))(he:UF [a] X.env=(zR,eval a X.env)::UF [] X.env:=by rfl) :
  PE X (.Call (.Name "list" p2) [a] [] pos) (tL X.K B G0 (Sx i)):=
 KZ (Lo za hg hm w6 (SB ho Pg he) (by decide) (by decide) he zO) λσ H Q ⟨G,Z,k,q⟩=>by
  unfold Sx at q;cases z:Z[i]? with
  |none=>rw[z]at q;exact q.elim
  |some oo=>
   cases oo with
   |none=>rw[z]at q;exact q.elim
   |some sl=>
    cases sl with
    |deep _ _=>rw[z]at q;exact q.elim
    |own ds=>rw[z]at q;obtain⟨ad,vs,h1,h2,h3,h4,h5⟩:=k.own i ds z;exact⟨.ref ad,h1,ad,vs,rfl,.inl (SqL.of h4),λl hp=>q l vs G _ (k.ext (Ext.hid k.gh hp)) (.refl _) (NewL.of k hp h5)⟩
    |pub d=>
     rw[z]at q;dsimp only[Kw]at q;obtain⟨v,h1,h2⟩:=k.pub i d z;cases z2:Sm [d]with
     |none=>rw[z2]at q;exact q.elim
     |some l=>
      rcases vp z2 with e|e
      .cases e
       obtain⟨p,ws,rfl,g1,r1⟩:=h2.lst_inv;exact⟨_,h1,p,ws,rfl,.inl (k.gh.seq g1),λad hp=>q ad ws G _ (k.ext (Ext.hid k.gh hp)) (.refl _) (NewL.of k hp r1)⟩
      .cases e
       obtain⟨p,ws,rfl,g1,r1⟩:=h2.tup_inv;exact⟨_,h1,p,ws,rfl,.inr (Wd k.gh g1),λad hp=>q ad ws G _ (k.ext (Ext.hid k.gh hp)) (.refl _) (NewL.of k hp r1)⟩
noncomputable def PZ:zS->zU
 |[.int i]=>O (.int i)
 |[.bool b]=>O (.int (if b then 1 else 0))
 |_=>zP
def B2:Xr X (.type "int") PZ:=by
 refine⟨_,wM,λvs G H ds d Q s r e k=>?_⟩;unfold PZ at e;split at e
 .cases e
  obtain⟨v,rfl,q⟩:=r.one_inv;rw[q.int_inv];exact .inl ⟨_,rfl,k _ G H (.refl s) (.int _)⟩
 .cases e
  obtain⟨v,rfl,q⟩:=r.one_inv;rw[q.bl_inv];exact .inr ⟨_,rfl,k _ G H (.refl s) (.int _)⟩
 simp_all
def Ct  {zs:List Str}(hg:Gl X x)(hm:∃ad o its n,X.mg x=O (.ref ad)/\X.K.lookup ad=O o/\o.cls=.type "tuple" /\ o.data=.seq its n/\its.size<=UD/\Vals (zs.map V.str) its.toList)(hd:(x==("__debug__" : Str))=zR:=by decide) :
  PE X (.Name x pos) (tD X.K B G0 (U2 (.tuple (zs.map UL)))):=by
 obtain⟨ad,o,its,n,hm,h1,h2,h3,h4,h5⟩:=hm;refine KZ (Fv (v:=.ref ad) hg hm zO hd) λσ H Q ⟨G,Z,k,a⟩=>aft.now a k (.tup (.inr ⟨o,its,n,h1,h2,h3,h4,h5⟩) ?_)
 have:∀zs:List Str,Reps X.K G (zs.map V.str) (zs.map UL):=λzs=>by
  induction zs with
  |nil=>exact .nil
  |cons z r ih=>exact .cons (.str _) ih
 simp_all
end
section
variable{X:Cx}{B G0:Hp}{e o a b c tg:UC}{pos p2 p3 p4:Pos}{es rest:zV}{te to ti:TE}
theorem VY:∀{ns}{us},Vals (ns.map V.int) us->PyProof.Rows.IntsAre us ns
 |[],_,.nil=>.nil
 |n::ns,_,.cons h t=>by obtain⟨tk,rfl⟩:=h;exact .cons n tk (VY t)
noncomputable def Ob(ns:zT):Nat:=(PyProof.Rows.firstMet (λi=>ns.getD i 0) ns.length).length
def vY(hc:X.calm=zQ):Xn X (.type "set") (λxs H Q=>∃l,∃ns:zT,xs=[.ref l]/\SqL X.K H l (ns.map V.int)/\ns.length+1<4096/\∀S p,H p=zP->Q (.ref p) (upd H p (.set S (Ob ns)))):=by
 intro pins s σ H xs us Q I rx h;obtain⟨l,ns,rfl,hq,hb,q⟩:=h;obtain⟨u,rfl,ru⟩:=rx.one;cases ru;obtain⟨its,rv,p,hz⟩:=I.list hq;have hi:=VY rv;have hn:its.toArray.size=ns.length:=by have:=rv.length;grind
 refine call_set_list (I.ok.hd hc) p.isList  (by simpa using hi) (by rw[hn];exact hb) λh' tk hS hk=>?_
 rw[hn]at hS;refine⟨.ref s.heap.objs.size,_,I.laid  (λb o e=>hk b o (Qh e) e) (Qv _) (show YU X.prog X.w _ h' _ (.set _ _)from hS),rfl,q _ _ (I.hok.fresh (Qv _))⟩
def vX:Xn X (.builtin "len") (λxs H Q=>∃p S n,xs=[.ref p]/\H p=O (.set S n)/\Q (.int n) H):=by
 intro pins s σ H xs us Q I rx h;obtain⟨p,S,n,rfl,hp,q⟩:=h;obtain⟨u,rfl,ru⟩:=rx.one;cases ru;obtain⟨o,es,ep,t,h1,h2,h3,h4,h5,h6,h7,h8⟩:=(I.hok p _ hp)
 have hsb:scanBound=4096:=rfl;refine call_len_set h1 h2 h3 h7 (by lia) ?_;rw[h8];exact⟨.int n,H,I.tok _,⟨_,rfl⟩,q⟩
noncomputable def YY:zS->Option zT
 |[]=>O []
 |.int i::r=>(YY r).map (i :: ·)
 |_=>zP
theorem PJ{K}{G}:∀{vs}{ds}{ns},Reps K G vs ds->YY ds=O ns->vs=ns.map V.int
 |_,_,ns,.nil,e=>by cases e;rfl
 |_,_,ns,.cons (d:=d) r t,e=>by
  cases d with
  |int b=>
   unfold YY at e;cases z:YY _ with
   |none=>rw[z]at e;cases e
   |some cs=>rw[z]at e;cases e;rw[r.int_inv,PJ t z];rfl
  |_=>cases e
def Pz(ns):YY (ns.map int)=O ns:=by
 induction ns with
 |nil=>rfl
 |cons b r ih=>rw[QD,YY,ih];rfl
noncomputable def VR:zS->zU
 |[.list ds]=>(match YY ds with
  |some ns=>if ns.length+1<4096 then O (.int (Ob ns))else zP
  |none=>zP)
 |_=>zP
def yM   (h:VR xs=O d):∃ds ns,xs=[.list ds]/\YY ds=O ns/\ns.length+1<4096/\d=.int (Ob ns):=by
 unfold VR at h;split at h
 .rename_i ds
  cases z:YY ds with
  |none=>simp_all
  |some ns=>simp_all
 simp_all
def vW:bootBuiltins "set" = O (.type "set"):=by decide +kernel
def w5  (hc:X.calm=zQ)(hg:Gl X "len")(hm:X.mg "len" = zP)(hg2:Gl X "set")(hm2:X.mg "set" = zP)(ha:PA X [a] (tDs X.K B G0 f))(he:UF [a] X.env=(zR,eval a X.env)::UF [] X.env:=by rfl)
  (ba:UF [.Call (.Name "set" p2) [a] [] p3] X.env=(zR,eval (.Call (.Name "set" p2) [a] [] p3) X.env)::UF [] X.env:=by rfl) :
  PE X (.Call (.Name "len" p4) [.Call (.Name "set" p2) [a] [] p3] [] pos) (tD X.K B G0 (Zb VR f)):=
 KZ (Nx vX hg hm boot_len (SB (Lo (vY hc) hg2 hm2 vW ha (by decide) (by decide) he zO) Pg ba) (by decide) (by decide) ba zO) λσ H Q q=>tM.one  q λvs H2 G Z x k r a=>by obtain⟨d,e,a⟩:=a.opt;obtain⟨ds,ns,rfl,z,c,rfl⟩:=yM e;obtain⟨v,rfl,q1⟩:=r.one_inv;obtain⟨l,ws,rfl,h1,r1⟩:=q1.lst_inv;have:=PJ r1 z;subst this;refine⟨l,ns,rfl,k.gh.seq h1,c,λS p hp=>⟨p,S,Ob ns,rfl,ZE,?_⟩⟩;exact aft.done a k (Ext.hid k.gh hp) (.int _)
end
end DL
namespace L2
open PySem PySem.Spec PyProof.Rows
end L2
namespace DL
open PySem PySem.Spec L2
open PyProof.Rows hiding St
end DL
namespace L2
open PySem PySem.Spec PyProof.Rows
section
variable{prog:Uz}{w:World}{A:Around}{E:Ux->Uy->Prop}{s:Uy}{M:Model}{env:Env}
def qT  {T}{args}{kws}{Q}(hp:args.any (·.1)=zR)(hk:kws.any (·.1.isNone)=zR)
  (h:UE M A (evalArgs (.type T) zQ args kws) (λa s1=>UE M A (call (.type T) a.pos a.kw) Q E s1) E s):UE M A (callWith pos (.type T) [] args kws) Q E s:=by
 refine Qf (wpAny_holding (QS h (λa s1 h1=>Qf (JD ?_)) λ_ _ z=>z));simp only[hp,hk];refine Qf (Qo ?_);exact Qf (QS h1 (λr s2 hr=>Qf (wpAny_holding (wpAny_point (Qo hr)))) λ_ _ z=>z)
def jY(l:UA)(t:Tok)(items:Array Ux)(n:Nat)(dct:af)(sl) :
  Meets (Builtin.«enumerate.__new__» ⟨[.type "enumerate", .ref l],[("start", .int 1 t)]⟩) (λ_ R s=>s.heap.get? l=O ⟨.type "list", dct,.seq items n,sl⟩ /\
   R (.ok (.ret (.ref (s.heap.push {cls:=.type "list_iterator", data:=.fields #[.ref l,.int 0 0]}).objs.size))) {s with heap:=(s.heap.push {cls:=.type "list_iterator", data:=.fields #[.ref l,.int 0 0]}).push {cls:=.type "enumerate", data:=.fields #[.none,.bool zR,.ref s.heap.objs.size,rawInt 1,.none,.none]}}):=
 .of_wp λprog w A R s h=>by
  obtain⟨hl,h⟩:=h;have hsub:=sub_enumerate;have hL:Heap.IsList _ l items:=⟨_,hl,rfl,n,rfl⟩
  wp_walk using AutoSeq1.wpAny_loadPart' hl
  refine wpAny_stack_any λst=>(Qo ?_);split
  .rename_i c _ _ _ _ _
   cases (c==Value.type "enumerate")<;>(wp_walk using(AutoSeq1.wpAny_loadPart' hl),(JA hL))<;>exact⟨_,rfl,h⟩
  ·(wp_walk using(AutoSeq1.wpAny_loadPart' hl),(JA hL));exact⟨_,rfl,h⟩
def zw{T newId initId:String}{Bn Bi:Builtin}{args:zW}{kw:List (Str×Ux)}{S:PySem.Spec}{Q Q1}(ft:TypeCalled T newId initId)
  (hct:checkTypeCall T ⟨args,kw⟩=pure ()) (hcn:checkBuiltinCall newId ⟨.type T::args,kw⟩=pure ()) (eN:entryFor table newId=O Bn) (eI:entryFor table initId=O Bi)
  (g:Meets (Bn ⟨.type T::args,kw⟩) S) (h:S A.in1 (wants Q1 E) s)
  (hnext:∀obj s1,Q1 obj s1->s1.TypeIs obj T/\argsOk initId ⟨obj::args,kw⟩/\∃Si,Meets (Bi ⟨obj::args,kw⟩) Si/\Si A.in1 (wants (λr s2=>r=.none/\Q obj s2) E) s1) :
  UE (model prog w) A (call (.type T) args kw) Q E s:=by
 obtain⟨c,tl,hmro⟩:=ft.mro;have hmade:=ft.made;have hsub:=ft.sub;refine wpAny_call (codeAny_of_tree ?_);refine Qo ⟨Code.quiet_builtin _ (by decide +kernel),(codeAny_builtin F.entry_type_call ?_)⟩;have h1:=ft.notType;have h2:=ft.canCreate
 repeat' (any_goals (first|wp_step|assumption))
 refine codeAny_mono (codeAny_call_builtin ft.plain eN (wpAny_of_eq hcn (g prog w A.in1 _ s h))) λr s1 hr=>?_
 match r,hr with
 |.error e,hr=>exact hr
 |.ok (.ret obj),hr=>
  obtain⟨hT,hok,Si,gi,hsi⟩:=hnext _ _ hr;have hli:=ft.init.lookup;have hbi:=ft.init.bind obj
  repeat' (any_goals (first|wp_step|assumption))
  refine codeAny_mono (codeAny_call_builtin ft.init.plain eI (ft.init.check _ _ _ _ _ _ _ _ hT hok (gi prog w A.in1 _ s1 hsi))) λr2 s2 aL=>?_
  match r2,aL with
  |.error e,aL=>exact aL
  |.ok (.ret r),aL=>
   obtain⟨rfl,hq⟩:=aL
   repeat' (any_goals (first|wp_step|assumption))
  |.ok .next,aL=>exact aL.elim
  |.ok .brk,aL=>exact aL.elim
  |.ok .cont,aL=>exact aL.elim
 |.ok .next,hr=>exact hr.elim
 |.ok .brk,hr=>exact hr.elim
 |.ok .cont,hr=>exact hr.elim
def yL   {rest}{kw}(hl:typeLookup (.type T) "__init__" = pure (O (.builtin "object.__init__")))
  (hm:Bind.madeBy (.type T)=pure (O newId)) (hne:(O newId != O "object.__new__")=zQ) :
  Meets (Builtin.«object.__init__» ⟨self::rest,kw⟩) (λ_ R s=>s.TypeIs self T/\R (.ok (.ret .none)) s):=by
 refine .of_wp λprog w A R s hs=>?_
 obtain⟨hT,hq⟩:=hs;cases rest with
 |nil=>
  cases kw with
  |nil=>exact Qo ⟨_,rfl,hq⟩
  |cons k kw=>(repeat' (any_goals (first|wp_step|assumption)));exact⟨_,rfl,hq⟩
 |cons a rest=>(repeat' (any_goals (first|wp_step|assumption)));exact⟨_,rfl,hq⟩
def yK(a)(t):checkTypeCall "enumerate" ⟨[a],[("start", .int 1 t)]⟩=pure ():=by kernel_rfl
def wZ(a)(t):checkBuiltinCall "enumerate.__new__" ⟨[.type "enumerate", a],[("start", .int 1 t)]⟩=pure ():=by kernel_rfl
def yX(o a)(t):argsOk "object.__init__" ⟨[o,a],[("start", .int 1 t)]⟩:=by kernel_rfl
def wY{l:UA}{items:Array Ux}{t:Tok}{Q}(hL:s.heap.IsList l items)
  (h:∀h',IsEnum h' (s.heap.objs.size+1) s.heap.objs.size 1 .none->h'.IsListIter s.heap.objs.size l 0->(∀b o,s.heap.get? b=O o->h'.get? b=O o)->Q (.ref (s.heap.objs.size+1)) {s with heap:=h'}) :
  UE (model prog w) A (call (.type "enumerate") [.ref l] [("start", .int 1 t)]) Q E s:=by
 obtain⟨⟨c,dct,dt,sl⟩,hl,hc,n,hd⟩:=hL;subst hc hd;have hz:(s.heap.push {cls:=.type "list_iterator", data:=.fields #[.ref l,.int 0 0]}).objs.size=s.heap.objs.size+1:=JK ..;have he:IsEnum ((s.heap.push {cls:=.type "list_iterator", data:=.fields #[.ref l,.int 0 0]}).push {cls:=.type "enumerate", data:=.fields #[.none,.bool zR,.ref s.heap.objs.size,rawInt 1,.none,.none]}) (s.heap.objs.size+1) s.heap.objs.size 1 .none:=by rw[←hz];exact QF _ zO
 refine zw F.called_enumerate (yK _ t) (wZ _ t) F.entry_enumerate_new F.entry_object_init (jY l t items n dct sl) (Q1:=λobj s1=>s1.TypeIs obj "enumerate" /\ Q obj s1) ⟨hl,?_⟩ λobj s1 hq=>
  ⟨hq.1,yX obj _ t,_,yL F.called_enumerate.init.lookup F.called_enumerate.made (by decide),hq.1,rfl,hq.2⟩
 rw[hz];exact⟨⟨_,he,rfl⟩,h _ he ⟨_,Qj _ (QF _ zO),rfl,rfl⟩ λb o x=>Qj _ (Qj _ x)⟩
end
section
variable{prog:Uz}{w:World}{A:Around}{E:Ux->Uy->Prop}{s:Uy}
def vV{en it l:UA}{i:Nat}{j:Int}{items:Array Ux}{x old:Ux}{Q:zY->Uy->Prop}(st:IsEnum s.heap en it j old)(li:s.heap.IsListIter it l i)(ls:s.heap.IsList l items)
  (at_:items[i]?=O x) (ne:en≠it)
  (k:∀h',IsEnumOut h' en it (j+1) x s.heap.objs.size->h'.IsListIter it l (i+1)->h'.get? s.heap.objs.size=O {cls:=.type "tuple", data:=.seq #[.int j s.toks,x]}->(∀b o,b≠en->b≠it->s.heap.get? b=O o->h'.get? b=O o) ->
   Q (O (.ref s.heap.objs.size)) {s with heap:=h',toks:=s.toks+1}):UE (model prog w) A (pyNext (.ref en)) Q E s:=by
 have ty:s.TypeIs (.ref en) "enumerate" :=⟨_,st,rfl⟩
 have lt:en<s.heap.objs.size:=Qh st;unfold pyNext;refine Qf (wpAny_attempt (wpAny_callSpecial?_slot (name:=UR "__next__") ty F.slot_enumerate_next (wpAny_call_entry F.slot_enumerate_next ty F.entry_enumerate_next ?_ (F.args_enumerate_next_1 _))));show UE _ _ (field (.ref en) 2 >>= _) _ _ s;refine Qf (wpAny_field st zO (x:=.ref it) zO ?_);refine Qf (wpAny_nextOf_list_item li ls at_ λm1 li1 c1=>?_);have c1:Heap.SameBut it s.heap m1:=c1;have st1:IsEnum m1 en it j old:=(c1.2 en ne).trans st;show UE _ _ (field (.ref en) 3 >>= _) _ _ {s with heap:=m1};refine Qf (wpAny_field st1 zO (x:=rawInt j) zO ?_);show UE _ _ (field (.ref en) 4 >>= _) _ _ {s with heap:=m1};refine Qf (wpAny_field st1 zO (x:=.none) zO ?_);show UE _ _ (mkInt j >>= _) _ _ {s with heap:=m1};refine Qf (wpAny_mkInt ?_);refine wpAny_bind (wpAny_setField_rec st1 (by simp) λm2 st2 c2=>?_);have c2:Heap.SameBut en m1 m2:=c2;have st2:IsEnum m2 en it (j+1) old:=st2;show UE _ _ (setField (.ref en) 4 .none >>= _) _ _ {s with heap:=m2,toks:=s.toks+1};refine wpAny_bind (wpAny_setField_rec st2 (by simp) λm3 st3 c3=>?_);have c3:Heap.SameBut en m2 m3:=c3;have st3:IsEnum m3 en it (j+1) old:=st3;refine Qf (wpAny_newTuple ?_);have z3:m3.objs.size=s.heap.objs.size:=c3.1.trans (c2.1.trans c1.1);have st4:IsEnum (m3.push {cls:=.type "tuple", data:=.seq #[.int j s.toks,x]}) en it (j+1) old:=Qj _ (show IsEnum m3 en it (j+1) old from st3);have tp4:(m3.push {cls:=.type "tuple", data:=.seq #[.int j s.toks,x]}).get? s.heap.objs.size=O {cls:=.type "tuple", data:=.seq #[.int j s.toks,x]}:=by rw[←z3];exact QF _ zO
 have kp4:∀b o,b≠en->b≠it->s.heap.get? b=O o->(m3.push {cls:=.type "tuple", data:=.seq #[.int j s.toks,x]}).get? b=O o:=λb o n1 n2 q=>Qj _ ((c3.2 b n1).trans ((c2.2 b n1).trans ((c1.2 b n2).trans q)))
 have li4:(m3.push {cls:=.type "tuple", data:=.seq #[.int j s.toks,x]}).IsListIter it l (i+1):=by obtain⟨o,q,r⟩:=li1;exact⟨o,Qj _ ((c3.2 it (Ne.symm ne)).trans ((c2.2 it (Ne.symm ne)).trans q)),r⟩
 generalize m3.push {cls:=.type "tuple", data:=.seq #[.int j s.toks,x]}=m4 at st4 tp4 kp4 li4;rw[z3];refine Qf ?_;unfold Builtin.SmallTypes.ownedTupleIsFree Builtin.SmallTypes.ownedTupleHandOut;refine Qf (wpAny_field st4 zO (x:=.none) zO (Qo ?_));simp only[if_true];refine wpAny_bind (wpAny_rule (wpAny_bind (wpAny_field st4 zO (x:=old) zO (wpAny_bind (wpAny_setField_rec st4 (by simp) λm5 aO c5=>?_)))));have c5:Heap.SameBut en m4 m5:=c5;have aO:IsEnum m5 en it (j+1) x:=aO;refine wpAny_bind (wpAny_bind (wpAny_setField_rec aO (by simp) λm6 st6 c6=>?_));have c6:Heap.SameBut en m5 m6:=c6;have st6:IsEnumOut m6 en it (j+1) x s.heap.objs.size:=st6;refine wpAny_setField_rec st6 (by simp) λm7 st7 c7=>?_
 have c7:Heap.SameBut en m6 m7:=c7;have st7:IsEnumOut m7 en it (j+1) x s.heap.objs.size:=st7;have up:∀b,b≠en->m7.get? b=m4.get? b:=λb n=>(c7.2 b n).trans ((c6.2 b n).trans (c5.2 b n));refine Qf (wpAny_letGo (Qo ⟨_,rfl,Qo (k m7 st7 ?_ ((up _ (JJ lt)).trans tp4) λb o n1 n2 q=>(up b n1).trans (kp4 b o n1 n2 q))⟩))
 obtain⟨o,q,r⟩:=li4;exact⟨o,(up it (Ne.symm ne)).trans q,r⟩
def vU  {i:Nat}{j:Int}{items:Array Ux}{old:Ux}{Q}(hh:A.handled=zP)(st:IsEnum s.heap en it j old)(li:s.heap.IsListIter it l i)(ls:s.heap.IsList l items)
  (at_:items[i]?=zP) (k:∀h',Heap.ExtBut it s.heap h'->Q zP {s with heap:=h'}):UE (model prog w) A (pyNext (.ref en)) Q E s:=by
 have ty:s.TypeIs (.ref en) "enumerate" :=⟨_,st,rfl⟩
 refine Qf (wpAny_attempt (wpAny_callSpecial?_slot  ty F.slot_enumerate_next (wpAny_call_entry F.slot_enumerate_next ty F.entry_enumerate_next ?_ (F.args_enumerate_next_1 _))));show UE _ _ (field (.ref en) 2 >>= _) _ _ s;refine Qf (wpAny_field st zO  rfl (Qf  (wpAny_nextOf_list_end hh li ls at_ λh' z c y=>?_)));obtain⟨o,q,t⟩:=y;exact Qf (wpAny_isInstance  (b:=zQ) ⟨o,q,t⟩ isSubtype_stop (Qo (k _ c)))
end
noncomputable def RU(K:Frag)(a:UA):It:=
 ⟨λi H=>∃xs x,SqL K H a xs/\xs[i]?=O x,
  λi H v H'=>∃p x,H p=zP/\v=.ref p/\(∀xs,SqL K H a xs->xs[i]?=O x)/\H'=upd H p (.tup [.int (1+(i:Int)),x]),
  λi H=>∃xs,SqL K H a xs/\xs.length<=i⟩
def wX{P:Uz}{w:World}{K:Frag}{elts:zV}{x1}{tp:Pos}(a e it:UA)(hne:e≠it) :
  Turn P w K (.Tuple elts x1 tp) (RU K a) [e,it] e (λi h=>(∃old,IsEnum h e it (1+(i:Int)) old)/\h.IsListIter it a i) where
 mem:=by simp
 obj:=λi h st b hb=>by
  obtain⟨⟨old,he⟩,o,ho,c,d⟩:=st;have hb':b=e∨b=it:=by simpa using hb
  rcases hb' with rfl|rfl
  .exact⟨_,he,λv z=>by have z'   :=z;cases z'⟩
  .exact⟨o,ho,λv z=>by rw[d]at z;cases z⟩
 keep:=λi h h' st k=>by obtain⟨⟨old,he⟩,hi⟩:=st;exact⟨⟨old,k e (by simp) _ he⟩,hi.at λo q=>k it (by simp) o q⟩
 item:=by
  intro X hP hw hK hc i pins s σ H E I hf st hg;subst hP hw hK;obtain⟨⟨old,he⟩,hi⟩:=st;obtain⟨xs,x,hq,hx⟩:=hg;obtain⟨its,rv,p,hz⟩:=I.list hq;obtain⟨u,hu,ru⟩:=rv.get hx;refine vV he hi p.isList (x:=u) (by simpa using hu) hne λh1 out hi1 ht kk=>?_
  refine⟨_,rfl,wpAny_letOwnedTupleGo_enum out λh2 ba hs2=>?_⟩;have hel:e<s.heap.objs.size:=Qh he;have aA:Heap.SameBut e h1 h2:=hs2;have ht2   :=(aA.2 _ (JJ hel)).trans ht
  have kk2:∀b o,b∉[e,it]->s.heap.get? b=O o->h2.get? b=O o:=λb o hb q=>by
   have aG:b≠e:=λz=>hb (by simp[z])
   have hbi:b≠it:=λz=>hb (by simp[z])
   exact(aA.2 b aG).trans (kk b o aG hbi q)
  have hn:H s.heap.objs.size=zP:=I.hok.fresh (Qv _)
  have I2:Inv X pins σ (upd H s.heap.objs.size (.tup [.int (1+(i:Int)),x])) {s with heap:=h2,toks:=s.toks+1}:=
   I.turnedNew (fp:=[e,it]) hf kk2 (Qv _) ⟨by show 2<=UD;decide,[.int (1+(i:Int)) s.toks,u],.cons ⟨_,rfl⟩ (.cons ru .nil),⟨_,ht2,rfl,_,rfl⟩⟩
  refine⟨.ref s.heap.objs.size,_,I2,rfl,⟨_,x,hn,rfl,λys hy=>by rw[I.list_inj hy hq];exact hx,rfl⟩,⟨⟨u,?_⟩,?_⟩,λb hb=>?_⟩
  .have e2:(1+((i+1:Nat):Int))=1+(i:Int)+1:=by lia
   rw[e2];exact ba
  .exact hi1.at λo q=>(aA.2 it (Ne.symm hne)).trans q
  .have hlt:b<s.heap.objs.size:=by
    have hb':b=e∨b=it:=by simpa using hb
    rcases hb' with rfl|rfl
    .exact hel
    .obtain⟨o,ho,_⟩:=hi;exact Qh ho
   rw[K7 (QZ hlt)];exact(hf b hb).1
 done:=by intro X hP hw hK hc i pins s σ H E I hf st hg;subst hP hw hK;obtain⟨⟨old,he⟩,hi⟩:=st;obtain⟨xs,hq,hx⟩:=hg;obtain⟨its,rv,p,hz⟩:=I.list hq;have hl:=rv.length;exact vU (I.ok.hd hc) he hi p.isList (by simp;lia) λh' eb=>⟨rfl,I.turnedL (t':=s.toks) hf λb o hb q=>eb b o (λz=>hb (by simp[z])) q⟩
 self:=λ_ _ _ _ _ st h=>by obtain⟨⟨old,he⟩,_⟩:=st;exact wpAny_pyIter_enum he h
section
variable{X:Cx}
def jX{a:UC}{ta:TA}{p pos k1 k2:Pos}{j}{elts}{x1}{tp:Pos}(hg:Gl X "enumerate")(hm:X.mg "enumerate" = zP)(ha:PA X [a] ta)
  (hs:backTo pos (UF [a] X.env)=(zR,eval a X.env)::backTo pos (UF [] X.env):=by rfl) (hpl:(backTo pos (UF [a] X.env)).any (·.1)=zR:=by rfl) :
  PI X (.Tuple elts x1 tp) (.Call (.Name "enumerate" p) [a] [⟨O "start", .Constant (.int 1) j k1,k2⟩] pos) (λσ H R=>ta σ H λvs H1=>∃a xs,vs=[.ref a]/\SqL X.K H1 a xs/\R (RU X.K a) H1):=by
 intro pins s σ H R I h;refine wpAny_Call_Name_kw (T8 I hg hm boot_enumerate (qT hpl zO ?_));rw[hs];refine evalArgs_kwB zO ?_;rw[←hs];refine thn (ha pos pins s σ H _ I h) λus s1 ⟨vs,H1,I1,r1,q1⟩=>?_;refine kws_cons (wpAny_Constant_int (kws_nil ?_))
 obtain⟨l,xs,e,hq,q⟩:=q1;subst e;cases r1 with
 |cons r rr=>
  cases rr;cases (r);have I1':=I1.tok (s1.toks+1);obtain⟨its,rv,pl,hz⟩:=I1'.list hq;refine wY pl.isList λh' he hi kk=>?_;have I2   :=I1'.kept (t':=s1.toks+1) kk;refine wpAny_pyIter_enum he ?_
  refine⟨s1.heap.objs.size+1,[s1.heap.objs.size+1,s1.heap.objs.size],_,_,H1,rfl,I2,wX l _ _ (Nat.succ_ne_self _),⟨⟨_,he⟩,hi⟩,λb hb=>?_,q⟩;have hb'   :=by simpa using hb
  rcases hb' with rfl|rfl
  .exact I1.fpOk (JW _) (I1.hok.fresh (JW _))
  .exact I1.fpOk (Qv _) (I1.hok.fresh (Qv _))
end
end L2
namespace DL
open PySem PySem.Spec L2
open PyProof.Rows hiding St
section
variable{X:Cx}{B G0:Hp}{e a b c tg:UC}{pos:Pos}{es rest:zV}
def yW{K}{G1}{ad}{vs}{ds}(h:SqL K G1 ad vs)(r:Reps K G1 vs ds):WU K (RU K ad) (Yu 1 ds) G1 where
 go:=λi G H s1 s2 hi=>by
  rw[YH]at hi;have hi':i<vs.length:=by rw[r.length];exact hi
  exact⟨vs,vs[i],(s1.trans s2).seq h,Qe hi'⟩
 stop:=λi G H s1 s2 hi=>by rw[YH]at hi;exact⟨vs,(s1.trans s2).seq h,by rw[r.length];exact hi⟩
 yld:=λi G H x H' d s1 s2 e y=>by
  obtain⟨p,v,hp,rfl,y1,rfl⟩:=y;have z1:=y1 vs ((s1.trans s2).seq h);rw[OB]at e;cases q:ds[i]? with
  |none=>rw[q]at e;cases e
  |some dd=>rw[q]at e;cases e;obtain⟨v',e1,r1⟩:=r.get q;rw[z1]at e1;cases e1;refine⟨upd G p _,Ext.new s2 hp,.tup (SqT.of ZE) (.cons ?_ (.cons ((r1.mono s1).mono (Z7 (s2.free hp))) .nil))⟩;exact .int _
noncomputable def Pi:zS->Option zS
 |[.list ds]=>O (Yu 1 ds)
 |_=>zP
noncomputable def Mh(f:M zS):M zS:=Ku f λx=>Kw (Pi x)
def wW  (h:Pi x=O l):∃ds,x=[.list ds]/\l=Yu 1 ds:=by
 unfold Pi at h;split at h
 .simp_all
 simp_all
def jW  {p2 k1 k2}{j}{elts}{x1}{tp}(hg:Gl X "enumerate")(hm:X.mg "enumerate" = zP)(ha:PA X [a] (tDs X.K B G0 f))
  (hs:backTo pos (UF [a] X.env)=(zR,eval a X.env)::backTo pos (UF [] X.env):=by rfl) (hpl:(backTo pos (UF [a] X.env)).any (·.1)=zR:=by rfl) :
  PI X (.Tuple elts x1 tp) (.Call (.Name "enumerate" p2) [a] [⟨O "start", .Constant (.int 1) j k1,k2⟩] pos) (iD X.K B G0 (Mh f)):=Wu (jX hg hm ha hs hpl) λσ H R q=>tM.toI  q λv H' G' Z' x k r a=>by
 cases z:Pi x with
 |none=>rw[z]at a;exact a.elim
 |some l=>obtain⟨ds,rfl,rfl⟩:=wW z;obtain⟨v,rfl,q⟩:=r.one_inv;obtain⟨l,ws,rfl,h1,r1⟩:=q.lst_inv;exact⟨l,ws,rfl,k.gh.seq h1,a _ G' H' k (.refl _) (yW h1 r1)⟩
end
section
variable{X:Cx}
noncomputable def most:zT->Int
 |[]=>0
 |[n]=>n
 |n::r=>if most r > n then most r else n
theorem Nu:∀{ns},0<ns.length->most ns∈ns
 |[n],_=>List.mem_singleton.2 zO
 |n::m::r,_=>by
  have ih:=Nu (ns:=m::r) (JN _);unfold most;split
  .exact Qk _ ih
  .exact Ql ..
theorem MN:∀{ns}{a},a∈ns->a<=most ns
 |[n],a,h=>by rw[List.mem_singleton.1 h];exact Jd _
 |n::m::r,a,h=>by
  have ih:∀b,b∈m::r->b<=most _:=λb hb=>MN hb;unfold most;rcases Qx.1 h with e|h
  .subst e;split<;>lia
  .have:=ih a h;split<;>lia
def qS  {M}(h1:M∈ns)(h2:∀a,a∈ns->a<=M):most ns=M:=
 JV (h2 _ (Nu (List.length_pos_of_mem h1))) (MN h1)
def vT(hc:X.calm=zQ):Xn X (.builtin "max") (λxs H Q=>∃l,∃ns:zT,xs=[.ref l]/\SqL X.K H l (ns.map V.int)/\0<ns.length/\Q (.int (most ns)) H):=by
 intro pins s σ H xs us Q I rx h;obtain⟨l,ns,rfl,hq,hb,q⟩:=h;obtain⟨u,rfl,ru⟩:=rx.one;cases ru;obtain⟨its,rv,p,hz⟩:=I.list hq;have hi:=VY rv;obtain⟨ys,e⟩:=hi.allInts.items;have hns:ns=ys.toList.map (·.1):=by rw[←hi.numsOf,←nums_intItems,←e]
 have hsz:0<ys.size:=by simp_all
 have hl:=p.isList;rw[e]at hl;refine max_intList (I.ok.hd hc) hl hsz λv h' tk hv hk=>?_
 obtain⟨t,rfl⟩:=intItems_at hv;obtain⟨h1,h2⟩:=argBest_gt (numAt ys) (ys.size-1);refine⟨.int _,H,I.kept hk,⟨t,?_⟩,q⟩;rw[qS  ?_ ?_]
 .rw[hns,numAt_eq];exact getD_mem (by rw[Qb,Uk];omega)
 .intro a ha
  rw[hns]at ha;obtain⟨j,hj,rfl⟩:=mem_getD ha;rw[Qb,Uk]at hj;rw[←numAt_eq];exact h2 j (by omega)
def Ss:zS->zU
 |[.list ds]=>(match YY ds with
  |some ns=>if 0<ns.length then O (.int (most ns))else zP
  |none=>zP)
 |_=>zP
def vS   (h:Ss xs=O d):∃ds ns,xs=[.list ds]/\YY ds=O ns/\0<ns.length/\d=.int (most ns):=by
 unfold Ss at h;split at h
 .rename_i ds
  cases z:YY ds with
  |none=>simp_all
  |some ns=>simp_all
 simp_all
def B0(hc:X.calm=zQ):Xr X (.builtin "max") Ss:=by refine⟨_,vT hc,λvs G H ds d Q s r e k=>?_⟩;obtain⟨ds,ns,rfl,z,c,rfl⟩:=vS e;obtain⟨v,rfl,q1⟩:=r.one_inv;obtain⟨l,ws,rfl,h1,r1⟩:=q1.lst_inv;have:=PJ r1 z;subst this;exact⟨l,ns,rfl,s.seq h1,c,k _ G H (.refl s) (.int _)⟩
def Ea  (h:0<ns.length):Ss [.list (ns.map .int)]=O (.int (most ns)):=by unfold Ss;simp only[Pz,Qu h]
end
section
variable{X:Cx}{B G0:Hp}{e o:UC}{es:zV}
noncomputable def yV   {xs:zS}{as}{d:D}(rs:ReadsAll h vs xs as)(hxs:UN xs=zQ) :
  vs.countP (λy=>UP (SeqAt.readOf h y) d)=xs.countP (λy=>UP y d):=by
 have key   :=(SeqAt.readsAll_map xs vs as hxs rs).symm;rw[key,List.countP_map];rfl
noncomputable def VQ(y x:D):zU:=match y with
 |.list ds=>if x.canLay0=zQ/\UN ds=zQ/\x.depth<=60 then O (.int (ds.countP λy=>UP y x))else zP
 |_=>zP
def kZ(hu:X.A.units+64<cLine):MtR X "list.count" (λv vs H Q=>∃G u y x d,vs=[u]/\Same G H/\Rep X.K G v y/\Rep X.K G u x/\VQ y x=O (.int d)/\Q (.int d) H):=by
 intro pins s σ H x xs v us Q I rx rs h;obtain⟨G,u,dy,dx,d,rfl,sg,py,px,e,q⟩:=h;obtain⟨w,rfl,ay⟩:=rs.one;unfold VQ at e;split at e
 .split at e
  .rename_i c
   obtain⟨bs,rb⟩:=XV I sg py rx (c.2.1);obtain⟨as,ra⟩:=XV I sg px ay c.1;cases rb with
   |list h1 h2 h3 h4=>rename_i l ob its cs n;obtain⟨cls,dd,data,sl⟩:=ob;subst h2 h3;refine call_meets F.slot_list_count ⟨_,h1,rfl⟩ F.entry_list_count (F.args_list_count_2 _ _) (SeqAt.list_countAt _ _ _ dd sl _ _) ⟨h1,SeqAt.items_eqAt h4 ra c.2.1 c.1 (by lia),?_⟩;rw[yV h4 c.2.1];cases e;exact⟨.int _,H,I.tok _,⟨_,rfl⟩,q⟩
  simp_all
 simp_all
noncomputable def Ng(y:D)(xs:zS):zU:=match xs with
 |[x]=>VQ y x
 |_=>zP
def yU{ds xs:zS}{d}(h:Ng (.list ds) xs=O d):∃x n,xs=[x]/\d=.int n/\VQ (.list ds) x=O (.int n):=by
 unfold Ng at h;split at h
 .rename_i x
  have h':=h;unfold VQ at h;dsimp only at h;split at h
  .cases h;exact⟨x,_,rfl,rfl,h'⟩
  .cases h
 simp_all
noncomputable def Vy(f:M D)(g:M zS):M D:=Ku f λy=>Ku g λxs=>Kw (match y with | .list ds=>Ng (.list ds) xs|_=>zP)
def vR{apos cpos}{f}{g}(hu:X.A.units+64<cLine)(ho:PE X o (tD X.K B G0 f))(ha:PA X (e::es) (tDs X.K B G0 g))
  (hbase:attributeBase o "count" X.env (eval o X.env)=eval o X.env:=by rfl)
  (hfew:((backTo cpos (UF (e::es) X.env)).all (λx=>!x.1)&&(backToKw cpos (keywordEach [] X.env)).all (λx=>x.1.isSome)
   && decide ((e::es).length+([]:List Keyword).length+(if([]:List Keyword).isEmpty then 0 else 1)<30))=zQ:=by rfl)
  (hline:(apos.endLine==cpos.line)=zQ:=by rfl) (hs:UF (e::es) X.env=(zR,eval e X.env)::UF es X.env:=by rfl) (hplain:(backTo cpos (UF es X.env)).any (·.1)=zR:=by rfl) :
  PE X (.Call (.Attribute o "count" apos) (e::es) [] cpos) (tD X.K B G0 (Vy f g)):=
 KZ (NS F.plainAttrs_list F.slot_list_count F.type_list_count (kZ hu) ho ha hbase hfew hline hs hplain) λσ H Q q=>by
  refine tM.one  q λv H2 G Z y k r a=>?_
  cases y with
  |list ds=>
   obtain⟨l,ws,rfl,h1,r1⟩:=r.lst_inv;refine⟨.inl ⟨rfl,ws,k.gh.seq h1⟩,?_⟩;refine tM.nx  k a λxs H3 G3 Z3 es k3 s3 r3 a3=>?_
   obtain⟨d,e,a3⟩:=a3.opt;obtain⟨x,n,rfl,rfl,e'⟩:=yU e;obtain⟨u,rfl,ru⟩:=r3.one_inv;exact⟨G3,u,.list ds,x,n,rfl,k3.gh,r.mono s3,ru,e',aft.now a3 k3 (.int _)⟩
  |_=>
   unfold Ku at a;cases z:g Z with
   |bad=>rw[z]at a;exact a.elim
   |ok xs Z1=>rw[z]at a;exact a.elim
def Oq   {Z Z1 Z2}{ds:zS}{x d}(h1:f Z=.ok (.list ds) Z1)(h2:g Z1=.ok [x] Z2)(h3:VQ (.list ds) x=O d):Vy f g Z=.ok d Z2:=by unfold Vy Ku;rw[h1];dsimp only;rw[h2];dsimp only[Ng];rw[h3];rfl
end
section
variable{prog:Uz}{w:World}{A:Around}{R:Result->Uy->Prop}{h0:Heap}{l I S:UA}{rs:List (UA×zW)}
def WC(h h':Heap):Prop:=∀b o,h.get? b=O o->h'.get? b=O o
def Ls1(h:Heap)(a:UA)(its:zW)(sl:Array zY):Prop:=∃n,h.get? a=O {cls:=.type "list", dict:=zP,data:=.seq its.toArray n,slots:=sl}
def Ls(h:Heap)(a:UA)(its:zW):Prop:=∃n sl,h.get? a=O {cls:=.type "list", dict:=zP,data:=.seq its.toArray n,slots:=sl}
noncomputable def Ls.kept  {a}{its}(x:Ls h a its)(k:WC h h'):Ls h' a its:=by obtain⟨n,sl,e⟩:=x;exact⟨n,sl,k _ _ e⟩
def yp(hh:A.in1.handled=zP)(hI:h0.objs.size<=I)(hS:h0.objs.size<=S)(hIS:S≠I)(hl:h0.IsList l (rs.map λp=>Value.ref p.1).toArray)(hr:∀p∈rs,Ls h0 p.1 p.2) :
  ∀(k i:Nat)(s:Uy)(t:UA)(acc:zW)(c:Nat)(sl:Array zY),rs.length-i=k->i<=rs.length->WC h0 s.heap->s.heap.IsListIter I l i ->
   s.heap.get? S=O {cls:=.type "list", dict:=zP,data:=.seq #[.ref t] c,slots:=#[]}->t≠S->t≠I->Ls1 s.heap t acc sl->acc.length+((rs.drop i).map (·.2)).flatten.length<=UD ->
   (∀p h' tk aI,WC h0 h'->Ls1 h' p (acc++((rs.drop i).map (·.2)).flatten) aI->(p=t/\i=rs.length/\aI=sl∨h0.objs.size<=p/\aI=#[])->R (.ok (.ret (.ref p))) {s with heap:=h',toks:=tk}) ->
   codeAny (model prog w) A (.builtin "sum.loop" ⟨[.ref I,.ref S,rawInt 2,rawInt 0],[]⟩) R s:=by
 intro k;induction k with
 |zero=>
  intro i s t acc c sl hk hi hK hit hSS htS htI ht hz hR;have hin:i=rs.length:=by lia
  subst hin;refine codeAny_builtin F.entry_sum_loop ?_;rw[Around.under_plainId F.plain_sum_loop _];show UE _ A.in1 (seqItems? (.ref S) >>= _) _ _ s;refine Qf (wpAny_seqItems hSS zO ?_);show UE _ A.in1 (tryCatch (pyNext (.ref I)) _ >>= _) _ _ s;have hl':s.heap.IsList l (rs.map λp=>Value.ref p.1).toArray:=by obtain⟨o,e,r⟩:=hl;exact⟨o,hK _ _ e,r⟩
  refine wpAny_bind (wpAny_tryCatch (wpAny_pyNext_list_end hh hit hl' (by simp) λh' ex=>?_));refine Qo (hR t h' s.toks sl (λb o e=>?_) ?_ (.inl ⟨rfl,rfl,rfl⟩))
  .exact ex b o (QZ (QH (Qh e) hI)) (hK b o e)
  .obtain⟨n,e⟩:=ht
   rw[List.drop_length,List.map_nil,List.flatten_nil,Jg];exact⟨n,ex _ _ htI e⟩
 |succ k ih=>
  intro i s t acc c sl hk hi hK hit hSS htS htI ht hz hR;have hlt:i<rs.length:=by lia
  refine codeAny_builtin F.entry_sum_loop ?_;rw[Around.under_plainId F.plain_sum_loop _];show UE _ A.in1 (seqItems? (.ref S) >>= _) _ _ s;refine Qf (wpAny_seqItems hSS zO ?_);show UE _ A.in1 (tryCatch (pyNext (.ref I)) _ >>= _) _ _ s;have hl':s.heap.IsList l (rs.map λp=>Value.ref p.1).toArray:=by obtain⟨o,e,r⟩:=hl;exact⟨o,hK _ _ e,r⟩
  refine wpAny_bind (wpAny_tryCatch (wpAny_pyNext_list_item (x:=.ref (rs[i]'hlt).1) hit hl' (by simp[hlt]) λh' cw sb=>?_));refine Qf (wpAny_attempt (wpAny_holding ?_));have hm:rs[i]'hlt∈rs:=JI hlt;have hd:rs.drop i=rs[i]'hlt::rs.drop (i+1):=Ju hlt;have hK':WC h0 h':=λb o e=>(sb.2 b (QZ (QH (Qh e) hI))).trans (hK b o e)
  obtain⟨n1,e1⟩:=ht;have e1':=(sb.2 t htI).trans e1;obtain⟨n2,s2,e2⟩:=(hr _ hm).kept hK';have cG:=(sb.2 S hIS).trans hSS;rw[hd,QD,JC,Qi]at hz;refine concat_meets ⟨_,e1',rfl⟩ ⟨_,e2,rfl⟩ noFill_list_add seq_list_add PySem.F.slot_list_add PySem.F.entry_list_add (PySem.F.args_list_add_2 _ _) (list_addW t _ acc.toArray _ n1 n2 zP zP sl s2 (by rw[Jh,Jh];lia)) ⟨e1',e2,?_⟩;have hlS:S<h'.objs.size:=Qh cG;have hlI:I<h'.objs.size:=by obtain⟨o,e,_⟩:=cw;exact Qh e
  have ea:acc.toArray++(rs[i]'hlt).2.toArray=(acc++(rs[i]'hlt).2).toArray:=by simp
  rw[ea];have hP:∀b o,h'.get? b=O o->(h'.push {cls:=Value.type "list", data:=Data.seq (acc++(rs[i]'hlt).2).toArray}).get? b=O o:=λb o e=>Qj _ e
  have hS1:=hP _ _ cG;have hNew:(h'.push {cls:=Value.type "list", data:=Data.seq (acc++(rs[i]'hlt).2).toArray}).get? h'.objs.size=O {cls:=Value.type "list", data:=Data.seq (acc++(rs[i]'hlt).2).toArray}:=QF _ zO;show UE _ A.in1 (updateSeq S (λ_=>#[.ref h'.objs.size]) >>= _) _ _ _;refine Qf (wpAny_updateSeq hS1 zO ?_);have hS2:=Heap.get?_update_self (Obj.mapSeq λ_=>#[Value.ref h'.objs.size]) hS1 zO;refine Qf (wpAny_letGo ?_);refine Qf (wpAny_updateSeq hS2 zO (Qo ⟨plainId_quiet F.plain_sum_loop _,?_⟩));have oth:∀b o,b≠S->(h'.push {cls:=Value.type "list", data:=Data.seq (acc++(rs[i]'hlt).2).toArray}).get? b=O o->(((h'.push {cls:=Value.type "list", data:=Data.seq (acc++(rs[i]'hlt).2).toArray}).update S (Obj.mapSeq λx=>#[Value.ref h'.objs.size])).update S (Obj.mapSeq λx=>#[Value.ref h'.objs.size])).get? b=O o:=λb o hb e=>(Heap.get?_update_other _ _ (Ne.symm hb)).trans ((Heap.get?_update_other _ _ (Ne.symm hb)).trans e)
  refine ih (i+1) _ h'.objs.size (acc++(rs[i]'hlt).2) _ #[] (by lia) hlt ?_ ?_ (Heap.get?_update_self _ hS2 zO) (JJ hlS) (JJ hlI) ?_ (by rw[Qi];lia) λp h'' tk aI hk'' hp hq=>?_
  .exact λb o e=>oth b o (QZ (QH (Qh e) hS)) (hP b o (hK' b o e))
  .obtain⟨o,e,r⟩:=cw
   exact⟨o,oth I o (Ne.symm hIS) (hP I o e),r⟩
  .exact⟨_,oth _ _ (JJ hlS) hNew⟩
  .refine hR p h'' tk aI hk'' ?_ (.inr ?_)
   .rw[hd,QD,JC,←Q5];exact hp
   .rcases hq with ⟨rfl, -,e⟩|hq
    .exact⟨Us (Nat.lt_of_le_of_lt hS hlS),e⟩
    .exact hq
end
section
variable{prog:Uz}{w:World}{A:Around}{E:Ux->Uy->Prop}{s:Uy}{l z:UA}{rs:List (UA×zW)}
noncomputable def vQ(a b:Ux):argsOk "sum" ⟨[a,b],[]⟩:=by unfold argsOk;kernel_rfl
def yo{Q:Ux->Uy->Prop}(hh:A.handled=zP)(hl:s.heap.IsList l (rs.map λp=>Value.ref p.1).toArray)(hr:∀p∈rs,Ls s.heap p.1 p.2)(hz:Ls s.heap z [])(hb:(rs.map (·.2)).flatten.length<=UD)
  (h:∀p h' tk aI,WC s.heap h'->Ls1 h' p (rs.map (·.2)).flatten aI->(p=z/\rs=[]∨s.heap.objs.size<=p/\aI=#[])->Q (.ref p) {s with heap:=h',toks:=tk}) :
  UE (model prog w) A (call (.builtin "sum") [.ref l,.ref z]) Q E s:=by
 refine call_function_tree F.kind_sum F.plain_sum F.entry_sum (vQ _ _) ?_;unfold Builtin.«sum»;simp only[QU,Qm];rw[QJ (by decide)];refine Qf (wpAny_of_eq (rfl) ?_);refine Qf (JA hl ?_);refine Qf (Qo ?_);obtain⟨n,sl,ez⟩:=id hz;have ty:∀h:Heap,h.get? z=O {cls:=.type "list", dict:=zP,data:=.seq [].toArray n,slots:=sl}->({s with heap:=h}:Uy).TypeIs (.ref z) "list" :=λh e=>⟨_,e,rfl⟩
 have ez':(s.heap.push {cls:=.type "list_iterator", data:=.fields #[.ref l,.int 0 0]}).get? z=_:=Qj _ ez;refine Qf (Qf (Qf (wpAny_isInstance (T:= "list") (b:=zR) (ty _ ez') F.sub_list_str ?_)));simp only[J9,if_false];refine Qo (Qf (Qf (wpAny_isInstance (T:= "list") (b:=zR) (ty _ ez') F.sub_list_bytes ?_)));simp only[J9,if_false];refine Qo (Qf (Qf (wpAny_isInstance (T:= "list") (b:=zR) (ty _ ez') F.sub_list_bytearray ?_)));simp only[J9,if_false];refine Qo (Qo ?_);refine Qf (wpAny_newObj_type ?_);have hzs:=Qh ez;have s1:(s.heap.push {cls:=.type "list_iterator", data:=.fields #[.ref l,.int 0 0]}).objs.size=s.heap.objs.size+1:=JK ..;have k2:WC s.heap ((s.heap.push {cls:=.type "list_iterator", data:=.fields #[.ref l,.int 0 0]}).push {cls:=.type "list", data:=.seq #[.ref z]}):=λb o e=>Qj _ (Qj _ e)
 refine Qo ⟨plainId_quiet F.plain_sum_loop _,yp (h0:=s.heap) (l:=l) (I:=s.heap.objs.size)  (rs:=rs) hh (Qv _) (by rw[s1];exact JW _) (by rw[s1];exact Nat.succ_ne_self _) hl hr rs.length 0 _ z [] 0 sl zO (JX _)
  k2 ⟨_,Heap.get?_push_of_some _ (Heap.get?_push_size _ zO),rfl,rfl⟩ (Heap.get?_push_size _ zO) (by rw[s1];exact Nat.ne_of_lt (Nat.lt_succ_of_lt hzs)) (Nat.ne_of_lt hzs) ⟨n,k2 _ _ ez⟩ (by simpa using hb) λp h' tk aI hk hp hq=>?_⟩
 exact h p h' tk aI hk (by simpa using hp) (hq.imp (λe=>⟨e.1,List.eq_nil_of_length_eq_zero e.2.1.symm⟩) id)
end
section
variable{X:Cx}{pins:List (UA×Obj)}{σ:St}{H:Hp}{s:Uy}
theorem Fo(I:Inv X pins σ H s):∀{rs:List (UA×List V)},(∀p∈rs,SqL X.K H p.1 p.2) ->
  ∃ts:List (UA×zW),(ts.map λp=>Value.ref p.1)=(rs.map λp=>Value.ref p.1)/\(∀p∈ts,Ls s.heap p.1 p.2)/\Vals (rs.map (·.2)).flatten (ts.map (·.2)).flatten
 |[],_=>⟨[],rfl,(λ_ h=>by cases h),(Paired.nil)⟩
 |p::rs,h=>by
  obtain⟨ts,e,hl,hv⟩:=Fo I λq hq=>h q (Qk _ hq)
  obtain⟨its,rv,⟨⟨c1,d1,t1,sl⟩,n,e1,ec,ed,et⟩,z⟩:=I.list (h p (Ql ..));simp only at ec ed et;subst ec ed et;refine⟨(p.1,its)::ts,by simp_all,λq hq=>?_,?_⟩
  .rcases Qx.1 hq with rfl|hq
   .exact⟨n,sl,e1⟩
   .exact hl q hq
  .exact rv.append hv
theorem Dd:∀{as:zX}{us},Vals (as.map V.ref) us->us=as.map Value.ref
 |[],_,.nil=>rfl
 |a::as,_,.cons h t=>by cases h;rw[Dd t];rfl
def vP(hc:X.calm=zQ):Xn X (.builtin "sum") (λxs H Q=>∃l z,∃rs:List (UA×List V),xs=[.ref l,.ref z]/\SqL X.K H l (rs.map λp=>V.ref p.1)/\(∀p∈rs,SqL X.K H p.1 p.2)/\SqL X.K H z []/\(rs.map (·.2)).flatten.length<=UD /\
  (rs=[]->Q (.ref z) H)/\∀p,H p=zP->Q (.ref p) (upd H p (.lst (rs.map (·.2)).flatten))):=by
 intro pins s σ H xs us Q I rx h;obtain⟨l,z,rs,rfl,hq,hr,hz,hb,q0,q⟩:=h;obtain⟨u,u',rfl,ru,ru'⟩:=NZ rx;cases ru;cases ru';obtain⟨its,rv,pl, -⟩:=I.list hq;obtain⟨ts,e,hl,hv⟩:=Fo I hr;have ei:its=ts.map λp=>Value.ref p.1:=by rw[e];have:=Dd   (by rw[QL];exact rv);rw[this,QL];rfl
 subst ei;obtain⟨zi,rz,⟨⟨c1,d1,t1,sl⟩,n,e1,ec,ed,et⟩, -⟩:=I.list hz;cases rz;simp only at ec ed et;subst ec ed et;have hlen:=hv.length;refine yo (I.ok.hd hc) pl.isList hl ⟨n,sl,e1⟩ (by lia) λp h' tk aI hk hp hq=>?_
 rcases hq with ⟨rfl,rfl⟩|⟨bR,rfl⟩
 .have hr0:rs=[]:=by
   simp_all
  exact⟨.ref _,H,I.kept hk,rfl,q0 hr0⟩
 .obtain⟨m,ep⟩:=hp
  exact⟨.ref p,_,I.laid  hk bR (show YU X.prog X.w _ h' _ (.lst _)from⟨hb,_,m,hv,ep⟩),rfl,q p (I.hok.fresh bR)⟩
noncomputable def VM:zS->Option (List zS)
 |[]=>O []
 |.list xs::r=>(VM r).map (xs :: ·)
 |_=>zP
theorem DE{K}{G}:∀{vs}{ds}{ls},Reps K G vs ds->VM ds=O ls ->
  ∃rs:List (UA×List V),vs=(rs.map λp=>V.ref p.1)/\(∀p∈rs,SqL K G p.1 p.2)/\Reps K G (rs.map (·.2)).flatten ls.flatten/\rs.length=ls.length
 |_,_,ls,.nil,e=>by cases e;exact⟨[],rfl,(λ_ h=>by cases h),.nil,rfl⟩
 |_,_,ls,.cons (d:=d) r t,e=>by
  cases d with
  |list xs=>
   unfold VM at e;cases z:VM _ with
   |none=>rw[z]at e;cases e
   |some cs=>
    rw[z]at e;cases e;obtain⟨rs,rfl,h1,h2,h3⟩:=DE t z;obtain⟨a,ws,rfl,h,rr⟩:=r.lst_inv;refine⟨(a,ws)::rs,rfl,λp hp=>?_,?_,J5 _ h3⟩
    .rcases Qx.1 hp with rfl|hp
     .exact h
     .exact h1 p hp
    .exact rr.append h2
  |_=>cases e
def yn(ls):VM (ls.map UJ)=O ls:=by
 induction ls with
 |nil=>rfl
 |cons b r ih=>rw[QD,VM,ih];rfl
noncomputable def R6:zS->zU
 |[.list ds,.list []]=>(match VM ds with
  |some ls=>if ls.flatten.length<=1000000 then O (.list ls.flatten)else zP
  |none=>zP)
 |_=>zP
def vO   (h:R6 xs=O d):∃ds ls,xs=[.list ds,.list []]/\VM ds=O ls/\ls.flatten.length<=1000000/\d=.list ls.flatten:=by
 unfold R6 at h;split at h
 .rename_i ds
  cases z:VM ds with
  |none=>simp_all
  |some ls=>simp_all
 simp_all
def BZ(hc:X.calm=zQ):Xr X (.builtin "sum") R6:=by
 refine⟨_,vP hc,λvs G H ds d Q s r e k=>?_⟩;obtain⟨ds,ls,rfl,z,c,rfl⟩:=vO e;obtain⟨v,v',rfl,q1,q2⟩:=r.two_inv;obtain⟨l,ws,rfl,h1,r1⟩:=q1.lst_inv;obtain⟨a,ws2,rfl,h2,r2⟩:=q2.lst_inv;have:=r2.nil_inv;subst this;obtain⟨rs,rfl,g1,g2,g3⟩:=DE r1 z;refine⟨l,a,rs,rfl,s.seq h1,λp hp=>s.seq (g1 p hp),s.seq h2,?_,λe0=>?_,λp hp=>?_⟩
 .rw[g2.length];exact QK c lim
 .subst e0
  have   :=List.eq_nil_of_length_eq_zero g3.symm;subst this;exact k _ G H (.refl s) (.lst h2 .nil)
 .exact k _ _ _ (.new s hp) (.lst (SqL.of ZE) (g2.mono (Z7 (s.free hp))))
end
section
variable{X:Cx}
noncomputable def Xm(ns:zT):zT:=ns.mergeSort λa b=>decide (a<=b)
def W4(ns:zT):(Xm ns).Perm ns:=List.mergeSort_perm ..
def Dc(ns):(Xm ns).Pairwise (· <= ·):=by have:=List.pairwise_mergeSort (le:=λa b   =>decide (a<=b)) (by intro a b c;simp;lia) (by intro a b;simp;lia) ns;exact this.imp (by simp)
theorem Fn:∀{a b:zT},a.Perm b->a.Pairwise (· <= ·)->b.Pairwise (· <= ·)->a=b
 |[],b,p,_,_=>by simp_all
 |x::a,[],p,_,_=>by simp_all
 |x::a,y::b,p,ha,hb=>by
  have hx:y<=x:=by
   rcases Qx.1 (p.mem_iff.1 (Ql ..))with e|e
   .exact Int.le_of_eq e.symm
   simp_all
  have hy:x<=y:=by
   rcases Qx.1 (p.mem_iff.2 (Ql ..))with e|e
   .exact Int.le_of_eq e.symm
   simp_all
  have e:=JV hy hx;subst e;rw[Fn (List.Perm.cons_inv p) (JP.1 ha).2 (JP.1 hb).2]
theorem Db:∀{us}{ns},PyProof.Rows.IntsAre us ns->Vals (ns.map V.int) us
 |_,_,.nil=>Paired.nil
 |_,_,.cons n t h=>Paired.cons ⟨t,rfl⟩ (Db h)
def ym:Xn X (.builtin "sorted") (λxs H Q=>∃l,∃ns:zT,xs=[.ref l]/\SqL X.K H l (ns.map V.int)/\ns.length<64/\∀p,H p=zP->Q (.ref p) (upd H p (.lst ((Xm ns).map V.int)))):=by
 intro pins s σ H xs us Q I rx h;obtain⟨l,ns,rfl,hq,hb,q⟩:=h;obtain⟨u,rfl,ru⟩:=rx.one;cases ru;obtain⟨its,rv,p,hz⟩:=I.list hq;have hi:=VY rv;have hn:its.length=ns.length:=by have:=rv.length;simp_all
 refine sorted_ints p.isList hi (by lia) λout ns' a1 a2 a3=>?_
 obtain⟨e,he⟩:=sortedAll_at s.heap its out;have en   :=Fn (a2.trans (W4 ns).symm) a3 (Dc ns);subst en;refine⟨.ref _,_,I.laid  (λb o=>sortedAll_old) (JW _) (show YU X.prog X.w _ _ _ (.lst _)from⟨?_,out.toList,e,Db a1,he⟩),rfl,q _ (I.hok.fresh (JW _))⟩;rw[Qb,(W4 ns).length_eq];simp_all
def Ph:zS->zU
 |[.list ds]=>(match YY ds with
  |some ns=>if ns.length<64 then O (.list ((Xm ns).map .int))else zP
  |none=>zP)
 |_=>zP
def yl   (h:Ph xs=O d):∃ds ns,xs=[.list ds]/\YY ds=O ns/\ns.length<64/\d=.list ((Xm ns).map .int):=by
 unfold Ph at h;split at h
 .rename_i ds
  cases z:YY ds with
  |none=>simp_all
  |some ns=>simp_all
 simp_all
theorem Da{K}{G}:∀ns:zT,Reps K G (ns.map V.int) (ns.map int)
 |[]=>.nil
 |n::r=>.cons (.int n) (Da r)
def qR:Xr X (.builtin "sorted") Ph:=by refine⟨_,ym,λvs G H ds d Q s r e k=>?_⟩;obtain⟨ds,ns,rfl,z,c,rfl⟩:=yl e;obtain⟨v,rfl,q1⟩:=r.one_inv;obtain⟨l,ws,rfl,h1,r1⟩:=q1.lst_inv;have:=PJ r1 z;subst this;exact⟨l,ns,rfl,s.seq h1,c,λp hp=>k _ _ _ (.new s hp) (.lst (SqL.of ZE) (Da _))⟩
def vN  (h:ns.length<64):Ph [.list (ns.map .int)]=O (.list ((Xm ns).map .int)):=by unfold Ph;simp only[Pz,Qu h]
end
@[simp] theorem mBind_ok   {k:α->M β}{Z Z'}{x}(h:f Z=.ok x Z'):Ku f k Z=k x Z':=by unfold Ku;rw[h]
theorem E9   {P:Nat->U5->Prop}{R:Out->Prop}:∀(ds)(n:Nat)(Z:U5),P n Z ->
  (∀i d Z,ds[i]?=O d->P (n+i) Z->∃Z1,s d Z=O Z1/\((∃Z2,(g Z1=.nx Z2∨g Z1=.ct Z2)/\P (n+i+1) Z2)∨(∃x,g Z1=.rt x/\R (.rt x))∨(∃Z2,g Z1=.bk Z2/\R (.nx Z2))∨(∃Z2 x,g Z1=.ex Z2 x/\R (.ex Z2 x)) ∨ ∃x,g Z1=.ro x/\R (.ro x)))->(∀Z,P (n+ds.length) Z->R (.nx Z))->R (So s g ds Z)
 |[],n,Z,h,_,f=>f Z h
 |d::r,n,Z,h,st,f=>by
  obtain⟨Z1,e1,e2⟩:=st 0 d Z zO h;rw[So,e1];dsimp only;rcases e2 with ⟨Z2,e2,h2⟩|⟨x,e2,h2⟩|⟨Z2,e2,h2⟩|⟨Z2,x,e2,h2⟩|⟨x,e2,h2⟩
  .have goal:=E9 (R:=R) r (n+1) Z2 h2 (λi d' Z3 q p=>by
    have e:n+1+i=n+(i+1):=by lia
    rw[e]at p⊢;exact st (i+1) d' Z3 (by simpa using q) p) (λZ3 p=>f Z3 (by
    have e:n+1+r.length=n+(d::r).length:=by rw[QU];lia
    rw[e]at p;exact p))
   rcases e2 with e2|e2<;>(rw[e2];exact goal)
  .rw[e2];exact h2
  .rw[e2];exact h2
  .rw[e2];exact h2
  .rw[e2];exact h2
def XY{lo hi}{i:Nat}{d}(h:(Ys lo hi)[i]?=O d):d=.int (lo+i)/\(i:Int)<hi-lo:=by have hl   :=(Qg.mp h).1;rw[YZ]at hl;unfold Ys at h;simp_all
section
variable{α β:Type}{Z Z1 Z2 Z3 Z':U5}{f g h:M D}
def Ka{a:α}:U2 a Z=.ok a Z:=rfl
def U6:UY Z=.ok [] Z:=rfl
def YX{o:Option α}{a:α}(h:o=O a):Kw o Z=.ok a Z:=by subst h;rfl
def Zr{f}{k}{x:α}{r:Res β}(h:f Z=.ok x Z1)(h2:k x Z1=r):Ku f k Z=r:=by unfold Ku;rw[h];exact h2
def KJ{f}{k:α->β}{x}(h:f Z=.ok x Z1):Kb k f Z=.ok (k x) Z1:=by unfold Kb Ku;rw[h];rfl
def UX{i:Nat}{d:D}(h:Z[i]?=O (O (.pub d))):UW i Z=.ok d Z:=by unfold UW;rw[h]
def YC  {ds:zS}(h:Z[i]?=O (O (.own ds)))(h2:Z.set i (O (.pub (.list ds)))=Z'):UW i Z=.ok (.list ds) Z':=by unfold UW;simp_all
def Kf  {x y}{r:β}(h1:f Z=.ok x Z1)(h2:g Z1=.ok y Z2)(h3:op x y=O r):U1 op f g Z=.ok r Z2:=by exact Zr h1 (Zr h2 (YX h3))
def U0{g}{x}{xs}(h1:f Z=.ok x Z1)(h2:g Z1=.ok xs Z2):UZ f g Z=.ok (x::xs) Z2:=by exact Zr h1 (Zr h2 zO)
def ZU{g}{xs:zS}(h1:g Z=.ok xs Z1)(h2:xs.length<=1000000):KN g Z=.ok (.tuple xs) Z1:=by exact Zr h1 (by rw[Qu h2];rfl)
def ZN{g}{xs:zS}(h1:g Z=.ok xs Z1)(h2:xs.length<=1000000):KS g Z=.ok (.list xs) Z1:=by exact Zr h1 (by rw[Qu h2];rfl)
def W3{g}{xs:zS}(h1:g Z=.ok xs Z1)(h2:xs.length<=1000000):(Ku g λxs=>if xs.length<=1000000 then U2 xs else λ_=>.bad) Z=.ok xs Z1:=
 Zr h1 (by rw[Qu h2];rfl)
def Kt  {d y r}(h:Z[i]?=O (O (.pub d)))(h1:g Z=.ok y Z1)(h2:oIx d y=O r):U8 i g Z=.ok r Z1:=by unfold U8;rw[h];exact Zr h1 (YX h2)
def T6  {ds es:zS}{y r}(h:Z[i]?=O (O (.own ds)))(h1:g Z=.ok y Z1)(h3:Z1[i]?=O (O (.own es)))(h2:oIx (.list es) y=O r):U8 i g Z=.ok r Z1:=by unfold U8;rw[h];exact Zr h1 (by rw[h3];exact YX h2)
def Zj  {g}{xs}{r}(h1:g Z=.ok xs Z1)(h2:p xs=O r):Zb p g Z=.ok r Z1:=by exact Zr h1 (YX h2)
def Ko   {g}{xs}{r}(h1:g Z=.ok xs Z1)(h2:xs.length=n)(h3:F xs=O r):U7 n F g Z=.ok r Z1:=by exact Zr h1 (by rw[Qu h2];exact YX h3)
def Sw  (h1:f Z=.ok (.int i) Z1):Yz f Z=.ok (.int (-i)) Z1:=by exact Zr h1 zO
def Zu   (h:Z[i]?=O (O (.pub d)))(h2:Kn [d]=O r):Zk i Z=.ok r Z:=by unfold Zk;rw[h];exact YX h2
def qQ   (h:Z[i]?=O (O (.own ds))):Zk i Z=.ok (.int ds.length) Z:=by unfold Zk;rw[h]
def Y7{g}{i}{r}(h1:g Z=.ok [.int i] Z1)(h2:PY [.int i]=O r):YS g Z=.ok r Z1:=by exact Zr h1 (YX h2)
def qP{g}{i j}{r}(h1:g Z=.ok [.int i,.int j] Z1)(h2:PX [.int i,.int j]=O r):NU g Z=.ok r Z1:=by exact Zr h1 (YX h2)
def Y9{g}{xs r}(h1:g Z=.ok xs Z1)(h2:PV xs=O r):YR g Z=.ok r Z1:=by exact Zr h1 (YX h2)
def Xq  (h1:f Z=.ok (.int i) Z1):(Ku f λx=>Kw (YT x)) Z=.ok (O i) Z1:=Zr h1 zO
def Z9{f:M Bool}{t:Bool}(h1:f Z=.ok t Z1):KF f Z=.ok (!t) Z1:=KJ h1
def Yj  (h1:f Z=.ok (.bool t) Z1):Zq f Z=.ok t Z1:=by exact Zr h1 zO
def OS{f g}{t u}(h1:f Z=.ok t Z)(h2:t=zQ->g Z=.ok u Z):Zw f g Z=.ok (t&&u) Z:=by
 refine Zr h1 ?_;cases t with
 |true=>exact h2 zO
 |false=>rfl
def Wi  (h1:f Z=.ok (.bool t) Z)(h2:t=zQ->g Z=.ok (.bool u) Z):Wm f g Z=.ok (.bool (t&&u)) Z:=by
 refine Zr h1 ?_;cases t with
 |true=>exact h2 zO
 |false=>rfl
def Sv  (h1:f Z=.ok (.bool t) Z)(h2:t=zR->g Z=.ok (.bool u) Z):Xf f g Z=.ok (.bool (t || u)) Z:=by
 refine Zr h1 ?_;cases t with
 |false=>exact h2 zO
 |true=>rfl
def qO  (h1:f Z=.ok (.bool t) Z1):OG f Z=.ok (.bool (!t)) Z1:=by exact Zr h1 zO
def HJ{f}{g h:M α}{r}(h1:f Z=.ok zQ Z1)(h2:g Z1=r):mIf f g h Z=r:=by exact Zr h1 (by exact h2)
def Mg{f}{g h:M α}{r}(h1:f Z=.ok zR Z1)(h2:h Z1=r):mIf f g h Z=r:=by exact Zr h1 (by exact h2)
def Cs{f}{g h}{t}{x y:α}(h1:f Z=.ok t Z1)(h2:g Z1=.ok x Z1)(h3:h Z1=.ok y Z1):mIf f g h Z=.ok (if t=zQ then x else y) Z1:=by
 refine Zr h1 ?_;cases t with
 |true=>exact h2
 |false=>exact h3
def M9  {x y z}{t u}(h1:f Z=.ok x Z)(h2:g Z=.ok y Z)(h3:p x y=O t)(h4:t=zQ->h Z=.ok z Z)(h5:t=zQ->q y z=O u):Pf p q f g h Z=.ok (t&&u) Z:=by
 refine Zr h1 (Zr h2 (Zr (YX h3) ?_));cases t with
 |true=>exact Zr (h4 zO) (YX (h5 zO))
 |false=>rfl
def Ze{i j:Int}:Kg (.int i) (.int j)=O (.int (i+j)):=rfl
def Wj{x y:zS}(h:x.length+y.length<=1000000):Kg (.list x) (.list y)=O (.list (x++y)):=by exact Qu h
def Xp{i j:Int}:Zl (.int i) (.int j)=O (.int (i-j)):=rfl
def VJ  (h1 : -18446744073709551616<i)(h2:i<18446744073709551616):KB (.int i) (.int j)=O (.int (i*j)):=by exact Qu (.inl ⟨by lia,by lia⟩)
def Xb{i j}(h1 : -18446744073709551616<j)(h2:j<18446744073709551616):KB (.int i) (.int j)=O (.int (i*j)):=by exact Qu (.inr ⟨by lia,by lia⟩)
def DR{x:zS}{k}(h : -1000000<=k/\k<=1000000/\x.length*k.toNat<=1000000):KB (.list x) (.int k)=O (.list (UI k.toNat x).flatten):=by exact Qu h
def Sb{i j}(h:0<j):Y2 (.int i) (.int j)=O (.int (i % j)):=by exact Qu h
def kY{i j}(h:0<j)(h2:j<2 ^ 200):Va (.int i) (.int j)=O (.int (i / j)):=by exact Qu ⟨h,h2⟩
def Fm{i j}(h:0<j)(h2:j<18446744073709551616):Va (.int i) (.int j)=O (.int (i / j)):=kY h (Int.lt_trans h2 (by decide))
def Fl{i j}(h:0<=j/\j<=1000000/\i.natAbs<2 ^ 64):W9 (.int i) (.int j)=O (.int (i ^ j.toNat)):=by exact Qu h
def Wp{p:Int->Int->Bool}{i j:Int}:oIB p (.int i) (.int j)=O (p i j):=rfl
def Yk  : oEq (.int i) (.int j)=O (decide (i=j)):=by
 congr 1
def Zg{xs:zS}:Kn [.list xs]=O (.int xs.length):=rfl
def Oy{xs:zS}:Kn [.tuple xs]=O (.int xs.length):=rfl
def Fk{i j:Int}:P2 [.int i,.int j]=O (.int (if j > i then j else i)):=rfl
def Y8  (h1:j<=1000000)(h2 : -1000000<=j):PY [.int j]=O (Ys 0 j):=by exact Qu ⟨h1,h2⟩
def kX{i j}(h1:j<=1000000)(h2 : -1000000<=j)(h3:i<=1000000)(h4 : -1000000<=i):PX [.int i,.int j]=O (Ys i j):=by exact Qu ⟨h1,h2,h3,h4⟩
def Xa{xs:zS}:PV [.list xs]=O (Yu 0 xs):=rfl
def KY  {d}(h1:f Z=.ok d Z1)(h2:i<Z1.length)(h3:Z1.set i (O (.pub d))=Z'):Kj i f Z=.nx Z':=by unfold Kj Zc sB gN;simp_all
def Z8  {f}{ds}(h1:f Z=.ok ds Z1)(h2:i<Z1.length)(h3:Z1.set i (O (.own ds))=Z'):Zn i f Z=.nx Z':=by unfold Zn sB;simp_all
def XT   {bC ds}(h0:Z[i]?=O (O (.own bC)))(h1:f Z=.ok d Z1)(h2:Z1[i]?=O (O (.own ds)))(h3:ds.length<1000000)(h4:Z1.set i (O (.own (ds++[d])))=Z'):ZI i f Z=.nx Z':=by unfold ZI sB;simp_all
def YD   (h1:f Z=.ok d Z1)(h2:s d Z1=O Z'):Zc f s Z=.nx Z':=by unfold Zc sB;simp_all
def Wh{d:D}(h1:f Z=.ok d Z1):XI f Z=.nx Z1:=by unfold XI sB;rw[h1]
def U4   (h:i<Z.length)(h2:Z.set i (O (.pub d))=Z'):gN i d Z=O Z':=by unfold gN;simp_all
def Ks:gN0 [] Z=O Z:=rfl
def U9     (h1:s d Z=O Z1)(h2:t r Z1=O Z'):gNC s t (d::r) Z=O Z':=by unfold gNC;simp_all
def Kr   {ds:zS}(h1:ds.length=n)(h2:t ds Z=O Z'):gT n t (.tuple ds) Z=O Z':=by unfold gT;simp_all
structure Ho(g:SM)(Z:U5)(Q:Out->Prop):Prop where
 out:Q (g Z)
def Cr(h:SM)(Q:Out->Prop):Out->Prop
 |.nx Z'=>Ho h Z' Q
 |o=>Q o
structure NT(h:SM)(Q:Out->Prop)(o:Out):Prop where
 out:Cr h Q o
variable{Q:Out->Prop}{s t u:SM}
def KW(h:Ho s Z (NT t Q)):Ho (U3 s t) Z Q:=by
 have h:=h.out.out;constructor;unfold U3;cases e:s Z with
 |nx o=>rw[e]at h;exact h.out
 |_=>rw[e]at h;exact h
def Kq(h1:s Z=.nx Z1)(h2:Ho t Z1 Q):Ho (U3 s t) Z Q:=by
 constructor;unfold U3;rw[h1];exact h2.out
noncomputable def Yp{o:Out}(h1:s Z=o)(h2:Q o):Ho s Z Q:=by constructor;rw[h1];exact h2
def K1(h:Q (.nx Z)):Ho sNx Z Q:=⟨h⟩
def KU{o:U5}(h:Ho t o Q):NT t Q (.nx o):=⟨h⟩
noncomputable def ZP{d:D}(h:Q (.rt d)):NT t Q (.rt d):=⟨h⟩
def KE{f}{b}(h1:f Z=.ok b Z1)(h2:b=zQ->Ho s Z1 Q)(h3:b=zR->Ho t Z1 Q):Ho (sIf f s t) Z Q:=by
 constructor;unfold sIf sB;rw[h1];cases b with
 |true=>exact(h2 zO).out
 |false=>exact(h3 zO).out
def Kv  (h1:f Z=.ok d Z1)(h2:Q (.rt d)):Ho (Kc f) Z Q:=by constructor;unfold Kc sB;simp_all
noncomputable def Fj{P:Out->Prop}(h:Ho s Z P)(k:∀o,P o->Q o):Ho s Z Q:=⟨k _ h.out⟩
def Cq(I:U5->Prop)(Q:Out->Prop):Out->Prop
 |.nx Z | .ct Z=>I Z
 |.bk Z=>Q (.nx Z)
 |.rt d=>Q (.rt d)
 |.ex Z d=>Q (.ex Z d)
 |.ro ds=>Q (.ro ds)
 |.bad=>False
structure R5(I:U5->Prop)(Q:Out->Prop)(o:Out):Prop where
 out:Cq I Q o
def Zd{I:U5->Prop}(h:I Z):R5 I Q (.nx Z):=⟨h⟩
noncomputable def VI{I:U5->Prop}{d:D}(h:Q (.rt d)):R5 I Q (.rt d):=⟨h⟩
def ZD{f}{tg}{ds}(I:Nat->U5->Prop)(h1:f Z=.ok ds Z1)(h0:I 0 Z1)
  (hst:∀i d Z,ds[i]?=O d->I i Z->∃Z2,tg d Z=O Z2/\Ho s Z2 (R5 (I (i+1)) Q)) (hend:∀Z,I ds.length Z->Q (.nx Z)):Ho (KH f tg s) Z Q:=by
 constructor;unfold KH sB;rw[h1];refine E9   ds 0 Z1 h0 (λi d Z e p=>?_) (λZ p=>hend Z (by simp_all))
 rw[QX]at p;obtain⟨Z2,e2,q⟩:=hst i d Z e p;refine⟨Z2,e2,?_⟩;rw[QX];have q:=q.out.out;cases z:s Z2 with
 |nx o=>rw[z]at q;exact .inl ⟨o,.inl zO,q⟩
 |ct o=>rw[z]at q;exact .inl ⟨o,.inr zO,q⟩
 |rt o=>rw[z]at q;exact .inr (.inl ⟨o,rfl,q⟩)
 |bk o=>rw[z]at q;exact .inr (.inr (.inl ⟨o,rfl,q⟩))
 |ex o x=>rw[z]at q;exact .inr (.inr (.inr (.inl ⟨o,x,rfl,q⟩)))
 |ro o=>rw[z]at q;exact .inr (.inr (.inr (.inr ⟨o,rfl,q⟩)))
 |bad=>rw[z]at q;exact q.elim
def W2   {P:D->Prop}(h0:WY N ds=Z)(h:Ho s Z λo=>∃d,o=.rt d/\P d):∃d,Ki N s ds=O d/\P d:=by subst h0;obtain⟨d,e,p⟩:=h.out;refine⟨d,?_,p⟩;unfold Ki;rw[e]
def K3    (h0:WY N ds=Z)(h:Ho s Z λo=>o=.rt d):Ki N s ds=O d:=by obtain⟨d',e,p⟩:=W2  h0 (Fj h λo e=>⟨d,e,rfl⟩);simp_all
end
section
variable{α β:Type}{Z Z1 Z2 Z3 Z':U5}{f g h:M D}
def W1  {x r}{a b}(h1:f Z=.ok x Z1)(h2:l Z1=.ok a Z2)(h3:u Z2=.ok b Z3)(h4:Xw x a b=O r):Yg f l u Z=.ok r Z3:=by exact Zr h1 (Zr h2 (Zr h3 (YX h4)))
def Vx{f g}(h1:f Z=.ok zQ Z1):mOr f g Z=.ok zQ Z1:=by exact Zr h1 zO
def ZZ{f g}{u}(h1:f Z=.ok zR Z1)(h2:g Z1=.ok u Z2):mOr f g Z=.ok u Z2:=by exact Zr h1 (by exact h2)
def Pl{f g}(h1:f Z=.ok zR Z1):Zw f g Z=.ok zR Z1:=by exact Zr h1 zO
def Sa{f g}{u}(h1:f Z=.ok zQ Z1)(h2:g Z1=.ok u Z2):Zw f g Z=.ok u Z2:=by exact Zr h1 (by exact h2)
def Yv  {d}{t}(h:f Z=.ok d Z1)(ht:(!K2 d c)=t):KF (Zq (Kb (λd=>.bool (K2 d c)) f)) Z=.ok t Z1:=by subst ht;exact Z9 (Yj (KJ  h))
def Zh   (h1:f Z=.ok x Z1)(h2:ME x=O r):K4 f Z=.ok r Z1:=by exact Zr h1 (YX h2)
def ZO  {i}{d y}{r:β}(h:Z[i]?=O (O (.pub d)))(h1:g Z=.ok y Z1)(h2:p d y=O r):Zp p i g Z=.ok r Z1:=by unfold Zp;rw[h];exact Zr h1 (YX h2)
def M8  {i}{ds es}{y}{r:β}(h:Z[i]?=O (O (.own ds)))(h1:g Z=.ok y Z1)(h3:Z1[i]?=O (O (.own es)))(h2:p (.list es) y=O r):Zp p i g Z=.ok r Z1:=by unfold Zp;rw[h];exact Zr h1 (by rw[h3];exact YX h2)
def Zi{f}{k}{s}{t}{ds es}(h1:f Z=.ok ds Z1)(h2:Zf s t g ds (KR Z1++UI k zP) []=O es):Za f k s t g Z=.ok es Z1:=by unfold Za;simp_all
theorem W6   (p)(q)(I:U5->Prop):∀(ds:zS)(Z:U5)(es:zS),(∀d∈ds,∀Z,I Z->∃Z1,s d Z=O Z1/\t Z1=.ok (p d) Z1/\(p d=zQ->g Z1=.ok (q d) Z1)/\I (KR Z1))->I Z->es.length+ds.length<=1000000 ->
  Zf s t g ds Z es=O (es++(ds.filter p).map q)
 |[],Z,es,_,_,_=>by rw[Zf];simp
 |d::r,Z,es,st,h0,hz=>by
  obtain⟨Z1,e1,e2,e3,h1⟩:=st d Ql Z h0;have ih:=λes' hz'=>W6 p q I r _ es' (λd' hd=>st d' (Qk _ hd)) h1 hz';rw[QU]at hz;rw[Zf,e1];dsimp only;rw[e2];dsimp only
  cases hp:p d with
  |true=>rw[Qu zO,e3 hp];dsimp only;rw[Qu (by lia),ih _ (by rw[Qi,Q0];lia),List.filter_cons_of_pos hp,Q5];rfl
  |false=>rw[QJ (by decide),ih _ (by lia),List.filter_cons_of_neg (by rw[hp];decide)]
def Nf  {d}{k}{bC ds}(h1:f Z=.ok d Z1)(h0:Z1[j]?=O (O (.own bC)))(h2:g Z1=.ok (.int k) Z2)(h3:Z2[j]?=O (O (.own ds)))(h4:0<=k/\k<ds.length)(h5:Z2.set j (O (.own (ds.set k.toNat d)))=Z'):Sn j g f Z=.nx Z':=by unfold Sn sB;simp_all
def W5{xs:zS}{a b:zZ}:Xw (.list xs) a b=O (.list (DL.cutD xs a b)):=rfl
def Zt{xs:zS}:ME (.list xs)=O xs:=rfl
def DD(bs):VD (bs.map UK)=O bs:=by
 induction bs with
 |nil=>rfl
 |cons b r ih=>rw[QD,VD,ih];rfl
def VP{bs:List Bool}:ZK [.list (bs.map UK)]=O (.bool (bs.all id)):=by unfold ZK;dsimp only;rw[DD];rfl
end
section
variable{α β:Type}{Z Z1 Z2 Z3 Z4 Z':U5}{f g h:M D}{s:SM}
def OR{g}{xs r}(h1:g Z=.ok xs Z1)(h2:W8 xs=O r):Wz g Z=.ok r Z1:=by exact Zr h1 (YX h2)
def HI  {xs:zS}(h1:f Z=.ok (.list xs) Z1)(h2:l Z1=.ok zP Z2)(h3:u Z2=.ok zP Z3)(h4:t Z3=.ok (O (-1)) Z4):V6 f l u t Z=.ok (.list xs.reverse) Z4:=by exact Zr h1 (Zr h2 (Zr h3 (Zr h4 (YX (by unfold SN;exact Qu zO)))))
def M7    (h:Z[i]?=O (O (.pub d)))(h2:Sm [d]=O ds):Sx i Z=.ok ds Z:=by unfold Sx;rw[h];exact YX h2
def Oa   (h0:WY N ds=Z)(h:Ho s Z λo=>∃Z',o=.nx Z'):Ki N s ds=O .none:=by subst h0;obtain⟨Z',e⟩:=h.out;unfold Ki;rw[e]
def Wg  : oNe (.int i) (.int j)=O (!decide (i=j)):=by
 congr 1
def M6{xs:zT}{a b:Int}(ha:0<=a)(hb:0<=b)(hl:b<=xs.length):DL.cutD (xs.map int) (O a) (O b)=((xs.drop a.toNat).take (b.toNat-a.toNat)).map int:=by
 unfold DL.cutD HT.sIx;dsimp only;rw[QJ (by lia),QJ (by lia),Qb,Uw];have e2:min b.toNat xs.length=b.toNat:=by lia
 rw[e2];by_cases hab:a.toNat<=xs.length
 .simp_all
 .have e3:b.toNat-a.toNat=0:=by lia
  grind
def Lm{xs ys:zT}:YE (xs.map int) (ys.map int)=(xs.zip ys).map λp=>.tuple [.int p.1,.int p.2]:=by unfold YE;rw[List.zip_map,QL];rfl
end
section
variable{Z Z1:U5}
def kW   (h1:g Z=.ok xs Z1)(h2:Pi xs=O r):Mh g Z=.ok r Z1:=by exact Zr h1 (YX h2)
def vM{xs:zS}:Pi [.list xs]=O (Yu 1 xs):=rfl
end
section
variable{X:Cx}{B G0:Hp}{KX:XW}{e o a b c tg i:UC}{pos p2:Pos}{es rest:zV}
noncomputable def Wo(f:M Bool)(g:SM):Nat->SM
 |0,_=>.bad
 |n+1,Z=>match f Z with
  |.bad=>.bad
  |.ok t Z1=>if t=zQ then(match g Z1 with
   |.nx Z2=>Wo f g n Z2
   |.ct Z2=>Wo f g n Z2
   |.bk Z2=>.nx Z2
   |.rt d=>.rt d
   |.ro ds=>.ro ds
   |.ex Z2 d=>.ex Z2 d
   |.bad=>.bad)else .nx Z1
def kU  {f}{g}(n)(hp:PassesOwn (model X.prog X.w) X.A X.env X.xe)(hc:PT X c (tBo X.K B G0 f))(hb:PSs X body (tS X.K B G0 KX g)):PS X (.While c body [] pos) (tS X.K B G0 KX (Wo f g n)):=
 ZS (xS hp hc hb) λDn σ H ⟨G,Z,k,a⟩=>by
  refine⟨λm σ' H'=>∃G' Z',EOk X.K B G0 G' H' σ' Z'/\aftS X.K B G0 KX (Wo f g m Z') G' Dn,⟨n,G,Z,k,a⟩,?_⟩;rintro m σ' H' ⟨G',Z',k',a'⟩;cases m with
  |zero=>exact a'.elim
  |succ m=>
   rw[Wo]at a';refine⟨G',Z',k',?_⟩;cases z:f Z' with
   |bad=>rw[z]at a';exact a'.elim
   |ok t Z1=>
    rw[z]at a';dsimp only at a';intro v G1 H1 k1 s1 e1;subst e1;cases v with
    |false=>exact a' _ G1 H1 k1 s1
    |true=>
     refine⟨λσ2 H2=>∃G2 Z2,EOk X.K B G0 G2 H2 σ2 Z2/\aftS X.K B G0 KX _ G2 Dn,λσ2 H2 h2=>⟨m,JO m,h2⟩,G1,Z1,k1,?_⟩;cases z2:g Z1 with
     |nx Z2=>rw[z2]at a';exact λσ4 G4 H4 k4 s4=>⟨G4,Z2,k4,aftS.mono (s1.trans s4) a'⟩
     |ct Z2=>rw[z2]at a';exact λσ4 G4 H4 k4 s4=>⟨G4,Z2,k4,aftS.mono (s1.trans s4) a'⟩
     |bk Z2=>rw[z2]at a';exact λσ4 G4 H4 k4 s4=>a' σ4 G4 H4 k4 (s1.trans s4)
     |rt d=>rw[z2]at a';exact a'
     |ro ds=>rw[z2]at a';exact a'
     |ex Z2 d=>rw[z2]at a';exact λv σ4 G4 H4 k4 s4 r4=>a' v σ4 G4 H4 k4 (s1.trans s4) r4
     |bad=>rw[z2]at a';exact a'.elim
noncomputable def Ws(op:Int->Int->zU)(j:Nat)(f:M D):SM:=λZ=>match Z[j]? with
 |some (O (.pub (.int a)))=>sB f (λy Z1=>match y with
  |.int b=>(match op a b with
   |some d=>if j<Z1.length then .nx (Z1.set j (O (.pub d)))else .bad
   |none=>.bad)
  |_=>.bad) Z
 |_=>.bad
def IpD(X:Cx)(op:Operator)(p:Int->Int->zU):Prop:=∃ti,PIp X op ti/\∀i j d,p i j=O d->∃v:V,(∀G,Rep X.K G v d)/\∀H(Q:VK),Q v H->ti (.int i) (.int j) H Q
def jq:IpD X .Mult X0:=⟨_,jS,λi j d e=>by
 unfold X0 at e;split at e
 .rename_i h
  cases e;exact⟨_,λ_=>.int _,λH Q q=>⟨i,j,rfl,rfl,h,q⟩⟩
 simp_all⟩
def BY  {x:Str}{op}{p}{f:M D}{pos':Pos}(hN:X.N.Nodup)(hi:X.N[j]?=O x)(hx:Loc X.env.scope x)(ho:IpD X op p)(he:PE X e (tD X.K B G0 f))(hf:X.fn x=zQ∨X.env.scope.names.lookup x=O .local:=by first|exact .inl rfl|exact .inr rfl|assumption) :
  PS X (.AugAssign (.Name x pos') op e pos) (tS X.K B G0 KX (Ws p j f)):=by
 obtain⟨ti,hti,hp⟩:=ho;refine ZS (AO hN hi hx he hti hf) λDn σ H ⟨G,Z,k,a⟩=>?_;unfold Ws at a
 cases q:Z[j]? with
 |none=>rw[q]at a;exact a.elim
 |some o0=>
  cases o0 with
  |none=>rw[q]at a;exact a.elim
  |some sl=>
   cases sl with
   |deep _ _=>rw[q]at a;exact a.elim
   |own ds=>rw[q]at a;exact a.elim
   |pub d0=>
    rw[q]at a;cases d0 with
    |int i0=>
     dsimp only at a;obtain⟨v,h1,h2⟩:=k.pub j _ q;cases h2.int_inv;refine⟨.int i0,h1,G,Z,k,?_⟩;unfold sB at a;cases z:f Z with
     |bad=>rw[z]at a;exact a.elim
     |ok y Z1=>
      rw[z]at a;intro u G1 H1 k1 s1 r1;cases y with
      |int i1=>
       cases r1.int_inv;dsimp only at a;cases w:p i0 i1 with
       |none=>rw[w]at a;exact a.elim
       |some d=>
        rw[w]at a;dsimp only at a;split at a
        .rename_i hl
         obtain⟨v',rv,hq⟩:=hp i0 i1 d w;exact hq H1 _ (a _ G1 H1 (k1.setPub (rv G1) hl) s1)
        .exact a.elim
      |_=>exact a.elim
    |_=>exact a.elim
end
section
variable{X:Cx}{B G0:Hp}{e o a b c tg i:UC}{pos p2:Pos}{es rest:zV}
def vL(hc:X.calm=zQ):Xn X (.builtin "sum") (λxs H Q=>∃l,∃ns:zT,xs=[.ref l]/\SqL X.K H l (ns.map V.int)/\Q (.int ns.sum) H):=by
 intro pins s σ H xs us Q I rx h;obtain⟨l,ns,rfl,hq,q⟩:=h;obtain⟨u,rfl,ru⟩:=rx.one;cases ru;obtain⟨its,rv,p,hz⟩:=I.list hq;have hi:=VY rv;obtain⟨ys,e⟩:=hi.allInts.items;have hns:ns=ys.toList.map (·.1):=by rw[←hi.numsOf,←nums_intItems,←e]
 have hl:=p.isList;rw[e]at hl;refine sum_intListG (I.ok.hd hc) hl λh' tk t' hk=>?_
 have e2:preSum (numAt ys) ys.size=ns.sum:=by rw[preSum_eq,List.take_of_length_le (by simp),hns]
 rw[e2];exact⟨.int ns.sum,H,I.kept hk,⟨t',rfl⟩,q⟩
noncomputable def Vv:zS->zU
 |[.list ds]=>(YY ds).map λns=>.int ns.sum
 |_=>zP
def vK   (h:Vv xs=O d):∃ds ns,xs=[.list ds]/\YY ds=O ns/\d=.int ns.sum:=by
 unfold Vv at h;split at h
 .rename_i ds
  cases z:YY ds with
  |none=>simp_all
  |some ns=>simp_all
 simp_all
def BX(hc:X.calm=zQ):Xr X (.builtin "sum") Vv:=by refine⟨_,vL hc,λvs G H ds d Q s r e k=>?_⟩;obtain⟨ds,ns,rfl,z,rfl⟩:=vK e;obtain⟨v,rfl,q1⟩:=r.one_inv;obtain⟨l,ws,rfl,h1,r1⟩:=q1.lst_inv;have:=PJ r1 z;subst this;exact⟨l,ns,rfl,s.seq h1,k _ G H (.refl s) (.int _)⟩
def Ox{ns:zT}:Vv [.list (ns.map .int)]=O (.int ns.sum):=by unfold Vv;dsimp only;rw[Pz];rfl
def vJ:MtR X "list.index" (λv vs H Q=>∃l k,∃ns:zT,v=.ref l/\vs=[.int k]/\SqL X.K H l (ns.map V.int)/\PyData.layable0 (.list (ns.map .int))=zQ/\k∈ns/\Q (.int (ns.idxOf k:Nat)) H):=by intro pins s σ H x vs v us Q I rx rv h;obtain⟨l,k,ns,rfl,rfl,hq,hl,hk,q⟩:=h;cases rx;obtain⟨u,rfl,ru⟩:=rv.one;obtain⟨t,rfl⟩:=ru;obtain⟨its,rv,p,hz⟩:=I.list hq;exact index_list_ints p.isList (VY rv) hl hk ⟨.int _,H,I.tok _,⟨_,rfl⟩,q⟩
noncomputable def Pk(y:D)(xs:zS):zU:=match y,xs with
 |.list ds,[.int k]=>(match YY ds with
  |some ns=>if PyData.layable0 (.list (ns.map .int))=zQ/\k∈ns then O (.int (ns.idxOf k:Nat))else zP
  |none=>zP)
 |_,_=>zP
def yT{ds xs:zS}{d}(h:Pk (.list ds) xs=O d):∃k ns,xs=[.int k]/\YY ds=O ns/\PyData.layable0 (.list (ns.map .int))=zQ/\k∈ns/\d=.int (ns.idxOf k:Nat):=by
 unfold Pk at h;split at h
 .rename_i ds' k e1
  cases e1;cases z:YY ds with
  |none=>simp_all
  |some ns=>simp_all
 simp_all
noncomputable def OQ(f:M D)(g:M zS):M D:=Ku f λy=>Ku g λxs=>Kw (match y with | .list ds=>Pk (.list ds) xs|_=>zP)
def wc{apos cpos}{f}{g}(ho:PE X o (tD X.K B G0 f))(ha:PA X (e::es) (tDs X.K B G0 g))
  (hbase:attributeBase o "index" X.env (eval o X.env)=eval o X.env:=by rfl)
  (hfew:((backTo cpos (UF (e::es) X.env)).all (λx=>!x.1)&&(backToKw cpos (keywordEach [] X.env)).all (λx=>x.1.isSome)
   && decide ((e::es).length+([]:List Keyword).length+(if([]:List Keyword).isEmpty then 0 else 1)<30))=zQ:=by rfl)
  (hline:(apos.endLine==cpos.line)=zQ:=by rfl) (hs:UF (e::es) X.env=(zR,eval e X.env)::UF es X.env:=by rfl) (hplain:(backTo cpos (UF es X.env)).any (·.1)=zR:=by rfl) :
  PE X (.Call (.Attribute o "index" apos) (e::es) [] cpos) (tD X.K B G0 (OQ f g)):=
 KZ (NS F.plainAttrs_list F.slot_list_index F.type_list_index vJ ho ha hbase hfew hline hs hplain) λσ H Q q=>by
  refine tM.one  q λv H2 G Z y k r a=>?_
  cases y with
  |list ds=>
   obtain⟨l,ws,rfl,h1,r1⟩:=r.lst_inv;refine⟨.inl ⟨rfl,ws,k.gh.seq h1⟩,?_⟩;refine tM.nx  k a λxs H3 G3 Z3 es k3 s3 r3 a3=>?_
   obtain⟨d,e,a3⟩:=a3.opt;obtain⟨x,ns,rfl,z,hl,hk,rfl⟩:=yT e;obtain⟨u,rfl,ru⟩:=r3.one_inv;have:=PJ r1 z;subst this;exact⟨l,x,ns,rfl,by rw[ru.int_inv],k3.gh.seq (s3.seq h1),hl,hk,aft.now a3 k3 (.int _)⟩
  |_=>
   unfold Ku at a;cases z:g Z with
   |bad=>rw[z]at a;exact a.elim
   |ok xs Z1=>rw[z]at a;exact a.elim
def kT   {Z Z1 Z2}{ds:zS}{x d}(h1:f Z=.ok (.list ds) Z1)(h2:g Z1=.ok [x] Z2)(h3:Pk (.list ds) [x]=O d):OQ f g Z=.ok d Z2:=by unfold OQ Ku;rw[h1];dsimp only;rw[h2];dsimp only;rw[h3];rfl
end
end DL
namespace DL
open PySem PySem.Spec PySem.W PyProof.Rows
noncomputable def KL{α:Type}(lt:Nat->Nat->Bool):KasT α->α
 |.ret a=>a
 |.ask i j k=>KL lt (k (lt i j))
theorem PF   {f:α->KasT β}:∀t:KasT α,KL lt (t.bind f)=KL lt (f (KL lt t))
 |.ret _=>rfl
 |.ask i j k=>by show KL lt ((k _).bind f)=_;rw[PF];rfl
section
variable{key:Nat->Int}{p:Array Nat}
noncomputable def KA(key:Nat->Int)(p:Array Nat)(i:Nat):Int:=key (p.getD i 0)
def srt(key:Nat->Int)(p:Array Nat)(m:Nat):Prop:=∀i j,i<=j->j<m->KA key p i<=KA key p j
def dsc(key:Nat->Int)(p:Array Nat)(m:Nat):Prop:=∀i j,i<=j->j<m->KA key p j<=KA key p i
noncomputable abbrev kl(key:Nat->Int)(i j:Nat):Bool:=decide (key i<key j)
def E8  (hk:k<p.size)(hd:d<=k):KA key (bubble p k d) i=if i=k-d then KA key p k else if k-d<i/\i<=k then KA key p (i-1)else KA key p i:=by
 unfold KA;simp only[JB];rw[getElem?_bubble hk d hd]
 repeat' split
 all_goals rfl
def P9{i j k}(hj:j<=p.size):KA key (kas_rev p i j) k=if i<=k/\k<j then KA key p (i+j-1-k)else KA key p k:=by
 unfold KA kas_rev;simp only[JB];rw[getElem?_mirror_all hj]
 split<;>rfl
noncomputable def SJ{i j:Nat}:(kas_rev p i j).size=p.size:=mirror_size _ _ _ _
noncomputable def VN{i j:Nat}:(kas_rev p i j).Perm p:=mirror_perm _ _ _ _
theorem M5:∀(f n:Nat),1<=n->srt key p n->srt key p (KL (kl key) (kas_asc p f n))/\n<=KL (kl key) (kas_asc p f n)/\KL (kl key) (kas_asc p f n)<=n+f /\
  (KL (kl key) (kas_asc p f n)<n+f->KA key p (KL (kl key) (kas_asc p f n))<KA key p (KL (kl key) (kas_asc p f n)-1))
 |0,n,h1,hs=>⟨hs,Qv _,Qv _,λh=>absurd h (Jp _)⟩
 |f+1,n,h1,hs=>by
  unfold kas_asc KL;cases c:kl key (p.getD n 0) _ with
  |true=>exact⟨hs,Qv _,by show n<=n+(f+1);lia,λ_=>Qa c⟩
  |false=>
   dsimp only;rw[QJ (by decide)];have hle   :=Uu.mp (Jc c)
   obtain⟨a1,a2,a3,a4⟩:=M5 f (n+1) (by lia) (λi j hij hj=>by
    by_cases bA:j=n
    .subst bA
     by_cases hin:i=j
     .subst hin;exact Jd _
     .exact JY (hs i (j-1) (by lia) (by lia)) hle
    .exact hs i j hij (by lia))
   exact⟨a1,by lia,by lia,λh=>a4 (by lia)⟩
def eqs(key:Nat->Int)(p:Array Nat)(n q:Nat):Prop:=∀i,n-1-q<=i->i<n->KA key p i=KA key p (n-1)
theorem NJ:∀(f:Nat)(p:Array Nat)(n q:Nat),1<=n->q+1<=n->n+f<=p.size->dsc key p n->eqs key p n q ->
  let r:=KL (kl key) (kas_desc f p n q)
  r.1.Perm p/\r.1.size=p.size/\dsc key r.1 r.2.1/\eqs key r.1 r.2.1 r.2.2/\r.2.2+1<=r.2.1/\n<=r.2.1/\r.2.1<=n+f
 |0,p,n,q,h1,hq,hz,hd,he=>⟨Uo _,rfl,hd,he,hq,Qv _,Qv _⟩
 |f+1,p,n,q,h1,hq,hz,hd,he=>by
  intro r;have hr:r=KL (kl key) (kas_desc (f+1) p n q):=rfl;unfold kas_desc KL at hr;cases c:kl key (p.getD n 0) (p.getD (n-1) 0)with
  |true=>
   rw[c]at hr;(try dsimp only at hr);rw[if_pos zO]at hr;have hlt:KA key p n<KA key p (n-1):=Qa c
   have ext:∀p':Array Nat,(∀i,KA key p' i=KA key p i)->dsc key p' (n+1)/\eqs key p' (n+1) 0:=λp' hp=>⟨λi j hij hj=>by
     rw[hp,hp];by_cases bA:j=n
     .subst bA
      by_cases hin:i=j
      .subst hin;exact Jd _
      .exact JY (Ut hlt) (hd i (j-1) (by lia) (by lia))
     .exact hd i j hij (by lia),λi hi1 hi2=>by
     have:i=n:=by lia
     subst this;rfl⟩
   by_cases hq0:q > 0
   .rw[Qu hq0]at hr
    have same:∀i,KA key (kas_rev p (n-(q+1)) n) i=KA key p i:=λi=>by
     rw[P9 (by lia)];split
     .rw[he _ (by lia) (by lia),he i (by lia) (by lia)]
     .rfl
    obtain⟨d1,e1⟩:=ext _ same;obtain⟨a1,a2,a3,a4,a5,a6,a7⟩:=NJ f (kas_rev p (n-(q+1)) n) (n+1) 0 (by lia) (by lia) (by rw[SJ];lia) d1 e1;rw[←hr]at a1 a2 a3 a4 a5 a6 a7;exact⟨a1.trans VN,a2.trans SJ,a3,a4,a5,by lia,by lia⟩
   .rw[QJ hq0]at hr
    obtain⟨d1,e1⟩:=ext p λ_=>rfl
    obtain⟨a1,a2,a3,a4,a5,a6,a7⟩:=NJ f p (n+1) 0 (by lia) (by lia) (by lia) d1 e1;rw[←hr]at a1 a2 a3 a4 a5 a6 a7;exact⟨a1,a2,a3,a4,a5,by lia,by lia⟩
  |false=>
   rw[c]at hr;(try dsimp only at hr);rw[if_neg (by decide)]at hr;unfold KL at hr;have hle:KA key p (n-1)<=KA key p n:=Uu.mp (Jc c);cases d:kl key (p.getD (n-1) 0) (p.getD n 0)with
   |true=>rw[d]at hr;(try dsimp only at hr);rw[if_pos zO]at hr;unfold KL at hr;rw[hr];exact⟨Uo _,rfl,hd,he,hq,Qv _,by show n<=n+(f+1);lia⟩
   |false=>
    rw[d]at hr;(try dsimp only at hr);rw[if_neg (by decide)]at hr;have hge:KA key p n<=KA key p (n-1):=Uu.mp (Jc d)
    obtain⟨a1,a2,a3,a4,a5,a6,a7⟩:=NJ f p (n+1) (q+1) (by lia) (by lia) (by lia) (λi j hij hj=>by
     by_cases bA:j=n
     .subst bA
      by_cases hin:i=j
      .subst hin;exact Jd _
      .exact JY hge (hd i (j-1) (by lia) (by lia))
     .exact hd i j hij (by lia)) (λi hi1 hi2=>by
     have e0:KA key p n=KA key p (n-1):=JV hge hle;rw[Nat.add_sub_cancel,e0];by_cases hin:i=n
     .subst hin;exact e0
     .exact he i (by lia) (by lia))
    rw[←hr]at a1 a2 a3 a4 a5 a6 a7;exact⟨a1,a2,a3,a4,a5,by lia,by lia⟩
def DQ  (h1:1<=n)(hn:n<=nrem)(hz:nrem<=p.size)(hd:dsc key p n) :
  let r:=KL (kl key) (kas_tail3 n nrem p)
  r.2.Perm p/\r.2.size=p.size/\srt key r.2 r.1/\1<=r.1/\r.1<=nrem:=by
 intro r;have hr:r=KL _ _:=rfl;unfold kas_tail3 at hr;rw[PF]at hr;have hs:srt key (kas_rev p 0 n) n:=λi j hij hj=>by rw[P9 (by lia),P9 (by lia),Qu (by lia),Qu (by lia)];exact hd _ _ (by lia) (by lia)
 obtain⟨a1,a2,a3,_⟩:=M5   _ n h1 hs;rw[hr];exact⟨VN,SJ,a1,by show 1<=KL _ _;lia,by show KL _ _<=_;lia⟩
def D6{n nrem:Nat}(h1:1<=n)(hn:n+1<=nrem)(hz:nrem<=p.size)(hd:dsc key p (n+1)) :
  let r:=KL (kl key) (kas_descPart n nrem p)
  r.2.Perm p/\r.2.size=p.size/\srt key r.2 r.1/\1<=r.1/\r.1<=nrem:=by
 intro r;have hr:r=KL (kl key) _:=rfl;unfold kas_descPart at hr;rw[PF]at hr
 obtain⟨a1,a2,a3,a4,a5,a6,a7⟩:=NJ (key:=key) (nrem-(n+1)) p (n+1) 0 (by lia) (by lia) (by lia) hd (λi hi1 hi2=>by
  have:i=n:=by lia
  subst this;rfl)
 generalize KL (kl key) (kas_desc _ p (n+1) 0)=d at hr a1 a2 a3 a4 a5 a6 a7;obtain⟨p1,n1,q1⟩:=d;dsimp only at hr a1 a2 a3 a4 a5 a6 a7;by_cases hq:q1 > 0
 .rw[Qu hq]at hr
  have same:∀i,KA key (kas_rev p1 (n1-(q1+1)) n1) i=KA key p1 i:=λi=>by
   rw[P9 (by lia)];split
   .rw[a4 _ (by lia) (by lia),a4 i (by lia) (by lia)]
   .rfl
  obtain⟨b1,b2,b3,b4,b5⟩:=DQ (key:=key) (p:=kas_rev p1 (n1-(q1+1)) n1) (n:=n1) (nrem:=nrem) (by lia) (by lia) (by rw[SJ];lia) (λi j hij hj=>by rw[same,same];exact a3 i j hij hj);rw[hr];exact⟨(b1.trans VN).trans a1,(b2.trans SJ).trans a2,b3,b4,b5⟩
 .rw[QJ hq]at hr
  obtain⟨b1,b2,b3,b4,b5⟩:=DQ (key:=key) (p:=p1) (n:=n1) (nrem:=nrem) (by lia) (by lia) (by lia) a3;rw[hr];exact⟨b1.trans a1,b2.trans a2,b3,b4,b5⟩
def yk{nrem:Nat}(h1:1<=nrem)(hz:nrem<=p.size) :
  let r:=KL (kl key) (kas_count nrem p)
  r.2.Perm p/\r.2.size=p.size/\srt key r.2 r.1/\1<=r.1/\r.1<=nrem:=by
 intro r;have hr:r=KL (kl key) (kas_count nrem p):=rfl;unfold kas_count at hr;rw[PF]at hr
 obtain⟨a1,a2,a3,a4⟩:=M5 (key:=key) (p:=p) (nrem-1) 1 (Qv _) (λi j hij hj=>by
  have:i=j:=by lia
  subst this;exact Jd _)
 generalize KL (kl key) (kas_asc p (nrem-1) 1)=n at hr a1 a2 a3 a4;by_cases hn:(n==nrem)=zQ
 .rw[Qu hn]at hr
  unfold KL at hr;rw[hr];exact⟨Uo _,rfl,a1,a2,by show n<=nrem;lia⟩
 .rw[QJ hn]at hr
  have hlt:=a4 (by lia);by_cases hn1:n > 1
  .rw[Qu hn1]at hr
   unfold KL at hr;cases c:kl key (p.getD 0 0) (p.getD (n-1) 0)with
   |true=>rw[c]at hr;(try dsimp only at hr);rw[if_pos zO]at hr;unfold KL at hr;rw[hr];exact⟨Uo _,rfl,a1,a2,by show n<=nrem;lia⟩
   |false=>
    rw[c]at hr;(try dsimp only at hr);rw[if_neg (by decide)]at hr;have hge:KA key p (n-1)<=KA key p 0:=Uu.mp (Jc c);have all   :=λi hi=>JV (JY (a1 i (n-1) (by lia) (by lia)) hge) (a1 0 i (by lia) hi)
    have same:∀i,KA key (kas_rev p 0 n) i=KA key p i:=λi=>by
     rw[P9 (by lia)];split
     .rw[all _ (by lia),all i (by lia)]
     .rfl
    obtain⟨b1,b2,b3,b4,b5⟩:=D6 (key:=key) (p:=kas_rev p 0 n) (n:=n) (nrem:=nrem) a2 (by lia) (by rw[SJ];exact hz) (λi j hij hj=>by
     rw[same,same];by_cases bA:j=n
     .subst bA
      by_cases hin:i=j
      .subst hin;exact Jd _
      .rw[all i (by lia)]
       rw[all (j-1) (by lia)]at hlt;exact Ut hlt
     .rw[all i (by lia),all j (by lia)];exact Jd _)
    rw[hr];exact⟨b1.trans VN,b2.trans SJ,b3,b4,b5⟩
  .rw[QJ hn1]at hr
   have:n=1:=by lia
   subst this
   obtain⟨b1,b2,b3,b4,b5⟩:=D6 (key:=key) (p:=p) (n:=1) (nrem:=nrem) (Qv _) (by lia) hz (λi j hij hj=>by
    by_cases hij2:i=j
    .subst hij2;exact Jd _
    .have h0:i=0:=by lia
     have h1:j=1:=by lia
     subst h0;subst h1;exact Ut hlt)
   rw[hr];exact⟨b1,b2,b3,b4,b5⟩
theorem Ly{k:Nat}(hs:srt key p k):∀(f l r:Nat),l<=r->r<=k->r-l<=f->(∀i,i<l->KA key p i<=KA key p k)->(∀i,r<=i->i<k->KA key p k<KA key p i) ->
  let m:=KL (kl key) (kas_place p k f l r)
  m<=k/\(∀i,i<m->KA key p i<=KA key p k)/\(∀i,m<=i->i<k->KA key p k<KA key p i)
 |0,l,r,hlr,hrk,hf,h1,h2=>⟨by show l<=k;lia,h1,λi (hi:l<=i)=>h2 i (by lia)⟩
 |f+1,l,r,hlr,hrk,hf,h1,h2=>by
  intro m;have hm:m=KL (kl key) _:=rfl;unfold kas_place at hm;by_cases hge:l ≥ r
  .rw[Qu hge]at hm
   unfold KL at hm;rw[hm];exact⟨by lia,h1,λi hi=>h2 i (by lia)⟩
  .rw[QJ hge]at hm
   unfold KL at hm;cases c:kl key (p.getD k 0) (p.getD ((l+r) / 2) 0)with
   |true=>rw[c]at hm;rw[hm];have hlt   :=Qa c;exact Ly hs f l ((l+r) / 2) (by lia) (by lia) (by lia) h1 λi hi hik=>Int.lt_of_lt_of_le hlt (hs _ _ hi hik)
   |false=>rw[c]at hm;(try dsimp only at hm);rw[hm];have hle   :=Uu.mp (Jc c);exact Ly hs f ((l+r) / 2+1) r (by lia) hrk (by lia) (λi hi=>JY (hs i ((l+r) / 2) (by lia) (by lia)) hle) h2
theorem F9:∀(f:Nat)(p:Array Nat)(k:Nat),k+f<=p.size->srt key p k->let r:=KL (kl key) (kas_bin f p k);r.Perm p/\r.size=p.size/\srt key r (k+f)
 |0,p,k,_,hs=>⟨Uo _,rfl,hs⟩
 |f+1,p,k,hz,hs=>by
  intro r;have hr:r=KL (kl key) _:=rfl;unfold kas_bin at hr;rw[PF]at hr;obtain⟨a1,a2,a3⟩:=Ly (key:=key) hs k 0 k (JX _) (Qv _) (by omega) (λi hi=>by omega) (λi h1 h2=>by omega);generalize KL (kl key) (kas_place p k k 0 k)=l at hr a1 a2 a3;have hk:k<p.size:=by omega
  obtain⟨b1,b2,b3⟩:=F9 f (bubble p k (k-l)) (k+1) (by rw[bubble_size];omega) (λi j hij hj=>by
   rw[E8 hk (by omega),E8 hk (by omega),show k-(k-l)=l by omega];by_cases hi:i=l
   .rw[Qu hi]
    by_cases aF:j=l
    .rw[Qu aF];exact Jd _
    .rw[QJ aF,Qu (by omega)]
     exact Ut (a3 (j-1) (by omega) (by omega))
   .rw[QJ hi]
    by_cases hi2:l<i/\i<=k
    .rw[Qu hi2,QJ (show ¬j=l by omega),Qu (by omega)]
     exact hs _ _ (by omega) (by omega)
    .rw[QJ hi2]
     by_cases aF:j=l
     .rw[Qu aF];exact a2 i (by omega)
     .rw[QJ aF]
      split
      .exact hs _ _ (by omega) (by omega)
      .exact hs _ _ (by omega) (by omega))
  rw[hr];exact⟨b1.trans (bubble_perm _ _ _),b2.trans (bubble_size _ _ _),by rw[show k+(f+1)=k+1+f by omega];exact b3⟩
def wb{n:Nat}(h1:1<=n):let r:=KL (kl key) (kas_sort n);r.Perm (List.toArray (UH n))/\r.size=n/\srt key r n:=by
 intro r;have hr:r=KL (kl key) _:=rfl;unfold kas_sort at hr;rw[PF]at hr;have hsz:(List.toArray (UH n)).size=n:=by simp
 obtain⟨a1,a2,a3,a4,a5⟩:=yk   (nrem:=n) h1 (by rw[hsz];exact Qv _);generalize KL (kl key) (kas_count n _)=d at hr a1 a2 a3 a4 a5;by_cases hlt:d.1<n
 .rw[Qu hlt]at hr
  have hmax:max d.1 1=d.1:=by lia
  rw[hmax]at hr;obtain⟨b1,b2,b3⟩:=F9  (n-d.1) d.2 d.1 (by lia) a3;rw[hr];exact⟨b1.trans a1,by lia,by rw[show d.1+(n-d.1)=n by lia]at b3;exact b3⟩
 .rw[QJ hlt]at hr
  unfold KL at hr;rw[hr];exact⟨a1,by lia,by rw[show d.1=n by lia]at a3;exact a3⟩
noncomputable def Asks{α:Type}(N:Nat)(R:α->Prop):KasT α->Prop
 |.ret a=>R a
 |.ask i j k=>i<N/\j<N/\∀b,Asks N R (k b)
def Asks.bind   {R:α->Prop}{S:β->Prop}{f}(hf:∀a,R a->Asks N S (f a)):∀{t},Asks N R t->Asks N S (t.bind f)
 |.ret a,h=>hf a h
 |.ask _ _ k,⟨h1,h2,h3⟩=>⟨h1,h2,λb=>Asks.bind hf (h3 b)⟩
theorem F8   {cmp}{s}{N}{R}(hc:∀i j C,i<N->j<N->C (lt i j) s->cmp i j C s):∀(t:KasT α)(Q),Asks N R t->Q (KL lt t) s->t.kasWp cmp Q s
 |.ret _,_,_,h=>h
 |.ask i j k,Q,⟨h1,h2,h3⟩,h=>hc i j _ h1 h2 (F8 hc _ Q (h3 _) h)
def bnd(N:Nat)(p:Array Nat):Prop:=∀i,p.getD i 0<N
def Px  {p q}(hN:0<N)(h:bnd N p)(e:q.Perm p):bnd N q:=λi=>by
 rw[JB];cases z:q[i]? with
 |none=>simp_all
 |some v=>have hm   :=Array.mem_of_getElem? z;have hm2   :=e.mem_iff.mp hm;obtain⟨j,hj,e2⟩:=Array.mem_iff_getElem.mp hm2;have:=h j;simp_all
section
variable{N:Nat}(hN:0<N)
include hN
theorem M4{p}(h:bnd N p):∀(f n),Asks N (λ_=>True) (kas_asc p f n)
 |0,_=>trivial
 |f+1,n=>⟨h _,h _,λb=>by
  cases b with
  |true=>trivial
  |false=>exact M4 h f _⟩
theorem NI:∀(f)(p)(n q),bnd N p->Asks N (λr=>bnd N r.1) (kas_desc f p n q)
 |0,p,_,_,h=>h
 |f+1,p,n,q,h=>⟨h _,h _,λb=>by
  cases b with
  |true=>
   dsimp only;rw[Qu zO];split
   .exact NI f _ _ _ (Px hN h VN)
   .exact NI f _ _ _ h
  |false=>
   refine⟨h _,h _,λb=>?_⟩;cases b with
   |true=>exact h
   |false=>exact NI f _ _ _ h⟩
theorem DP{p}{n nrem}(h:bnd N p):Asks N (λr=>bnd N r.2) (kas_tail3 n nrem p):=
 Asks.bind   (S:=λr   =>bnd N r.2) (f:=λm=>.ret (m,kas_rev p 0 n)) (λ_ _=>Px   hN h VN) (M4 hN (Px hN h VN) _ _)
theorem D5{p}{n nrem}(h:bnd N p):Asks N (λr=>bnd N r.2) (kas_descPart n nrem p):=
 Asks.bind (λr hr=>by
  split
  .exact DP hN (Px hN hr VN)
  .exact DP hN hr) (NI hN _ _ _ _ h)
theorem yj{p}{nrem}(h:bnd N p):Asks N (λr=>bnd N r.2) (kas_count nrem p):=
 Asks.bind  (λn _=>by
  split
  .exact h
  .split
   .refine⟨h _,h _,λb=>?_⟩
    cases b with
    |true=>exact h
    |false=>exact D5 hN (Px hN h VN)
   .exact D5 hN h) (M4 hN h _ _)
theorem Lx{p}(h:bnd N p)(k):∀(f l r),Asks N (λ_=>True) (kas_place p k f l r)
 |0,_,_=>trivial
 |f+1,l,r=>by
  unfold kas_place;split
  .trivial
  .refine⟨h _,h _,λb=>?_⟩
   cases b with
   |true=>exact Lx h k f _ _
   |false=>exact Lx h k f _ _
theorem En:∀(f)(p)(k),bnd N p->Asks N (λ_=>True) (kas_bin f p k)
 |0,_,_,_=>trivial
 |f+1,p,k,h=>Asks.bind  (λl _=>En f _ _ (Px hN h (bubble_perm _ _ _))) (Lx hN h k _ _ _)
end
def wa  (hn:0<n):Asks n (λ_=>True) (kas_sort n):=by
 have hb:bnd n (List.toArray (UH n)):=λi=>by
  by_cases hi:i<n
  .simp_all
  simp_all
 refine Asks.bind (λr hr=>?_) (yj hn hb);split
 .exact En hn _ _ _ hr
 .trivial
end
noncomputable def K8(q:Int×Int):Int:=q.1*10000000+q.2
def okP(q:Int×Int):Prop:=-1000000<=q.2/\q.2<=1000000
def jp  (hx:okP x)(hy:okP y):K8 x<K8 y ↔ (x.1<y.1∨x.1=y.1/\x.2<y.2):=by
 unfold K8 okP at *
 lia
def kS  (hx:okP x)(hy:okP y)(h:K8 x=K8 y):x=y:=by
 unfold K8 okP at *
 grind
section
variable{prog:Uz}{w:World}{A:Around}{E:Ux->Uy->Prop}{s:Uy}
def O3(h:Heap)(v:Ux)(q:Int×Int):Prop:=∃a t u o n,v=.ref a/\h.get? a=O o/\o.cls=.type "tuple" /\ o.data=.seq #[.int q.1 t,.int q.2 u] n
def jo{x y:Ux}{p q:Int×Int}{Q:Bool->Uy->Prop}(hx:O3 s.heap x p)(hy:O3 s.heap y q)(h:Q (decide (p.1<q.1∨p.1=q.1/\p.2<q.2)) s):UE (model prog w) A (keyLt' (tuples' zQ) x y) Q E s:=by
 obtain⟨a,t,u,o,n,rfl,e1,c1,d1⟩:=hx;obtain⟨b,t',u',o',n',rfl,e2,c2,d2⟩:=hy;refine kat_lt e1 d1 e2 d2 ?_;refine kat_cons (wpAny_eqBool_int ?_);by_cases h1:p.1=q.1
 .have e:(p.1==q.1)=zQ:=by simpa using h1
  rw[e];refine kat_yes (kat_cons (wpAny_eqBool_int ?_));by_cases h2:p.2=q.2
  .have e:(p.2==q.2)=zQ:=by simpa using h2
   rw[e];have:decide (p.1<q.1∨p.1=q.1/\p.2<q.2)=zR:=QG (by lia);rw[this]at h;exact h
  .have e:(p.2==q.2)=zR:=by simpa using h2
   rw[e];refine kat_no (kat_one _ _ (PyProof.Rows.lt_int ?_))
   have:decide (p.1<q.1∨p.1=q.1/\p.2<q.2)=decide (p.2<q.2):=by
    by_cases z:p.2<q.2
    .rw[QB z,QB (.inr ⟨h1,z⟩)]
    .rw[QG z,QG (by lia)]
   rw[this]at h;exact h
 .have e:(p.1==q.1)=zR:=by simpa using h1
  rw[e];refine kat_no (oneLt_int ?_)
  have:decide (p.1<q.1∨p.1=q.1/\p.2<q.2)=decide (p.1<q.1):=by
   by_cases z:p.1<q.1
   .rw[QB z,QB (.inl z)]
   .rw[QG z,QG (by lia)]
  rw[this]at h;exact h
noncomputable def Xu(h:Heap):zW->LP->Prop
 |[],[]=>True
 |v::vs,q::qs=>O3 h v q/\Xu h vs qs
 |_,_=>False
def Xu.get  : ∀{vs}{qs},Xu h vs qs->vs.length=qs.length/\∀(i)(hi:i<vs.length),O3 h (vs.getD i .none) (qs.getD i (0,0))
 |[],[],_=>⟨rfl,λi hi=>absurd hi (Jq _)⟩
 |v::vs,q::qs,⟨h1,h2⟩=>by
  obtain⟨e,f⟩:=Xu.get h2;refine⟨by simp_all,λi hi=>?_⟩;cases i with
  |zero=>exact h1
  |succ i=>exact f i (by simpa using hi)
def Xu.tups  : ∀{vs}{qs},Xu h vs qs->∃fs:zW,KatTups h vs fs/\fs.length=vs.length/\∀v∈fs,∃i t,v=.int i t
 |[],[],_=>⟨[],trivial,rfl,λ_ h=>by cases h⟩
 |v::vs,q::qs,⟨hp,h2⟩=>by
  obtain⟨a,t,u,o,n,rfl,e1,c1,d1⟩:=hp;obtain⟨fs,f1,f2,f3⟩:=Xu.tups h2;refine⟨.int q.1 t::fs,.cons e1 c1 d1 zO f1,by simp_all,λv hv=>?_⟩;rcases Qx.mp hv with rfl|hv
  .exact⟨_,_,rfl⟩
  .exact f3 v hv
def Xu.mono  (k:∀b o,h.get? b=O o->h'.get? b=O o):∀{vs}{qs},Xu h vs qs->Xu h' vs qs
 |[],[],_=>trivial
 |v::vs,q::qs,⟨hp,h2⟩=>by obtain⟨a,t,u,o,n,rfl,e1,c1,d1⟩:=hp;exact⟨⟨a,t,u,o,n,rfl,k _ _ e1,c1,d1⟩,Xu.mono k h2⟩
def OK(qs:LP)(π:List Nat):Prop:=π.Perm (UH qs.length)/\(π.map λi=>qs.getD i (0,0)).Pairwise λx y=>K8 x<=K8 y
def zy{a:UA}{vs:zW}{qs:LP}{n:Nat}{P:Fin->Uy->Prop}(ho:s.heap.get? a=O (seqObj "list" vs.toArray n))
  (hp:Xu ((s.heap.update a (Obj.mapSeq λ_=>#[]))) vs qs) (hq:∀q∈qs,okP q) (h64:vs.length<64)
  (h:∀π:List Nat,OK qs π->P (.done (.ret .none)) {s with heap:=sortedHeap s.heap a vs (List.toArray (π.map λi=>vs.getD i .none))}) :
  UE (model prog w) A (Builtin.«list.sort» ⟨[.ref a],[]⟩) P E s:=by
 obtain⟨hl,hget⟩:=hp.get;rw[list_sort_plain];have ha:a<s.heap.objs.size:=Qh ho;refine Qf (listItems_at ho zO ?_);refine Qf (listUpdate_at ho zO ?_);obtain⟨e1,ho1⟩:∃e1,(s.heap.update a (Obj.mapSeq λ_=>#[])).get? a=O (seqObj "list" #[] e1):=⟨_,get?_update_seq ho (λ_=>#[])⟩
 refine Qf (seqEpoch_at ho1 zO ?_);refine Qf (wpAny_newTuple ?_);refine Qf (wpAny_newList ?_);refine wpAny_holding ?_;have ho6:(((s.heap.update a (Obj.mapSeq λ_=>#[])).push (seqObj "tuple" vs.toArray 0)).push (seqObj "list" #[] 0)).get? a=O (seqObj "list" #[] e1):=by rw[Heap.get?_push_ne _ _ _ (by rw[size_push',Heap.size_update];exact QZ (JZ ha)),Heap.get?_push_ne _ _ _ (by rw[Heap.size_update];exact QZ ha)];exact ho1
 have hp6:Xu (((s.heap.update a (Obj.mapSeq λ_=>#[])).push (seqObj "tuple" vs.toArray 0)).push (seqObj "list" #[] 0)) vs qs:=hp.mono λb o e=>Qj _ (Qj _ e)
 dsimp only;have hsz:vs.toArray.size=vs.length:=by simp
 by_cases h2:vs.toArray.size<2
 .rw[Qu h2,Qu h2]
  refine Qf (Qo ?_);rw[StateT.run_pure];refine Qf (Qo ?_);dsimp only;refine Qf (seqEpoch_at ho6 zO ?_);refine Qf (listUpdate_at ho6 zO ?_ (hsz2:=by rw[Array.size_map];show(pairsOf vs).size<=_;rw[pairsOf_size,sizeLine_eq];lia));simp only[bne_self_eq_false,J9,if_false]
  have hid:(arrOf (SortSt.mk' general' (vs.toArray.zip vs.toArray) #[] 7 zP)).map (·.2)=List.toArray ((UH vs.length).map λi=>vs.getD i .none):=by
   show(vs.toArray.zip vs.toArray).map (·.2)=_
   apply Array.toList_inj.mp;apply J0;intro i;simp only[Array.toList_map,Array.toList_zip,Qd,List.getElem?_zip_eq_some];by_cases hi:i<vs.length
   .simp[List.getElem?_zip_eq_some,hi,List.getElem?_range]
   .simp[hi]
  rw[hid];refine Qo (h (UH vs.length) ⟨by rw[hl],?_⟩);rw[List.pairwise_map];rw[hsz]at h2
  rcases(show vs.length=0∨vs.length=1 by lia)with z|z<;>rw[z]
  .exact .nil
  .exact List.pairwise_singleton _ _
 .rw[QJ h2,QJ h2]
  rw[hsz]at h2;obtain⟨fs,f1,f2,f3⟩:=hp6.tups;refine Qf (kat_kind (T:=.type "int") f1 (by lia) (λv hv=>by obtain⟨i,t,rfl⟩:=f3 v hv;exact(show Looks _ _ (pure (Value.type "int")) _ from .now)) zO ?_)
  refine Qf (QS (kat_run (ks:=vs) (G:=λp s'=>s' = {s with heap:=((s.heap.update a (Obj.mapSeq λ_=>#[])).push (seqObj "tuple" vs.toArray 0)).push (seqObj "list" #[] 0)}/\p=KL (kl λi=>K8 (qs.getD i (0,0))) (kas_sort vs.length))
   (Q:=λst' s'=>s' = {s with heap:=((s.heap.update a (Obj.mapSeq λ_=>#[])).push (seqObj "tuple" vs.toArray 0)).push (seqObj "list" #[] 0)}/\failedOf st'=zP/\arrOf st'=(KL (kl λi=>K8 (qs.getD i (0,0))) (kas_sort vs.length)).map (kas_item (vs.toArray.zip vs.toArray)))
   rfl (by lia) h64 (λp st' s' a1 a2 a3 a4=>⟨a4.1,a3,by rw[a2,a4.2]⟩) ?_) ?_ λ_ _ e=>e)
  .refine F8 (N:=vs.length) (R:=λ_=>True) (lt:=kl λi=>K8 (qs.getD i (0,0))) (λi j C hi hj hC=>?_) _ _ (wa (by lia)) ⟨rfl,rfl⟩
   refine jo (Xu.get hp6 |>.2 i hi) (Xu.get hp6 |>.2 j hj) ?_;have oi:okP (qs.getD i (0,0)):=hq _ (by rw[Qn,Qe (by lia)];exact JI _);have oj:okP (qs.getD j (0,0)):=hq _ (by rw[Qn,Qe (by lia)];exact JI _);have e:decide ((qs.getD i (0,0)).1<(qs.getD j (0,0)).1∨(qs.getD i (0,0)).1=(qs.getD j (0,0)).1/\(qs.getD i (0,0)).2<(qs.getD j (0,0)).2)=kl (λi=>K8 (qs.getD i (0,0))) i j:=by unfold kl;exact Js.mpr (jp oi oj).symm
   rw[e];exact hC
  .rintro⟨⟨⟩,st'⟩ s' ⟨rfl,hf,har⟩
   dsimp only;obtain⟨b1,b2,b3⟩:=wb (key:=λi=>K8 (qs.getD i (0,0))) (n:=vs.length) (by lia);generalize KL (kl λi=>K8 (qs.getD i (0,0))) (kas_sort vs.length)=p at har b1 b2 b3;have hout:=kat_snds (ks:=vs) (vs:=vs) zO har;have hsz2:((arrOf st').map (·.2)).size=vs.length:=by rw[hout,Jh,Qb,Uk,b2]
   refine Qf (seqEpoch_at ho6 zO ?_);refine Qf (listUpdate_at ho6 zO ?_ (hsz2:=by rw[hsz2,sizeLine_eq];lia));rw[hf];simp only[bne_self_eq_false,J9,if_false];rw[hout];refine Qo (h p.toList ⟨?_,?_⟩)
   .have:=Array.perm_iff_toList_perm.mp b1
    rw[←hl];exact this
   .rw[List.pairwise_map,List.pairwise_iff_getElem]
    intro i j hi hj hij;rw[Uk,b2]at hi hj;have:=b3 i j (by lia) hj;unfold KA at this;rw[JB,JB,Array.getElem?_eq_getElem (by lia),Array.getElem?_eq_getElem (by lia)]at this;simpa using this
end
section
variable{prog:Uz}{w:World}{A:Around}{E:Ux->Uy->Prop}{s:Uy}
def zk{l:UA}{vs:zW}{qs:LP}{Q:Ux->Uy->Prop}(hl:s.heap.IsList l vs.toArray)(hp:Xu s.heap vs qs)(hq:∀q∈qs,okP q)(h64:vs.length<64)
  (h:∀π:List Nat,OK qs π->Q (.ref (s.heap.objs.size+1)) {s with heap:=sortedAll s.heap vs (List.toArray (π.map λi=>vs.getD i .none))}) :
  UE (model prog w) A (call (.builtin "sorted") [.ref l]) Q E s:=by
 refine Calls.call_function_entry kind_sorted plain_sorted entry_sorted (args_sorted1 _) ?_;unfold Builtin.«sorted»;refine Qf  (Qo ?_);refine Qf (collect_list hl ?_);refine Qf (wpAny_newList ?_);have hsz:((s.heap.push (seqObj "list" #[] 0)).update s.heap.objs.size (Obj.mapSeq (· ++ vs.toArray))).objs.size=s.heap.objs.size+1:=by rw[Heap.size_update,size_push']
 have hoL:(((s.heap.push (seqObj "list" #[] 0)).update s.heap.objs.size (Obj.mapSeq (· ++ vs.toArray))).push (seqObj "list" vs.toArray 0)).get? (s.heap.objs.size+1)=O (seqObj "list" vs.toArray 0):=by rw[←hsz];exact QF _ zO
 rw[hsz];refine Qf (wpAny_holding (wpAny_call_entry slot_list_sort ⟨_,hoL,rfl⟩ entry_list_sort (zy (qs:=qs) hoL (hp.mono λb o e=>?_) hq h64 λπ a1=>⟨_,rfl,?_⟩) (args_list_sort _)))
 .have hlt:b<s.heap.objs.size:=Qh e
  dsimp only;have cm:(b:Nat)<s.heap.objs.size:=hlt;rw[Heap.get?_update_ne _ _ _ _ (QZ (JZ cm)),Heap.get?_push_ne _ _ _ (by rw[hsz];exact QZ (JZ cm)),Heap.get?_update_ne _ _ _ _ (QZ hlt),Heap.get?_push_ne _ _ _ (QZ hlt)];exact e
 .exact Qo ⟨_,rfl,h π a1⟩
end
end DL
namespace DL
open PySem PySem.Spec L2
open PyProof.Rows hiding St
section
variable{X:Cx}
theorem Em   {σ:St}{H}(I:Inv X pins σ H s):∀{as:zX}{us}{qs},Vals (as.map V.ref) us->as.length=qs.length->(∀(i:Nat) a q,as[i]?=O a->qs[i]?=O q->SqT X.K H a [.int q.1,.int q.2])->Xu s.heap us qs
 |[],_,[],.nil,_,_=>trivial
 |a::as,_,q::qs,.cons r t,hl,h=>by refine⟨?_,Em I t (by simpa using hl) λi a q h1 h2=>h (i+1) a q (by simpa using h1) (by simpa using h2)⟩;cases r;obtain⟨its,rv,⟨o,e,c,n,d⟩,_⟩:=I.tuple (h 0 a q zO zO);obtain⟨u,v,rfl,r1,r2⟩:=rv.two;obtain⟨t1,rfl⟩:=r1;obtain⟨t2,rfl⟩:=r2;exact⟨a,t1,t2,o,n,rfl,e,c,by simpa using d⟩
theorem E7{as:zX}{us}(r:Vals (as.map V.ref) us):∀(π:List Nat),(∀i∈π,i<as.length)->Vals (π.map λi=>V.ref (as.getD i 0)) (π.map λi=>us.getD i .none)
 |[],_=>.nil
 |i::π,h=>by
  refine .cons ?_ (E7 r π λj hj=>h j (Qk _ hj));have hi:=h i Ql;have e:(as.map V.ref)[i]?=O (.ref (as.getD i 0)):=by simp[List.getD,List.getElem?_eq_getElem hi]
  obtain⟨u,e2,ru⟩:=r.get e;simp only[List.getD,e2];exact ru
def yi:Xn X (.builtin "sorted") (λxs H Q=>∃l,∃as:zX,∃qs:LP,xs=[.ref l]/\SqL X.K H l (as.map V.ref)/\as.length=qs.length/\(∀(i:Nat) a q,as[i]?=O a->qs[i]?=O q->SqT X.K H a [.int q.1,.int q.2])/\(∀q∈qs,okP q)/\qs.length<64 /\
  ∀π p,OK qs π->H p=zP->Q (.ref p) (upd H p (.lst (π.map λi=>V.ref (as.getD i 0))))):=by
 intro pins s σ H xs us Q I rx h;obtain⟨l,as,qs,rfl,hq,hl,ht,ho,hb,q⟩:=h;obtain⟨u,rfl,ru⟩:=rx.one;cases ru;obtain⟨its,rv,p,hz⟩:=I.list hq;have hn:its.length=qs.length:=by have:=rv.length;rw[Qb]at this;lia
 refine zk (qs:=qs) p.isList (Em I rv hl ht) ho (by lia) λπ hπ=>?_
 obtain⟨e,he⟩:=sortedAll_at s.heap its _
 have hπl:∀i∈π,i<as.length:=λi hi=>by
  have:=hπ.1.mem_iff.mp hi;rw[QE]at this
  lia
 refine⟨.ref _,_,I.laid  (λb o=>sortedAll_old) (JW _) (show YU X.prog X.w _ _ _ (.lst _)from⟨?_,_,e,E7 rv π hπl,he⟩),rfl,q π _ hπ (I.hok.fresh (JW _))⟩;rw[Qb,hπ.1.length_eq,Qp];rw[Qb]at hz
 lia
noncomputable def O2:D->Option (Int×Int)
 |.tuple [.int a,.int b]=>O (a,b)
 |_=>zP
noncomputable def Sg:zS->Option LP
 |[]=>O []
 |d::r=>(O2 d).bind λq=>(Sg r).map (q :: ·)
noncomputable def Kx(q:Int×Int):D:=.tuple [.int q.1,.int q.2]
def v7   (h:O2 d=O q):d=Kx q:=by
 unfold O2 at h;split at h
 .cases h;rfl
 simp_all
theorem DC:∀{ds}{qs},Sg ds=O qs->ds=qs.map Kx
 |[],qs,h=>by cases h;rfl
 |d::r,qs,h=>by
  unfold Sg at h;cases z:O2 d with
  |none=>simp_all
  |some q=>
   rw[z]at h;cases z2:Sg r with
   |none=>simp_all
   |some qs'=>rw[z2]at h;cases h;rw[v7 z,DC z2];rfl
theorem D0:∀qs:LP,Sg (qs.map Kx)=O qs
 |[]=>rfl
 |q::r=>by rw[QD,Sg,D0 r];rfl
def VL(qs:LP):LP:=qs.mergeSort λx y=>decide (K8 x<=K8 y)
def DO(qs:LP):(VL qs).Perm qs:=List.mergeSort_perm ..
def E6(qs):(VL qs).Pairwise λx y=>K8 x<=K8 y:=by have:=List.pairwise_mergeSort (le:=λx y   =>decide (K8 x<=K8 y)) (by intro a b c;simp;lia) (by intro a b;simp;lia) qs;exact this.imp (by simp)
theorem M0:∀{a b:LP},(∀x∈a,okP x)->a.Perm b->a.Pairwise (λx y=>K8 x<=K8 y)->b.Pairwise (λx y=>K8 x<=K8 y)->a=b
 |[],b,_,p,_,_=>by simp_all
 |x::a,[],_,p,_,_=>by simp_all
 |x::a,y::b,ok,p,ha,hb=>by
  have hx:K8 y<=K8 x:=by
   rcases Qx.1 (p.mem_iff.1 (Ql ..))with e|e
   .simp_all
   .exact(JP.1 hb).1 x e
  have hy:K8 x<=K8 y:=by
   rcases Qx.1 (p.mem_iff.2 (Ql ..))with e|e
   .simp_all
   .exact(JP.1 ha).1 y e
  have oky   :=ok y (p.mem_iff.2 (Ql ..));have e:=kS (ok x (Ql ..)) oky (JV hy hx);subst e;rw[M0 (λz hz=>ok z (Qk _ hz)) (List.Perm.cons_inv p) (JP.1 ha).2 (JP.1 hb).2]
def kQ   (ok:∀q∈qs,okP q)(h:OK qs π):(π.map λi=>qs.getD i (0,0))=VL qs:=by
 have hp   :=by
  have h1:=h.1.map λi=>qs.getD i (0,0)
  have e:(UH qs.length).map (λi=>qs.getD i (0,0))=qs:=by
   apply J0;intro i;rw[Qd];by_cases hi:i<qs.length
   .rw[List.getElem?_range hi];simp[List.getD,List.getElem?_eq_getElem hi]
   .simp_all
  rw[e]at h1;exact h1
 exact M0 (λx hx=>ok x (hp.mem_iff.mp hx)) (hp.trans (DO qs).symm) h.2 (E6 qs)
noncomputable def okPB(q:Int×Int):Bool:=decide (-1000000<=q.2/\q.2<=1000000)
def P8:zS->zU
 |[.list ds]=>(match Sg ds with
  |some qs=>if qs.length<64/\qs.all okPB=zQ then O (.list ((VL qs).map Kx))else zP
  |none=>zP)
 |_=>zP
def wD   (h:P8 xs=O d):∃qs:LP,xs=[.list (qs.map Kx)]/\qs.length<64/\(∀q∈qs,okP q)/\d=.list ((VL qs).map Kx):=by
 unfold P8 at h;split at h
 .rename_i ds
  cases z:Sg ds with
  |none=>simp_all
  |some qs=>
   rw[z]at h;dsimp only at h;split at h
   .rename_i c
    cases h;exact⟨qs,by rw[DC z],c.1,λq hq=>(show -1000000<=q.2/\q.2<=1000000 from Qa (Q2.mp c.2 q hq)),rfl⟩
   simp_all
 simp_all
theorem E5{K}{G}:∀{vs}{qs:LP},Reps K G vs (qs.map Kx)->∃as:zX,vs=as.map V.ref/\as.length=qs.length/\∀(i:Nat) a q,as[i]?=O a->qs[i]?=O q->SqT K G a [.int q.1,.int q.2]
 |_,[],.nil=>⟨[],rfl,rfl,λi a q h=>by simp_all⟩
 |_,q::qs,.cons r t=>by
  obtain⟨as,rfl,hl,h⟩:=E5 t;obtain⟨a,ws,rfl,h1,r1⟩:=r.tup_inv;cases r1 with
  |cons ra rb=>
   obtain⟨v,rfl,rb'⟩:=rb.one_inv;refine⟨a::as,rfl,by simp_all,λi a' q' e1 e2=>?_⟩;cases i with
   |zero=>cases e1;cases e2;rw[ra.int_inv,rb'.int_inv]at h1;simp_all
   |succ i=>exact h i a' q' (by simpa using e1) (by simpa using e2)
def kP{K}{G}{a}{q}(h:SqT K G a [.int q.1,.int q.2]):Rep K G (.ref a) (Kx q):=.tup h (.cons (.int _) (.cons (.int _) .nil))
theorem E4{K}{G}{as:zX}{qs:LP}(hl:as.length=qs.length)(h:∀(i:Nat) a q,as[i]?=O a->qs[i]?=O q->SqT K G a [.int q.1,.int q.2]):∀π:List Nat,(∀i∈π,i<qs.length)->Reps K G (π.map λi=>V.ref (as.getD i 0)) ((π.map λi=>qs.getD i (0,0)).map Kx)
 |[],_=>.nil
 |i::π,hb=>by
  refine .cons ?_ (E4 hl h π λj hj=>hb j (Qk _ hj));have hi:=hb i Ql;refine kP (h i _ _ ?_ ?_)
  .simp_all
  simp_all
def jn:Xr X (.builtin "sorted") P8:=by refine⟨_,yi,λvs G H ds d Q s r e k=>?_⟩;obtain⟨qs,rfl,h64,ok,rfl⟩:=wD e;obtain⟨v,rfl,q1⟩:=r.one_inv;obtain⟨l,ws,rfl,h1,r1⟩:=q1.lst_inv;obtain⟨as,rfl,hl,ht⟩:=E5 r1;refine⟨l,as,qs,rfl,s.seq h1,hl,λi a q e1 e2=>Wd s (ht i a q e1 e2),ok,h64,λπ p hπ hp=>?_⟩;have hb:∀i∈π,i<qs.length:=λi hi=>QE.mp (hπ.1.mem_iff.mp hi);have rr:=(E4 hl ht π hb).mono (Z7 (s.free hp):Same G (upd G p (.lst (π.map λi=>V.ref (as.getD i 0)))));rw[kQ ok hπ]at rr;exact k _ _ _ (Ext.new s hp) (.lst (SqL.of ZE) rr)
def Xr.or   (h1:Xr X f p)(h2:Xr X f q):Xr X f (λxs=>(p xs).orElse λ_=>q xs):=by
 obtain⟨r1,c1,k1⟩:=h1;obtain⟨r2,c2,k2⟩:=h2;refine⟨λxs H Q=>r1 xs H Q∨r2 xs H Q,λpins s σ H xs us Q I rx h=>?_,λvs G H ds d Q s r e k=>?_⟩
 .rcases h with h|h
  .exact c1 pins s σ H xs us Q I rx h
  .exact c2 pins s σ H xs us Q I rx h
 .dsimp only at e
  cases z:p ds with
  |some d'=>rw[z]at e;cases e;exact .inl (k1 vs G H ds _ Q s r z k)
  |none=>rw[z]at e;exact .inr (k2 vs G H ds _ Q s r e k)
def Sr(xs:zS):zU:=(Ph xs).orElse λ_=>P8 xs
def Aq:Xr X (.builtin "sorted") Sr:=qR.or jn
def DN  (h:ns.length<64):Sr [.list (ns.map .int)]=O (.list ((Xm ns).map .int)):=by unfold Sr;rw[vN h];rfl
def v6  (h:qs.length<64)(ok:∀q∈qs,okP q):Sr [.list (qs.map Kx)]=O (.list ((VL qs).map Kx)):=by
 cases qs with
 |nil=>
  have e1:VL []=[]:=by unfold VL;simp
  have e2:Xm []=[]:=by unfold Xm;simp
  have:=DN (ns:=[]) (by decide);rw[e2]at this;rw[e1];exact this
 |cons q r=>unfold Sr;unfold P8;dsimp only;rw[D0];exact Qu ⟨h,Q2.mpr λq hq=>QB (ok q hq)⟩
end
section
variable{X:Cx}{B G0:Hp}{e o a b c tg:UC}{pos p2:Pos}{es rest:zV}{te to ti:TE}
noncomputable def RZ{β:Type}(p:D->D->Option β)(f:M D)(j:Nat):M β:=Ku f λx=>λZ=>match Z[j]? with
 |some (O (.pub d))=>Kw (p x d) Z
 |some (O (.own ds))=>Kw (p x (.list ds)) Z
 |_=>.bad
def Cp{K}{σ}{H}{p}{r:R2}{j}{f}{Q}{QV}(hq:∀t H3,Q t H3->QV (.bl t) H3)
  (hr:∀v u G H x y d Q,Same G H->Rep K G v x->Rep K G u y->p x y=O d->Q (.bl d) H->r v u H Q)
  (q:tBo K B G0 (RZ p f j) σ H Q):tD K B G0 f σ H λx H1=>ZA j σ H1 λy H2=>r x y H2 QV:=by
 refine tM.one  q λv H2 G Z x k rx a=>?_
 cases z:Z[j]? with
 |none=>rw[z]at a;exact a.elim
 |some o=>
  cases o with
  |none=>rw[z]at a;exact a.elim
  |some sl=>
   cases sl with
   |deep _ _=>rw[z]at a;exact a.elim
   |pub d=>rw[z]at a;obtain⟨d',e',a'⟩:=aft.opt a;obtain⟨u,h1,h2⟩:=k.pub j d z;exact⟨u,h1,hr v u G H2 x d d' _ k.gh rx h2 e' (hq _ _ (a' d' G H2 k (.refl _) zO))⟩
   |own ds=>rw[z]at a;obtain⟨d',e',a'⟩:=aft.opt a;obtain⟨ad,vs,h1,h2,h3,h4,h5⟩:=k.own j ds z;exact⟨.ref ad,h1,hr v _ H2 H2 x _ d' _ (.refl _) (rx.mono k.gh) (.lst (SqL.of h4) (h5.mono k.gh)) e' (hq _ _ (a' d' G H2 k (.refl _) zO))⟩
def jm    {f}(o:OpB X (UG op) p)(ha:PE X a (tD X.K B G0 f))(hb:PE X b (ZA j))(hm:behindInMarks op b=zR) :
  PT X (.Compare a [op] [b] pos) (tBo X.K B G0 (RZ p f j)):=by
 obtain⟨r,h,i⟩:=o;exact YK (MM h ha hb hm) λσ H Q q=>Cp (λt H3 z=>⟨t,rfl,z⟩) i q
def MZ   {f}{j}{Z Z1}{x}{ds}{r:β}(h1:f Z=.ok x Z1)(h2:Z1[j]?=O (O (.own ds)))(h3:p x (.list ds)=O r):RZ p f j Z=.ok r Z1:=by exact Zr h1 (by rw[h2];exact YX h3)
end
noncomputable def P7(Z:U5)(j:Nat):zU:=match Z[j]? with
 |some (O (.pub d))=>O d
 |some (O (.own ds))=>O (.list ds)
 |some (O (.deep _ d))=>O d
 |_=>zP
def EOk.tree{K}{B G0 G H}{σ}{Z}{j}{d}(k:EOk K B G0 G H σ Z)(h:P7 Z j=O d):∃v,σ[j]?=O (O v)/\Rep K H v d:=by
 unfold P7 at h;split at h
 .rename_i d' e
  cases h;obtain⟨v,h1,h2⟩:=k.pub j _ e;exact⟨v,h1,h2.mono k.gh⟩
 .rename_i ds e
  cases h;obtain⟨a,vs,h1,h2,h3,h4,h5⟩:=k.own j ds e;exact⟨.ref a,h1,.lst (SqL.of h4) (h5.mono k.gh)⟩
 .rename_i p d' e
  cases h;obtain⟨ω,k1,k2⟩:=k.dp;obtain⟨v,fp,s,r,_⟩:=k1 j p _ e;exact⟨v,s,r.rep k.gh⟩
 simp_all
end DL
namespace HT
open PySem PyProof.Rows
end HT
namespace DL
open PySem PySem.Spec L2
open PyProof.Rows hiding St
section
variable{X:Cx}
noncomputable def RY(x y:D):Option zS:=match x,y with
 |.list xs,.int k=>if -1000000<=k/\k<=1000000/\xs.length*k.toNat<=1000000 then O (UI k.toNat xs).flatten else zP
 |_,_=>zP
def v5   (h:RY x y=O ds):∃xs k,x=.list xs/\y=.int k/\(-1000000<=k/\k<=1000000/\xs.length*k.toNat<=1000000)/\ds=(UI k.toNat xs).flatten:=by
 unfold RY at h;split at h
 .simp_all
 simp_all
noncomputable def RX(f g:M D):M zS:=Ku f λx=>Ku g λy=>Kw (RY x y)
def Fq{f g}(ha:PE X a (tD X.K B G0 f))(hb:PE X b (tD X.K B G0 g)):PE X (.BinOp a .Mult b pos) (tL X.K B G0 (RX f g)):=
 KZ (Hk Fz ha hb) λσ H Q ⟨G,Z,k,q⟩=>by
  refine⟨G,Z,k,?_⟩;unfold RX Ku at q;cases z:f Z with
  |bad=>simp_all
  |ok x Z1=>
   rw[z]at q;dsimp only at q;intro v G1 H1 k1 s1 r1;refine⟨G1,Z1,k1,?_⟩;cases z2:g Z1 with
   |bad=>simp_all
   |ok y Z2=>
    rw[z2]at q;dsimp only[Kw]at q;intro u G2 H2 k2 s2 r2;cases z3:RY x y with
    |none=>simp_all
    |some ds=>rw[z3]at q;obtain⟨xs,i,rfl,rfl,c,rfl⟩:=v5 z3;obtain⟨l,vs,rfl,h1,w⟩:=r1.lst_inv;exact⟨l,i,vs,rfl,r2.int_inv,k2.gh.seq (s2.seq h1),by lia,by lia,by rw[w.length];exact QK c.2.2 lim,λp hp=>q p _ G2 _ (k2.ext (Ext.hid k2.gh hp)) (s1.trans s2) (NewL.of k2 hp ((w.mono s2).rep _))⟩
def Fp  {Z Z1 Z2}{x}{n}(h1:f Z=.ok (.list [x]) Z1)(h2:g Z1=.ok (.int n) Z2)(h:n<=1000):RX f g Z=.ok (UI n x) Z2:=by
 unfold RX Ku;rw[h1];dsimp only;rw[h2];dsimp only[Kw];have e:RY (.list [x]) (.int n)=O (UI n x):=by unfold RY;dsimp only;rw[Qu ⟨by lia,by lia,by show 1*_<=_;lia⟩];simp_all
 rw[e]
end
end DL
namespace DL
open PySem
def lz0{P:zW->Prop}{us}(hl:us.length=0)(h:P []):P us:=by simp_all
def lzS{P:zW->Prop}{us}{n}(hl:us.length=n+1)(h:∀a r,r.length=n->P (a::r)):P us:=by
 cases us with
 |nil=>simp_all
 |cons a r=>exact h a r (Nat.succ.inj hl)
def lz1{P:zW->Prop}{us}(hl:us.length=1)(h:∀a,P [a]):P us:=lzS hl λa r e=>lz0 (P:=λr=>P _) e (h a)
def lz2{P:zW->Prop}{us}(hl:us.length=2)(h:∀a b,P [a,b]):P us:=lzS hl λa r e=>lz1 (P:=λr=>P _) e (h a)
def lz3{P:zW->Prop}{us}(hl:us.length=3)(h:∀a b c,P [a,b,c]):P us:=lzS hl λa r e=>lz2 (P:=λr=>P _) e (h a)
def lz4{P:zW->Prop}{us}(hl:us.length=4)(h:∀a b c d,P [a,b,c,d]):P us:=lzS hl λa r e=>lz3 (P:=λr=>P _) e (h a)
def lz5{P:zW->Prop}{us}(hl:us.length=5)(h:∀a b c d e,P [a,b,c,d,e]):P us:=lzS hl λa r e=>lz4 (P:=λr=>P _) e (h a)
def bz1  {ps:List Str}{us}(hl:us.length=1)(h:∀a,bindArgs fd {pos:=[a]}=pure (ps.zip [a])):bindArgs fd {pos:=us}=pure (ps.zip us):=lz1 (P:=λus=>bindArgs fd {pos:=us}=pure _) hl h
def bz2  {ps:List Str}{us}(hl:us.length=2)(h:∀a b,bindArgs fd {pos:=[a,b]}=pure (ps.zip [a,b])):bindArgs fd {pos:=us}=pure (ps.zip us):=lz2 (P:=λus=>bindArgs fd {pos:=us}=pure _) hl h
def bz3  {ps:List Str}{us}(hl:us.length=3)(h:∀a b c,bindArgs fd {pos:=[a,b,c]}=pure (ps.zip [a,b,c])):bindArgs fd {pos:=us}=pure (ps.zip us):=lz3 (P:=λus=>bindArgs fd {pos:=us}=pure _) hl h
def bz4  {ps:List Str}{us}(hl:us.length=4)(h:∀a b c d,bindArgs fd {pos:=[a,b,c,d]}=pure (ps.zip [a,b,c,d])):bindArgs fd {pos:=us}=pure (ps.zip us):=lz4 (P:=λus=>bindArgs fd {pos:=us}=pure _) hl h
def bz5  {ps:List Str}{us}(hl:us.length=5)(h:∀a b c d e,bindArgs fd {pos:=[a,b,c,d,e]}=pure (ps.zip [a,b,c,d,e])):bindArgs fd {pos:=us}=pure (ps.zip us):=lz5 (P:=λus=>bindArgs fd {pos:=us}=pure _) hl h
end DL
namespace DL
open PySem PySem.Spec L2
open PyProof.Rows hiding St
noncomputable def whole(h:Heap):Frag:=(UH h.objs.size).filterMap λa=>(h.get? a).map λo=>(a,o)
theorem E3{g:UA->Option Obj}{x}:∀l:zX,(l.filterMap λa=>(g a).map λo=>(a,o)).lookup x=if x∈l then g x else zP
 |[]=>rfl
 |y::l=>by
  have ih:=E3 (g:=g) (x:=x) l;by_cases e:x=y
  .subst e
   rw[Qu Ql];cases z:g x with
   |none=>rw[List.filterMap_cons_none (by simp_all),ih,z];split<;>rfl
   |some o=>simp_all
  .have m:(x∈y::l)=(x∈l):=by simp_all
   have b:(x==y)=zR:=by simpa using e
   have ih':(if x∈y::l then g x else zP)=_:=(by simp only[m];exact ih.symm)
   rw[ih'];cases z:g y with
   |none=>simp_all
   |some o=>rw[List.filterMap_cons_some (by rw[z];rfl),Q9,b]
def Op   : (whole h).lookup a=h.get? a:=by
 unfold whole;rw[E3];split
 .rfl
 .rename_i n
  cases z:h.get? a with
  |none=>rfl
  |some o=>exact absurd (QE.mpr (Qh z)) n
def kO(h:Heap):(whole h).In h:=λa o e=>by rw[Op]at e;exact e
noncomputable def Co(st:Stmt):Option DefRec:=match st with
 |.FunctionDef name a b _ _ _ sc _ _ pos=>O ⟨name,a,b,sc,pos⟩
 |_=>zP
noncomputable def O1(st:Stmt):Option Str:=match st with
 |.FunctionDef name _ _ _ _ _ _ _ _ _=>O name
 |_=>zP
noncomputable def Cn(st:Stmt):Pos:=match st with
 |.FunctionDef _ _ _ _ _ _ _ _ _ pos=>pos
 |_=>⟨0,0,0,0⟩
noncomputable abbrev ZG(p:Uz)(i:Nat):Stmt:=p.main.body.getD i (.Pass ⟨0,0,0,0⟩)
def Pd(p:Uz)(ix:List Nat):List DefRec:=ix.filterMap λi=>Co (ZG p i)
section
variable{p q:Uz}{loose:List Str}{mean:ExcName->zY}{mg mb:Str->zY}{h:Heap}{w:World}
def HH  (T:Top q loose mean mg mb h)(e:recsOf q=Pd p ix)(i:Nat)(x:Str)(hi:ix.contains i=zQ)(hn:O1 (ZG p i)=O x):∃f fd,mg x=O (.ref f)/\Fun (whole h) x x (ZG p i) f fd:=by
 cases hs:ZG p i with
 |FunctionDef name a b _ _ _ sc _ _ pos=>
  rw[hs]at hn;cases hn;have hd:(⟨x,a,b,sc,pos⟩)∈recsOf q:=by rw[e];exact List.mem_filterMap.mpr ⟨i,by simpa using hi,by rw[hs];rfl⟩
  obtain⟨f,⟨oc,od,dt,osl⟩,pm,cd,doc,h1,h2,h3,h4⟩:=T.fn _ hd;subst h3;refine⟨f,_,h1,⟨⟨oc,od,.none,doc,pm,_,cd,_,osl,rfl,by rw[Op];exact h2,?_⟩,?_⟩⟩
  .obtain⟨c,⟨_,_,dc,_⟩,vs,t,rfl,g1,g2,g3⟩:=h4
   subst g2;unfold PySem.W.codeIn;dsimp only;rw[Op,g1];dsimp only;have g4:vs.toList[1]?=O (.str x t):=by rw[Array.getElem?_toList];exact g3
   cases hv:vs.toList with
   |nil=>rw[hv]at g4;cases g4
   |cons v0 r=>
    rw[hv]at g4;cases r with
    |nil=>cases g4
    |cons v1 r=>cases g4;exact beq_self_eq_true _
  .unfold PySem.W.keepIn
   dsimp only;rw[Op,h2]
 |_=>rw[hs]at hn;cases hn
def v4{K}{x qual y}{st}{f}{fd}(F:Fun K x qual st f fd)
  (hb:∀(kV doc pm)(an)(cdv ct v),bindArgs (PySem.W.fnOf x qual (SA st) (VF st) (Yw st) .none kV doc pm an cdv ct) ⟨[v],[]⟩=pure [(y,v)]) (s) (v):BindsTo s fd ⟨[v],[]⟩ [(y,v)]:=by
 obtain⟨oc,od,kV,doc,pm,an,cdv,ct,osl,rfl,lk,hcd⟩:=F.ex;exact .of_eq (hb kV doc pm an cdv ct v)
noncomputable def OJ(q:Uz)(loose:List Str)(x:Str):Bool:=
 !startupNames.contains x && !loose.contains x && !((recsOf q).map (·.name)).contains x && !((litsOf q).map (·.1)).contains x && !((clssOf q loose).map (·.name)).contains x
def XN(T:Top q loose mean mg mb h){xs:List Str}(e:xs.all (OJ q loose)=zQ){x}(hx:x∈xs):mg x=zP:=by have:=Q2.mp e x hx;unfold OJ at this;simp only[QM,Bool.not_eq_true',List.contains_eq_mem,decide_eq_false_iff_not]at this;exact T.free x this.1.1.1.1 this.1.1.1.2 this.1.1.2 this.1.2 this.2
def NH(T:Top q loose mean mg mb h){x}{i}(e:valOf q x=O (.int i)):∃t,mg x=O (.int i t):=by obtain⟨v,h1,h2⟩:=T.const x _ e;have:=h2 h;cases this;exact⟨_,h1⟩
theorem Hi:∀{vs}{ss},StrsAre vs ss->Vals (ss.map V.str) vs
 |_,_,.nil=>.nil
 |_,_,.cons y t r=>.cons ⟨t,rfl⟩ (Hi r)
def v3(B:Tables q w mg h){x}{ss}(e:tupStrsOf q x=O ss)(hl:ss.length<=1000) :
  ∃ad o its n,mg x=O (.ref ad)/\(whole h).lookup ad=O o/\o.cls=.type "tuple" /\ o.data=.seq its n/\its.size<=UD/\Vals (ss.map V.str) its.toList:=by
 obtain⟨a,vs,h1,⟨o,h2,h3,n,h4⟩,h5⟩:=B.tupS x ss e;have r:=Hi h5;refine⟨a,o,_,n,h1,by rw[Op];exact h2,h3,h4,?_,r⟩;have:=r.length;rw[Qb]at this;have l:(1000)<=UD:=by decide
 rw[Jh]
 lia
end
noncomputable def scOk(sc:Scope)(N gl:List Str):Bool:=(N.all λx=>match sc.names.lookup x with|some .local=>zQ|some .cell=>zQ|_=>zR)&&gl.all λx=>match sc.names.lookup x with|some .globalImplicit=>zQ|_=>zR
noncomputable def fnB(sc:Scope)(N gl:List Str):Bool:=decide (sc.kind=.function) && !sc.isCoroutine && !sc.isGenerator&&decide N.Nodup&&(sc.names.all λy=>match y.2 with | .free=>zR|_=>zQ)&&scOk sc N gl
structure FnNm(sc:Scope)(N gl:List Str):Prop where
 kind:sc.kind=.function
 co:sc.isCoroutine=zR
 gen:sc.isGenerator=zR
 nd:N.Nodup
 nofree:∀y∈sc.names,y.2≠.free
 nm:∀x∈N,sc.names.lookup x=O .local∨sc.names.lookup x=O .cell
 gl:∀x∈gl,sc.names.lookup x=O .globalImplicit
def KO   (H:fnB sc N gl=zQ):FnNm sc N gl:=by
 unfold fnB scOk at H;simp only[QM,Jl,Bool.not_eq_true',Q2]at H;obtain⟨⟨⟨⟨⟨h1,h2⟩,h3⟩,h4⟩,h5⟩,h6,h7⟩:=H;refine⟨h1,h2,h3,h4,λy hy e=>?_,λx hx=>?_,λx hx=>?_⟩
 .have:=h5 y hy;rw[e]at this;cases this
 .have:=h6 x hx
  split at this
  .rename_i e;exact .inl e
  .rename_i e;exact .inr e
  .simp_all
 .have:=h7 x hx
  split at this
  .rename_i e;exact e
  .simp_all
section
variable{sc:Scope}{N gl:List Str}{x:Str}
noncomputable def nq(H:FnNm sc N gl):N.Nodup:=H.nd
def fq(H:FnNm sc N gl)(n):Og N (N.take n) sc:=⟨H.kind,H.co,H.gen,H.nd,by grind,λx hx=>H.nm x (JL hx),H.nofree⟩
noncomputable def lq(H:FnNm sc N gl)(i:Nat)(h:N[i]?=O x:=by rfl):L2.Loc sc x:=H.nm x (Qr h)
noncomputable def gq(H:FnNm sc N gl)(i:Nat)(h:gl[i]?=O x:=by rfl):sc.names.lookup x=O .globalImplicit:=H.gl x (Qr h)
def pq{X}{pos}(H:FnNm X.env.scope X.N gl)(i)(h:X.N[i]?=O x:=by rfl)(hd:(x==("__debug__" : Str))=zR:=by decide)(hc:(x==("__classdict__" : Str))=zR:=by decide):PE X (.Name x pos) (ZA i):=
 Ht h ((H.nm x (Qr h)).elim .inl λz=>.inr (.inl z)) hd hc
end
def Cm  {loose}{mean}{mg mb}{h}{ix}(P)(w)(base){ps}{k n:Nat}{F}(T:Top q loose mean mg mb h)(e:recsOf q=Pd p ix)(i:Nat)(x)(hi:ix.contains i=zQ)(hn:O1 (ZG p i)=O x)
  (ok:∀{f}{fd},Fun (whole h) x x (ZG p i) f fd->FnOk P w (whole h) mg base CX0 k f fd ps (spD (whole h) n F))
  (hb:∀(kV doc pm)(an)(cdv ct)(us),us.length=ps.length->bindArgs (PySem.W.fnOf x x (SA (ZG p i)) (VF (ZG p i)) (Yw (ZG p i)) .none kV doc pm an cdv ct) ⟨us,[]⟩=pure (ps.zip us)):Def P w (whole h) mg base x k n F:=by
 obtain⟨f,fd,m,FU⟩:=HH T e i x hi hn;exact Def.mk m FU (FU.binds hb) (ok FU)
section
variable{X:Cx}{B G0:Hp}{e:UC}{pos:Pos}{es:zV}
def pdf{k kk n}{F}{g}{x}{p2}(d:Def X.prog X.w X.K X.mg X.base x k n F)(hr:Room kk X.A)(hg:Gl X x)(ha:PA X (e::es) (tDs X.K B G0 g))(hk:k<=kk:=by decide)(hn:(e::es).length=n:=by rfl)
  (hdb:(x==("__debug__" : Str))=zR:=by decide) (he:UF (e::es) X.env=(zR,eval e X.env)::UF es X.env:=by rfl) (hpl:(backTo pos (UF es X.env)).any (·.1)=zR:=by rfl) :
  PE X (.Call (.Name x p2) (e::es) [] pos) (tD X.K B G0 (U7 n F g)):=q8 d (hr.mono hk) hg ha hn hdb he hpl
end
def Ck  {loose}{mean}{mg mb}{h:Heap}{ix}{P}{w}{k:Nat}{F}{y:Str}{fa:UA}(T:Top q loose mean mg mb h)(e:recsOf q=Pd p ix)(i:Nat)(x:Str)(hi:ix.contains i=zQ)(hn:O1 (ZG p i)=O x)(hfa:mg x=O (.ref fa))
  (hb:∀(kV doc pm)(an)(cdv ct v),bindArgs (PySem.W.fnOf x x (SA (ZG p i)) (VF (ZG p i)) (Yw (ZG p i)) .none kV doc pm an cdv ct) ⟨[v],[]⟩=pure [(y,v)])
  (ok:∀(base:Heap){f:UA}{fd},Fun (whole h) x x (ZG p i) f fd->FnOk P w (whole h) mg base CX0 k f fd [y] (spD (whole h) 1 F)) :
  ∃fd:UB,(∀(s)(v),BindsTo s fd ⟨[v],[]⟩ [(y,v)])/\∀base:Heap,FnOk P w (whole h) mg base CX0 k fa fd [y] (spD (whole h) 1 F):=by
 obtain⟨f,fd,m,FU⟩:=HH T e i x hi hn;cases hfa.symm.trans m;exact⟨fd,v4 FU hb,λbase=>ok base FU⟩
def kN{l:PySem.W.OpenLaw}{n k:Nat}{q}{loose}{XP}{YP}{d}{F}{x:Str}
  (hn:l.most=O n) (hn2:n<=UD) (hdf:d.params.defaults=[]) (hr:Room k callerA)
  (hF:∀(w:World)(s₀)(mg mb)(fa:UA)(h:Heap),PySem.W.Ground q loose [] XP w s₀ mg mb h->mg d.name=O (.ref fa) ->
   ∃fd:UB,(∀(s)(u),BindsTo s fd ⟨[u],[]⟩ [(x,u)])/\∀base:Heap,FnOk l.prog w (whole h) mg base CX0 k fa fd [x] (spD (whole h) 1 F))
  (hl:∀ns:zT,ns.length<=n->F [.list (ns.map int)]=O (.bool zQ)) :
  PySem.W.WalkO q loose XP YP l.row.toRowW d [] (λf vs=>PySem.call f vs):=by
 refine Att.attach_call hn hdf λw s₀ s₁ mg mb fa o pm cd doc a vs ns G Y ho hd hcd hmg hobj hints hlen hg=>?_
 obtain⟨fd,hb,hF⟩:=hF w s₀ mg mb fa _ G hmg;exact kr (kO _) G.T.g G.T.b G.T.builtins G.T.nolimit hg hobj hints (QK hlen hn2) hr (λbase _ _=>hF base) hb (λH hO hS=>Ad hS (hl ns hlen)) λH e s' z=>z
section
variable{α β:Type}{Z Z1 Z2 Z3 Z':U5}{f:M D}{s t:SM}{Q:Out->Prop}{d:D}{ds fs:zS}{nm x:Str}{o:Out}
def kM  {t}(h:f Z=.ok d Z1)(ht:K2 d c=t):Kb (λd=>UK (K2 d c)) f Z=.ok (UK t) Z1:=by subst ht;exact KJ  h
def Mc  {kvs:List (D×D)}(h:f Z=.ok (.dict kvs) Z1)(hc:(("dict" == c) || ("" == c))=zR:=by decide):Kb (λd=>UK (K2 d c)) f Z=.ok (UK zR) Z1:=kM h (nty hc)
def Nd  {kvs:List (D×D)}(h:f Z=.ok (.dict kvs) Z1)(hc:(("dict" == c) || ("" == c))=zR:=by decide):KF (Zq (Kb (λd=>.bool (K2 d c)) f)) Z=.ok zQ Z1:=Yv h (by rw[nty hc];rfl)
end
end DL
namespace L2
open PySem PySem.Spec PyProof.Rows
def Ap(trs:UA->List (TE×TE)):TE:=λσ H Q=>∀p,H p=zP->OW (trs p) σ (upd H p (.dK [])) λps H2=>H2 p=O (.dK [])/\∃kvs:List (Key×V),ps=kvs.map (λkv=>(kV kv.1,kv.2))/\kvs.length<=15/\Q (.ref p) (upd H2 p (.dK (T7 [] kvs)))
def kL{X:Cx}{pos:Pos}{keys}{values}{trs}(h:∀p,PPs X pos keys values (trs p))(hall:keys.all (·.isSome)=zQ)(hl:keys.length=values.length)(h0:keys≠[])
  (h15:keys.length<=15):PE X (.Dict keys values pos) (Ap trs):=by
 intro pins s σ H Q I q;have hn:=I.hok.fresh (Qv s.heap.objs.size);have I1:=I.laid    (t':=s.toks) (λ_ _ q=>Qj _ q) (Qv _) (kq s.heap I.big);refine wpAny_Dict_walk (knd:=XQ X.prog X.w) hall hl h0 h15 (thn (h _ pins _ σ _ _ I1 (q _ hn)) λws s2 ⟨ps,H2,I2,rel,e,kvs,ep,lk,q2⟩=>?_);subst ep;obtain⟨rs,c,rk⟩:=DI  (w:=X.w) rel;obtain⟨z,hd,vs0,r0,dd⟩:=L9 I2.hok e;cases r0;refine⟨rs,c,dd,λh' aW hs=>⟨.ref s.heap.objs.size,_,?_,rfl,q2⟩⟩;have hz:(T7 [] kvs).length<=UD:=by have h1:=D3 kvs [];rw[Qm]at h1;rw[sizeLine_eq];lia
 have he:∃q,h'.get? s.heap.objs.size=O q:=let ⟨q,_,_,hq,_⟩:=aW;⟨q,hq⟩
 exact MJ I2 (by rw[e];exact True.intro) hs he (Hm hz hd (rk.merge .nil) aW)
def kJ  {k:Key}{v}(h:k∉kvs.map (·.1)):ZJ kvs k v=kvs++[(k,v)]:=by unfold ZJ;simp_all
theorem Dy:∀(more kvs),((kvs++more).map (·.1)).Nodup->T7 kvs more=kvs++more
 |[],kvs,_=>by rw[Jg];rfl
 |p::r,kvs,h=>by
  have hn   :=by rw[QC,List.nodup_append]at h;exact λz=>h.2.2 _ z p.1 (Qs.mpr ⟨p,Ql,rfl⟩) zO
  show T7 (ZJ kvs p.1 p.2) r=_;rw[kJ hn,Dy r _ (by rw[Q5];exact h),Q5];rfl
end L2
namespace DL
open PySem PySem.Spec L2
open PyProof.Rows hiding St
theorem GF{α β γ:Type}(f):∀(ks:List α)(vs:List (γ×β)),vs.map (·.1)=ks.map f->vs=(ks.zip (vs.map (·.2))).map (λkv=>(f kv.1,kv.2))
 |[],[],_=>rfl
 |k::ks,(a,b)::vs,h=>by injection h with h1 h2;have h1:a=f k:=h1;rw[QD,Q6,QD,←GF f ks vs h2,h1]
theorem El{α β:Type}:∀(ps:List (α×β)),(ps.map (·.1)).zip (ps.map (·.2))=ps
 |[]=>rfl
 |p::r=>by rw[QD,QD,Q6,El r]
noncomputable def Pc:List (M D×M D)->M (List (D×D))
 |[]=>U2 []
 |(f,g)::r=>Ku f λx=>Ku g λy=>Ku (Pc r) λps=>U2 ((x,y)::ps)
noncomputable def YB:D->Option Key
 |.int i=>O (.inl i)
 |.str x=>O (.inr x)
 |_=>zP
noncomputable def O0:zS->Option ac
 |[]=>O []
 |d::r=>match YB d,O0 r with
  |some k,O ks=>O (k::ks)
  |_,_=>zP
noncomputable def NY(ps:List (D×D)):zU:=match O0 (ps.map (·.1))with
 |some ks=>if ks.Nodup/\ks.length<=15/\ks≠[]then O (.dict ps)else zP
 |none=>zP
noncomputable def NX(prs:List (M D×M D)):M D:=Ku (Pc prs) λps=>Kw (NY ps)
def Cj(K:Frag)(G:Hp)(vs:List (V×V))(ps:List (D×D)):Prop:=Reps K G (vs.map (·.1)) (ps.map (·.1))/\Reps K G (vs.map (·.2)) (ps.map (·.2))
section
variable{K:Frag}{B G0 G H:Hp}{σ:St}{Z:U5}
def Pw   (h:YB d=O k):d=kD k:=by
 cases d with
 |int i=>cases h;rfl
 |str x=>cases h;rfl
 |_=>cases h
theorem E2:∀{ds}{ks},O0 ds=O ks->ds=ks.map kD
 |[],_,h=>by cases h;rfl
 |d::r,ks,h=>by
  unfold O0 at h;split at h
  .rename_i k ks' h1 h2
   cases h;rw[QD,←Pw h1,←E2 h2]
  simp_all
def Rep.key_inv   (r:Rep K G v (kD k)):v=kV k:=by
 cases k with
 |inl i=>exact r.int_inv
 |inr x=>exact r.str_inv
def Reps.keys_inv:∀{vs}{ks:ac},Reps K G vs (ks.map kD)->vs=ks.map kV
 |_,[],.nil=>rfl
 |_,k::ks,.cons h t=>by rw[h.key_inv,Reps.keys_inv t];rfl
theorem E1:∀{prs}{G H}{Z}{Q},EOk K B G0 G H σ Z ->
  (match Pc prs Z with
   |.ok ps Z'=>∀vs G' H',EOk K B G0 G' H' σ Z'->Same G G'->Cj K G' vs ps->Q vs H'
   |.bad=>False)->OW (prs.map λp=>(tD K B G0 p.1,tD K B G0 p.2)) σ H Q
 |[],G,H,Z,Q,k,a=>a [] G H k (.refl _) ⟨.nil,.nil⟩
 |(f,g)::r,G,H,Z,Q,k,a=>by
  refine⟨G,Z,k,?_⟩;unfold Pc Ku at a;show aft K B G0 _ (f Z) G σ _;cases z:f Z with
  |bad=>rw[z]at a;exact a.elim
  |ok x Z1=>
   rw[z]at a;dsimp only at a;intro v G1 H1 k1 s1 r1;refine⟨G1,Z1,k1,?_⟩;show aft K B G0 _ (g Z1) G1 σ _;cases z2:g Z1 with
   |bad=>rw[z2]at a;exact a.elim
   |ok y Z2=>
    rw[z2]at a;dsimp only at a;intro u G2 H2 k2 s2 r2;refine E1  k2 ?_;cases z3:Pc r Z2 with
    |bad=>rw[z3]at a;exact a.elim
    |ok ps Z3=>rw[z3]at a;intro vs G3 H3 k3 s3 r3;exact a _ G3 H3 k3 ((s1.trans s2).trans s3) ⟨.cons ((r1.mono s2).mono s3) r3.1,.cons (r2.mono s3) r3.2⟩
def EOk.under  (k:EOk K B G0 G H σ Z)(hp:H p=zP):EOk K (upd B p (.dK [])) G0 G (upd H p (.dK [])) σ Z where
 bh:=λb o q=>by
  by_cases z:b=p
  .subst z;rw[ZE]at q⊢;exact q
  .rw[K7 z]at q⊢;exact k.bh b o q
 gh:=k.gh.trans (Z7 hp)
 g0:=k.g0
 np:=λa u q n=>by
  by_cases z:a=p
  .subst z;exact k.gh.free hp
  .rw[K7 z]at q;exact k.np a u q n
 len:=k.len
 pub:=k.pub
 own:=λi ds q=>by obtain⟨a,vs,h1,h2,h3,h4,h5⟩:=k.own i ds q;have z   :=Y0 h4 hp;exact⟨a,vs,h1,by rw[K7 z];exact h2,h3,by rw[K7 z];exact h4,h5⟩
 sep:=k.sep
 dp:=k.dp.map (λ_ _ _ q=>⟨q,rfl⟩) (λ_ ds q=>⟨ds,q,rfl⟩) λi pt d v fp q s r w n=>⟨r.mono (.refl _) (Z7 hp),λb m=>let ⟨_,hl⟩:=r.isl b m;⟨by rw[K7 (Y0 hl hp)];exact(w b m).1,(w b m).2⟩⟩
end
section
variable{X:Cx}{B G0:Hp}{KX:XW}{e o a b c:UC}{pos p2:Pos}{es rest:zV}
structure DPs(X:Cx)(pos:Pos)(G0:Hp)(keys:List (Option UC))(values:zV)(prs:List (M D×M D)):Prop where
 out:∀B',PPs X pos keys values (prs.map λp=>(tD X.K B' G0 p.1,tD X.K B' G0 p.2))
def jk:DPs X pos G0 [] [] []:=⟨λ_=>qD⟩
def kI    {f g}{prs}(hk:∀B',PE X k (tD X.K B' G0 f))(hv:∀B',PE X v (tD X.K B' G0 g))(hr:DPs X pos G0 ks vs prs):DPs X pos G0 (O k::ks) (v::vs) ((f,g)::prs):=
 ⟨λB'=>ko (hk B') (hv B') (hr.out B')⟩
noncomputable def T3(x y:D):zU:=match x,YB y with
 |.dict kvs,O k=>(kvs.find? λp=>decide (YB p.1=O k)).map (·.2)
 |_,_=>zP
def Nc(k:Key):YB (kD k)=O k:=by cases k<;>rfl
theorem MY{K}{G:Hp}{k}{d:D}:∀{ks:ac}{vs}{ds},Reps K G vs ds->(((ks.map kD).zip ds).find? λp=>decide (YB p.1=O k)).map (·.2)=O d->∃v,Yc (ks.zip vs) k=O v/\Rep K G v d
 |[],vs,ds,_,e=>by simp at e
 |q::ks,_,_,.nil,e=>by simp at e
 |q::ks,_,_,@Reps.cons _ _ v d0 vs ds r t,e=>by
  rw[QD,Q6,List.find?_cons]at e;unfold Yc;rw[Q6,List.find?_cons];rw[Nc]at e;by_cases h:q=k
  .subst h
   simp only[decide_true]at e⊢;cases e;exact⟨v,rfl,r⟩
  .have h':¬_:=λz=>h (Ja z)
   simp only[h,h',decide_false]at e⊢;exact MY t e
theorem EZ  : ∀{ks:List ac}{ds:zS},((ks.map tkD).zip ds).find? (λkv=>decide (YB kv.1=O ky))=zP
 |[],_=>rfl
 |_::_,[]=>rfl
 |k::ks,d::ds=>by exact EZ (ks:=ks)
def jj(hu:X.A.units+64<cLine){f g}(ha:PE X a (tD X.K B G0 f))(hb:PE X b (tD X.K B G0 g))(hs:V7 b:=by intro _ _;rfl):PE X (.Subscript a b pos) (tD X.K B G0 (U1 T3 f g)):=
 KZ (Fs (by lia) ha hb hs) λσ H Q q=>tM.two q λv u H2 G Z x y k rx ry a=>by
  obtain⟨d,e,a1⟩:=a.opt;unfold T3 at e;split at e
  .rename_i kvs ky hk
   have hy:=Pw hk;subst hy;have hu:=ry.key_inv;subst hu;cases rx with
   |dic h=>simp_all
   |exc _ _ _ _=>simp[YB]at e
   |@dct ad ks vs ds _ e0 hne hl h r=>subst e0;obtain⟨w,hw,ay⟩:=MY r e;exact⟨ad,w,rfl,.inl ⟨_,ky,.inl (k.gh _ _ h),rfl,hw.symm⟩,a1.now k ay⟩
   |@dtt ad ob ks vs ds _ e0 hl h r=>subst e0;have z:=EZ (ks:=ks) (ds:=ds) (ky:=ky);unfold pdD at e;rw[List.find?_cons_of_neg (by show ¬decide ((zP)=O ky)=zQ;simp),z]at e;cases e
  simp_all
end
end DL
namespace DL
open PySem PySem.Spec L2 PySem.SeqAt PySem.AutoSeq1
open PyProof.Rows hiding St
end DL
namespace DL
open PySem PySem.Spec L2
open PyProof.Rows hiding St
end DL
namespace L2
open PySem PySem.Spec PyProof.Rows
end L2
namespace DL
open PySem PySem.Spec L2
open PyProof.Rows hiding St
section
variable{X:Cx}
noncomputable def NW:D->D->ag
 |.bool c,.bool b=>O (!(c==b))
 |_,_=>zP
def AN:OpR X (UG .IsNot) (λx y H Q=>∃c b,x=.bl c/\y=.bl b/\Q (.bl (!(c==b))) H):=by intro pins s σ H x y v u Q I rx ry h;obtain⟨c,b,rfl,rfl,q⟩:=h;cases rx;cases ry;refine Qf (wpAny_of_eq  (by cases c<;>cases b<;>rfl) (Qo (Mk I q zO)))
def Ao:OpB X (UG .IsNot) NW:=⟨_,AN,λv u G H x y d Q s rx ry e q=>by
 unfold NW at e;split at e
 .cases e;exact⟨_,_,rx.bl_inv,ry.bl_inv,q⟩
 simp_all⟩
end
end DL
namespace L2
open PySem PySem.Spec PyProof.Rows
end L2
namespace DL
open PySem PySem.Spec L2
open PyProof.Rows hiding St
end DL
namespace L2
open PySem PySem.Spec PyProof.Rows
end L2
namespace DL
open PySem PySem.Spec L2
open PyProof.Rows hiding St
def EOk.lent{K}{B G0 G H}{σ}{Z}(k:EOk K B G0 G H σ Z):EOk K H H H H σ (Yt Z) where
 bh:=.refl _
 gh:=.refl _
 g0:=.refl _
 np:=λ_ _ e n=>by lia
 len:=by unfold Yt;rw[Qb];exact k.len
 pub:=λi d e=>by
  rcases EN e with e2|⟨ds,rfl,e2⟩|⟨p,e2⟩
  .exact k.tree (by unfold P7;rw[e2])
  .exact k.tree (by unfold P7;rw[e2])
  .exact k.tree (by unfold P7;rw[e2])
 own:=λi ds e=>(PH e).elim
 sep:=λi j a ds es e=>(PH e).elim
 dp:=.of (λ_ _ _ q=>DT q) λ_ _ q=>PH q
end DL
namespace L2
open PySem PySem.Spec PyProof.Rows
end L2
namespace DL
open PySem PySem.Spec L2
open PyProof.Rows hiding St
end DL
namespace L2
open PySem PySem.Spec PyProof.Rows
end L2
namespace DL
open PySem PySem.Spec L2
open PyProof.Rows hiding St
noncomputable def Mb{α:Type}(a:α):[a].Nodup:=by simp
section
variable{K:Frag}{B G0 G H:Hp}{σ:St}{Z:U5}
structure NewT(K:Frag)(B G H:Hp)(σ:St)(Z:U5)(pt:Pat)(v:V)(d:D)(fp:zX):Prop where
 r:RepO K G H pt v d fp
 nd:fp.Nodup
 b:∀a∈fp,B a=zP/\G a=zP
 f:∀a∈fp,∀(j:Nat) es,Z[j]?=O (O (.own es))->σ[j]?≠O (O (.ref a))
 dp:∀a∈fp,∀(j:Nat) p d v fp',Z[j]?=O (O (.deep p d))->σ[j]?=O (O v)->RepO K G H p v d fp'->a∉fp'
def EOk.setDeep{i:Nat}{pt:Pat}{v:V}{d:D}{fp}(k:EOk K B G0 G H σ Z)(n:NewT K B G H σ Z pt v d fp)(hi:i<Z.length):EOk K B G0 G H (σ.set i (O v)) (Z.set i (O (.deep pt d))) where
 bh:=k.bh
 gh:=k.gh
 g0:=k.g0
 np:=k.np
 len:=by rw[Jf,Jf];exact k.len
 pub:=λj d' q=>by
  by_cases z:i=j
  .subst z;have:=YG q;cases this
  .rw[Qq z]at q⊢
   exact k.pub j d' q
 own:=λj es q=>by
  by_cases z:i=j
  .subst z;have:=YG q;cases this
  .rw[Qq z]at q⊢
   exact k.own j es q
 sep:=λj l c es fs q1 q2 s1 s2=>by
  have z1:i≠j:=λz=>by subst z;have:=YG q1;cases this
  have z2:i≠l:=λz=>by subst z;have:=YG q2;cases this
  rw[Qq z1]at q1 s1;rw[Qq z2]at q2 s2;exact k.sep j l c es fs q1 q2 s1 s2
 dp:=by
  obtain⟨ω,k1,k2⟩:=k.dp;have hs:i<σ.length:=by rw[←k.len];exact hi
  refine⟨λb=>if b∈fp then i else ω b,λj p d' q=>?_,λj es b q s=>?_⟩
  .by_cases z:i=j
   .subst z
    have:=YG q;cases this;exact⟨v,fp,QW hs,n.r,n.nd,λa m=>⟨(n.b a m).1,(n.b a m).2,Qu m⟩⟩
   .rw[Qq z]at q⊢
    obtain⟨v',fp',s,r,nn,w⟩:=k1 j p d' q;refine⟨v',fp',s,r,nn,λb m=>⟨(w b m).1,(w b m).2.1,?_⟩⟩;dsimp only;rw[QJ (λz=>n.dp b z j p d' v' fp' q s r m)];exact(w b m).2.2
  .by_cases z:i=j
   .subst z;have:=YG q;cases this
   .rw[Qq z]at q s
    dsimp only;rw[QJ (λz=>n.f b z j es q s)];exact k2 j es b q s
noncomputable def RepOl.leaf:∀{vs}{ds},Reps K G vs ds->RepOl K G H .leaf vs ds []
 |_,_,.nil=>.nil
 |_,_,.cons h t=>.cons   (.leaf h) (RepOl.leaf t)
noncomputable def Sq(Z:U5)(i:Nat):Option (Pat×D):=match Z[i]? with
 |some (O (.own ds))=>O (.lst .leaf,.list ds)
 |some (O (.deep p d))=>O (p,d)
 |_=>zP
def EOk.slots(k:EOk K B G0 G H σ Z):∃ω:UA->Nat,∀(i) p d,Sq Z i=O (p,d)->∃v fp,σ[i]?=O (O v)/\RepO K G H p v d fp/\fp.Nodup/\∀a∈fp,B a=zP/\G a=zP/\ω a=i:=by
 obtain⟨ω,k1,k2⟩:=k.dp;refine⟨ω,λi p d h=>?_⟩;unfold Sq at h;split at h
 .rename_i ds q
  cases h;obtain⟨a,vs,h1,h2,h3,h4,h5⟩:=k.own i ds q;refine⟨.ref a,[a],h1,.lst h4 (.leaf h5),Mb a,λb m=>?_⟩;rw[Qt.mp m];exact⟨h2,h3,k2 i ds a q h1⟩
 .rename_i p' d' q
  cases h;exact k1 i p d q
 simp_all
def EOk.mutD{j:Nat}{p:Pat}{d d':D}{v:V}{fp fp'}{a:UA}{o:HO}(k:EOk K B G0 G H σ Z)(hd:Z[j]?=O (O (.deep p d)))(hv:σ[j]?=O (O v))(r:RepO K G H p v d fp)(ha:a∈fp)
  (r':RepO K G (upd H a o) p v d' fp') (nd':fp'.Nodup) (sub:∀b∈fp',b∈fp):EOk K B G0 G (upd H a o) σ (Z.set j (O (.deep p d'))):=by
 obtain⟨ω,k1,k2⟩:=k.dp;obtain⟨v0,fp0,s0,r0,n0,w0⟩:=k1 j p d hd;rw[hv]at s0;cases s0;have e0:=r0.uniq (.refl _) r;subst e0;obtain⟨hb,hg,hw⟩:=w0 a ha;obtain⟨ws,hl⟩:=r.isl a ha;have nt:∀vs,H a≠O (.tup vs):=λvs z=>by rw[hl]at z;cases ws<;>cases z
 have nz:∀{m:Nat}{s:Sl},j≠m->(Z.set j (O (.deep p d')))[m]?=O (O s)->Z[m]?=O (O s):=λ{m s} z q=>by rw[Qq z]at q;exact q
 refine⟨λb u e=>?_,λb u e=>?_,k.g0,k.np,by rw[Jf];exact k.len,λm dm e=>?_,λm es e=>?_,λm l c es fs q1 q2 s1 s2=>?_,ω,λm pm dm e=>?_,λm es b e s=>?_⟩
 .rw[K7 (Y0 e hb)];exact k.bh b u e
 .rw[K7 (Y0 e hg)];exact k.gh b u e
 .by_cases z:j=m
  .subst z;have:=YG e;cases this
  .exact k.pub m dm (nz z e)
 .by_cases z:j=m
  .subst z;have:=YG e;cases this
  .have e:=nz z e
   obtain⟨c,us,g1,g2,g3,g4,g5⟩:=k.own m es e;have zc:c≠a:=λw=>by subst w;exact z (hw.symm.trans (k2 m es c e g1))
   exact⟨c,us,g1,g2,g3,by rw[K7 zc];exact g4,g5⟩
 .have z1:j≠m:=λz=>by subst z;have:=YG q1;cases this
  have z2:j≠l:=λz=>by subst z;have:=YG q2;cases this
  exact k.sep m l c es fs (nz z1 q1) (nz z2 q2) s1 s2
 .by_cases z:j=m
  .subst z
   have:=YG e;cases this;exact⟨v,fp',hv,r',nd',λb mb=>w0 b (sub b mb)⟩
  .obtain⟨vm,fm,sm,rm,nm,wm⟩:=k1 m pm dm (nz z e)
   exact⟨vm,fm,sm,rm.upd nt (λmm=>z (hw.symm.trans (wm a mm).2.2)),nm,wm⟩
 .have z:j≠m:=λz=>by subst z;have:=YG e;cases this
  exact k2 m es b (nz z e) s
end
def tT(K:Frag)(B G0:Hp)(pt:Pat)(f:M D):TE:=λσ H Q=>∃G Z,EOk K B G0 G H σ Z/\match f Z with
 |.ok d Z'=>∀v fp G' H',EOk K B G0 G' H' σ Z'->Same G G'->NewT K B G' H' σ Z' pt v d fp->Q v H'
 |.bad=>False
noncomputable def RW(i:Nat)(pt:Pat)(f:M D):SM:=sB f λd Z=>if i<Z.length then .nx (Z.set i (O (.deep pt d)))else .bad
section
variable{X:Cx}{B G0:Hp}{KX:XW}{e o a b c:UC}{pos:Pos}{es:zV}{st:Stmt}{sts:List Stmt}{pt:Pat}
def AM     (hN:X.N.Nodup)(hi:X.N[i]?=O x)(hx:Loc X.env.scope x)(he:PE X e (tT X.K B G0 pt f))(hs:swapsWith e (O (.Name x p2)) pos.line X.env=pure zR:=by rfl)
  (hf:X.fn x=zQ∨X.env.scope.names.lookup x=O .local:=by first|exact .inl rfl|exact .inr rfl|assumption):PS X (.Assign [.Name x p2] e pos) (tS X.K B G0 KX (RW i pt f)):=
 ZS (Ml hN hi hx he hs hf) λD σ H ⟨G,Z,k,a⟩=>by
  refine⟨G,Z,k,?_⟩;unfold RW sB at a;cases z:f Z with
  |bad=>rw[z]at a;exact a.elim
  |ok ds Z1=>
   rw[z]at a;intro v fp G' H' k' s' n;dsimp only at a;split at a
   .rename_i hl
    exact a _ G' H' (k'.setDeep n hl) s'
   .exact a.elim
end
noncomputable def isT:Option HO->Bool
 |some (.tup _)=>zQ
 |some (.frz _ (.tup _))=>zQ
 |_=>zR
def An{u:MO}:isT (O u.ho)=zR:=by cases u<;>rfl
def ZW(fp:zX)(G H:Hp):Hp:=λb=>if b∈fp∨isT (H b)=zQ then H b else G b
section
variable{K:Frag}{B G0 G H:Hp}{fp:zX}
def vb(gh:Same G H):Same G (ZW fp G H):=λb o e=>by
 unfold ZW;split
 .exact gh b o e
 .exact e
def AL(gh:Same G H):Same (ZW fp G H) H:=λb o e=>by
 unfold ZW at e;split at e
 .exact e
 .exact gh b o e
def GE{b:UA}(h:b∈fp∨isT (H b)=zQ):ZW fp G H b=H b:=by unfold ZW;rw[Qu h]
def GD  (h:b∉fp)(h2:isT (H b)=zR):ZW fp G H b=G b:=by
 unfold ZW;rw[QJ];rintro(z|z)
 .exact h z
 lia
def Ext.pubT  (ex:Ext G H G' H')(fr:∀a∈fp,H a=zP):Ext G H (ZW fp G' H') H':=
 ⟨ex.h,ex.g.trans (vb ex.gh),AL ex.gh,λa u e n=>by rw[GD (λm=>by simp_all) (by rw[ex.h a _ e];exact An)];exact ex.np a u e n⟩
noncomputable def nl0:D->Bool
 |.tuple ds=>ds.all flat
 |d=>flat d
def Rep.nl{G' G2 H'}{v}{d}(r:Rep K G' v d)(h:nl0 d=zQ)(gh:Same G' H'):Rep K (ZW fp G2 H') v d:=by
 cases r with
 |tup hs rr=>
  refine .tup ?_ (rr.flat h);rcases hs with (hs|⟨o,hs⟩)|hs
  .have:=gh _ _ hs
   exact .inl (.inl ((GE (.inr (by rw[this];rfl))).trans this))
  .have:=gh _ _ hs
   exact .inl (.inr ⟨o,(GE (.inr (by rw[this];rfl))).trans this⟩)
  .exact .inr hs
 |non=>exact .non
 |bl b=>exact .bl b
 |int i=>exact .int i
 |str x=>exact .str x
 |lst _ _=>cases h
 |dic _=>cases h
 |exc _ _ _ _=>cases h
 |dct _ _ _ _ _=>cases h
 |dtt _ _ _ _=>cases h
def Reps.nl{G' G2 H'}(gh:Same G' H'):∀{vs}{ds},Reps K G' vs ds->ds.all nl0=zQ->Reps K (ZW fp G2 H') vs ds
 |_,_,.nil,_=>.nil
 |_,_,.cons r t,h=>by rw[Uv,QM]at h;exact .cons (r.nl h.1 gh) (Reps.nl gh t h.2)
end
noncomputable def Vw(f:M zS):M zS:=λZ=>match f (Yt Z)with
 |.ok ds _=>if ds.all nl0=zQ then .ok ds Z else .bad
 |.bad=>.bad
section
variable{Z Z1 Z2 Z':U5}{pt:Pat}
def AK  {f}{d}(h1:f Z=.ok d Z1)(h2:i<Z1.length)(h3:Z1.set i (O (.deep pt d))=Z'):RW i pt f Z=.nx Z':=by unfold RW sB;simp_all
def kH   (h:f (Yt Z)=.ok ds Z')(hf:ds.all nl0=zQ):Vw f Z=.ok ds Z:=by unfold Vw;rw[h];dsimp only;rw[if_pos hf]
end
def NewL.back{K}{B G0 G H G' H':Hp}{σ:St}{Z Z1:U5}{ad:UA}{vs:List V}{ds}(k:EOk K B G0 G H σ Z)(k':EOk K H H G' H' σ Z1)(n:NewL K H G' H' σ Z1 ad vs ds)(hf:ds.all nl0=zQ) :
  EOk K B G0 (ZW [] G H') H' σ Z/\Same G (ZW [] G H')/\NewL K B (ZW [] G H') H' σ Z ad vs ds:=by
 have ex:Ext G H G H':=⟨k'.bh,.refl _,k.gh.trans k'.bh,λ_ _ _ n=>n⟩;have ex2:Ext G H (ZW [] G H') H':=ex.pubT (λa m=>by cases m);refine⟨k.ext ex2,ex2.g,⟨k.bh.free n.b,?_,n.h,n.r.nl k'.gh hf,λj es q w=>?_,λj pt d v fp q s r=>k.freshD k'.bh n.b q s r⟩⟩
 .rw[GD (by simp) (by rw[n.h];rfl)]
  exact k.gh.free n.b
 .obtain⟨b,us,g1,g2,g3,g4,g5⟩:=k.own j es q
  rw[g1]at w;cases w;rw[n.b]at g4;cases g4
section
variable{X:Cx}{B G0:Hp}{KX:XW}
def Ci{l:Bool}{y:Str}{j:Nat}{py:Pos}{spos:Pos}{tg elt iter:UC}{ifs:zV}{gs:List Comprehension}{scope:Scope}{pos:Pos}{N2:List Str}{k:Nat}{f:M zS}{s}{t:M Bool}{rd:RdB}(hN:X.N.Nodup)(hj:X.N[j]?=O y)(hy:X.env.scope.names.lookup y=O .local)(hc:X.calm=zQ)
  (hi:∀B' G',PI X tg iter (iD X.K B' G' f)) (ah:YA X N2 scope (.ListComp elt (⟨tg,iter,ifs,0⟩::gs) scope pos) tg ifs s t rd) (hb:R1 X.env.scope scope X.N N2 k) (hs:∀x,UV iter X.env x=pure x:=by intro _;rfl)
  (hsw:swapsWith (.ListComp elt (⟨tg,iter,ifs,0⟩::gs) scope pos) (O (.Name y py)) spos.line X.env=pure zQ:=by rfl) :
  PS X (.Assign [.Name y py] (.ListComp elt (⟨tg,iter,ifs,0⟩::gs) scope pos) spos) (tS X.K B G0 KX (Zn j (Vw (dCG l f k s t rd)))):=by
 intro pins s0 σ H Dn I ⟨G,Z,k0,a⟩;unfold Zn sB Vw at a;cases z:dCG l f k s t rd (Yt Z)with
 |bad=>rw[z]at a;exact a.elim
 |ok es Z1=>
 rw[z]at a;dsimp only at a;by_cases hnl:es.all nl0=zQ
 case neg=>rw[QJ hnl]at a;exact a.elim
 rw[Qu hnl]at a;dsimp only at a;by_cases hl:j<Z.length
 .rw[Qu hl]at a
  obtain⟨ds,ZF,zf,zl,hfl⟩:=MG z;rw[exec_Assign_Name_used _ _ _ _ hsw];refine Qf (JD (Qf ?_));refine Qf (QS (La   hc (hi H H) ah hb hs I k0.lent zf zl hfl λC D vs G' H' s4 m I7 hm hC hL hz hcl hp k' s' n=>?_) (λ_ s' hq=>Qo (Qo hq)) λ_ _ e=>e);refine wpAny_assign_Name (Lp I7 hN hj (.inl hy) (v:=.ref D) zO (λs5 I8 ⟨ad,sb,hx⟩=>?_) (.inr hy))
  have hCa:C≠ad:=by
   rcases hx with e|e
   .rw[e];exact hL
   .exact Ne.symm (hcl y ad e)
  refine⟨m,hm.sameBut sb hCa,λh' aT=>⟨_,H',I8.turned (t':=s5.toks) (it:=C) (λb o hb e=>(aT.2 b hb).trans e) hC hL (.inr hz) hcl hp,?_⟩⟩;obtain⟨k2,s2,n2⟩:=NewL.back k0 k' n hnl;exact a _ _ H' (k2.setOwn n2 hl) s2
 .rw[QJ hl]at a;exact a.elim
def va  (h:∀Z es Z',F Z=.ok es Z'->F' Z=.ok es Z')(Z)(es)(Z')(e:Vw F Z=.ok es Z'):Vw F' Z=.ok es Z':=by
 unfold Vw at e⊢;cases z:F _ with
 |bad=>rw[z]at e;cases e
 |ok ds Z1=>rw[z]at e;rw[h _ _ _ z];exact e
def Ch   {j:Nat}{py:Pos}{spos:Pos}{tg elt iter:UC}{ifs}{gs}{scope}{pos:Pos}{f}{s}{t}{rd:RdB}{F}(SC:Scope)(N1 N2)(k:Nat)(le:∀Z es Z',F Z=.ok es Z'->dCG l f k s t rd Z=.ok es Z')(hN:X.N.Nodup)(hj:X.N[j]?=O y)(hy:X.env.scope.names.lookup y=O .local)(hc:X.calm=zQ)
  (hi:∀B' G',PI X tg iter (iD X.K B' G' f)) (ah:YA X N2 scope (.ListComp elt (⟨tg,iter,ifs,0⟩::gs) scope pos) tg ifs s t rd) (h1:X.env.scope=SC) (h2:X.N=N1) (hb:Vz T4 SC scope N1 N2 k=zQ) (hs:∀x,UV iter X.env x=pure x:=by intro _;rfl)
  (hsw:swapsWith (.ListComp elt (⟨tg,iter,ifs,0⟩::gs) scope pos) (O (.Name y py)) spos.line X.env=pure zQ:=by rfl) :
  PS X (.Assign [.Name y py] (.ListComp elt (⟨tg,iter,ifs,0⟩::gs) scope pos) spos) (tS X.K B G0 KX (Zn j (Vw F))):=
 ZS (Ci hN hj hy hc hi ah (by rw[h1,h2];exact MF hb) hs hsw) λ_ _ _ q=>HK (va le) q
end
noncomputable def Nb(f:M D):M Bool:=Ku f λx=>match x with | .list ds=>U2 (!ds.isEmpty)|_=>λ_=>.bad
noncomputable def Vr:Nat:=10 ^ 60
section
variable{X:Cx}{B G0:Hp}{e:UC}
def yS{α β:Type}{xs:List α}{ys:List β}(h:xs.length=ys.length):xs.isEmpty=ys.isEmpty:=by cases xs<;>cases ys<;>first|rfl|simp_all
def AJ  (h:PE X e (tD X.K B G0 f))(he:∀whole,isTrue e X.env whole=(do let v ←whole;standAt e.pos;holding [v] (truthy v)):=by intro _;rfl):PT X e (tBo X.K B G0 (Nb f)):=
 YK (xP h he) λσ H Q q=>tM.one  q λv H2 G Z x k r a=>by
  cases x with
  |list ds=>obtain⟨l,vs,rfl,h1,r1⟩:=r.lst_inv;refine⟨!vs.isEmpty,.inl ⟨vs,k.gh.seq h1,rfl⟩,?_⟩;exact aft.now  a k (by rw[yS r1.length])
  |_=>exact a.elim
def xZ   {ds:zS}(h1:f Z=.ok (.list ds) Z1):Nb f Z=.ok (!ds.isEmpty) Z1:=by exact Zr h1 zO
end
def Wt(kvs:List (D×D))(k:Key)(d:D):List (D×D):=if kvs.any (λp=>decide (YB p.1=O k))then kvs.map (λp=>if YB p.1=O k then(p.1,d)else p)else kvs++[(kD k,d)]
def OI(j:Nat)(g f:M D):SM:=sB f λd Z1=>match Z1[j]? with
 |some (O (.deep .dic _))=>sB g (λy Z2=>match YB y,Z2[j]? with
  |some k,O (O (.deep .dic (.dict kvs)))=>if kvs.length<1000 then .nx (Z2.set j (O (.deep .dic (.dict (Wt kvs k d)))))else .bad
  |_,_=>.bad) Z1
 |_=>.bad
section
variable{K:Frag}{G:Hp}
theorem Na  : ∀{ks:ac}{vs:List V}{ds:zS},Reps K G vs ds->((ks.map kD).zip ds).any (λp=>decide (YB p.1=O k))=(ks.zip vs).any λkv=>decide (kv.1=k)
 |[],_,_,_=>rfl
 |_::_,_,_,.nil=>rfl
 |k0::ks,_,_,.cons _ t=>by
  rw[QD,Q6,List.any_cons,Na t,Nc];by_cases e:k0=k
  .simp
  .simp[e]
theorem Ek  {w:V}{d:D}(r:Rep K G w d):∀{ks:ac}{vs:List V}{ds:zS},Reps K G vs ds->∃vs' ds',(ks.zip vs).map (λkv=>if kv.1=k then(kv.1,w)else kv)=ks.zip vs'/\((ks.map kD).zip ds).map (λp=>if YB p.1=O k then(p.1,d)else p)=(ks.map kD).zip ds'/\ds'.length=ds.length/\Reps K G vs' ds'
 |[],vs,ds,h=>⟨vs,ds,rfl,rfl,rfl,h⟩
 |_::_,_,_,.nil=>⟨[],[],rfl,rfl,rfl,.nil⟩
 |k0::ks,_,_,.cons (v:=v0) (d:=d0) h t=>by
  obtain⟨vs',ds',e1,e2,e3,e4⟩:=Ek r  t;by_cases e:k0=k
  .refine⟨w::vs',d::ds',?_,?_,by rw[QU,e3,QU],.cons r e4⟩
   .rw[Q6,QD,e1,Qu e,Q6]
   .rw[QD,Q6,QD,e2,Qu (by rw[Nc,e]),Q6]
  .refine⟨v0::vs',d0::ds',?_,?_,by rw[QU,e3,QU],.cons h e4⟩
   .rw[Q6,QD,e1,QJ e,Q6]
   .rw[QD,Q6,QD,e2,QJ (by rw[Nc];exact λz=>e (Ja z)),Q6]
noncomputable def Reps.snoc   (r:Rep K G w d):∀{vs}{ds},Reps K G vs ds->Reps K G (vs++[w]) (ds++[d])
 |_,_,.nil=>.cons r .nil
 |_,_,.cons h t=>.cons h (Reps.snoc r t)
def AI  {w:V}{d:D}(r:Rep K G w d){ks:ac}{vs:List V}{ds}(h:Reps K G vs ds)(hl:ks.length=ds.length):∃(ks':ac)(vs':List V)(ds':zS),ZJ (ks.zip vs) k w=ks'.zip vs'/\Wt ((ks.map kD).zip ds) k d=(ks'.map kD).zip ds'/\ks'.length=ds'.length/\Reps K G vs' ds':=by
 unfold ZJ Wt;rw[Na h];have hv:=h.length;split
 .obtain⟨vs',ds',e1,e2,e3,e4⟩:=Ek r   h
  exact⟨ks,vs',ds',e1,e2,by rw[e3];exact hl,e4⟩
 .refine⟨ks++[k],vs++[w],ds++[d],?_,?_,by rw[Qi,Qi,hl];rfl,h.snoc r⟩
  .rw[List.zip_append (by lia)];rfl
  .rw[QC,List.zip_append (by rw[Qb];lia)];rfl
end
section
variable{X:Cx}{B G0:Hp}{KX:XW}{e o i:UC}{pos p2:Pos}
def Am{j:Nat}{f g:M D}(hu:X.A.units+64<cLine)(he:PE X e (tD X.K B G0 f))(ho:PE X o (ZA j))(hi:PE X i (tD X.K B G0 g))(hs:swapsWith e (O (.Subscript o i p2)) pos.line X.env=pure zR:=by rfl) :
  PS X (.Assign [.Subscript o i p2] e pos) (tS X.K B G0 KX (OI j g f)):=
 ZS (qE (by lia) ho hi he hs) λD σ H q=>tS.bnd  q λv H1 G1 Z1 d k r a=>by
  split at a
  .rename_i d0 q0
   obtain⟨ω,ks1⟩:=k.slots;obtain⟨v0,fp0,bN,r0,_,_⟩:=ks1 j .dic d0 (by unfold Sq;rw[q0]);refine⟨v0,bN,G1,Z1,k,?_⟩;unfold sB at a;cases z:g Z1 with
   |bad=>rw[z]at a;exact a.elim
   |ok y Z2=>
    rw[z]at a;dsimp only at a;intro kv G' H' k' s' r';split at a
    .rename_i ky kvs hk q2
     split at a
     .rename_i hlt
      obtain⟨ω2,bY⟩:=k'.slots;obtain⟨v2,fp2,hv2,r2,nd2,w2⟩:=bY j .dic _ (by unfold Sq;rw[q2]);rw[bN]at hv2;cases hv2;have ey:=Pw hk;subst ey;have ekv:=r'.key_inv;subst ekv;cases r2 with
      |@dic ad ks vs ds _ e hl h rr=>
       obtain⟨ks',vs',ds',e1,e2,e3,e4⟩:=AI (k:=ky) (r.mono s') rr hl;refine⟨ad,_,rfl,DPut.k h ?_,a σ G' _ (k'.mutD q2 bN (.dic e hl h rr) Ql (.dic (ks:=ks') (vs:=vs') (ds:=ds') (by rw[e];exact e2) e3 (by rw[ZE,e1]) e4) (Mb ad) λb m=>m) (s'.trans (.refl _))⟩;have:(ks.zip vs).length<=kvs.length:=by rw[e,JG,JG,Qb];have:=rr.length;lia
       exact Nat.lt_of_le_of_lt this (QH hlt (by decide))
     .exact a.elim
    .exact a.elim
  .exact a.elim
def EOk.fillO{K}{B G0 G H:Hp}{σ:St}{Z:U5}{p:UA}{u:HO}(k:EOk K (upd B p (.dK [])) G0 G H σ Z)(hb:B p=zP)(h0:G0 p=zP):EOk K B G0 G (upd H p u) σ Z/\G p=zP/\H p=O (.dK [])/\(∀(j:Nat) es,Z[j]?=O (O (.own es))->σ[j]?≠O (O (.ref p))) /\
  ∀(j:Nat) pt d v fp',Z[j]?=O (O (.deep pt d))->σ[j]?=O (O v)->RepO K G (upd H p u) pt v d fp'->p∉fp':=by
 have hG:G p=zP:=k.np p (.k []) ZE h0;have hH   :=k.bh p _ ZE;refine⟨⟨λb o q=>?_,λb o q=>?_,k.g0,λa w q n=>?_,k.len,k.pub,λi ds q=>?_,k.sep,k.dp.map (λ_ _ _ q=>⟨q,rfl⟩) (λ_ ds q=>⟨ds,q,rfl⟩) λi pt d v fp q s r w n=>?_⟩,hG,hH,λj es q s=>?_,λj pt d v fp' q s r=>?_⟩
 .have z:b≠p:=Y0 q hb
  rw[K7 z];exact k.bh b o (by rw[K7 z];exact q)
 .rw[K7 (Y0 q hG)];exact k.gh b o q
 .have z:a≠p:=Y0 q hb
  exact k.np a w (by rw[K7 z];exact q) n
 .obtain⟨a,vs,h1,h2,h3,h4,h5⟩:=k.own i ds q
  have z:a≠p:=λe=>by subst e;rw[ZE]at h2;cases h2
  exact⟨a,vs,h1,by rw[K7 z]at h2;exact h2,h3,by rw[K7 z];exact h4,h5⟩
 .have zz:∀b∈fp,b≠p:=λb m e=>by subst e;have:=(w b m).1;rw[ZE]at this;cases this
  refine⟨r.upd (λ_ e=>by rw[hH]at e;cases e) (λm=>zz p m zO),λb m=>?_⟩;obtain⟨w1,w2⟩:=w b m;rw[K7 (zz b m)]at w1;exact⟨w1,w2⟩
 .obtain⟨a,vs,h1,h2,h3,h4,h5⟩:=k.own j es q
  rw[h1]at s;cases s;rw[ZE]at h2;cases h2
 .obtain⟨ω,k1,_⟩:=k.dp
  obtain⟨v',fp,s',r',_,w⟩:=k1 j pt d q;rw[s]at s';cases s';have zz:p∉fp:=λm=>by have:=(w p m).1;rw[ZE]at this;cases this
  have e:=(r'.upd (o:=u) (λ_ e=>by rw[hH]at e;cases e) zz).uniq (.refl _) r;rw[←e];exact zz
def kG  {values:zV}{prs:List (M D×M D)}(h:DPs X pos G0 keys values prs)(hall:keys.all (·.isSome)=zQ:=by rfl)(hl:keys.length=values.length:=by rfl)(h0:keys≠[]:=by simp)(h15:keys.length<=15:=by decide) :
  PE X (.Dict keys values pos) (tT X.K B G0 .dic (NX prs)):=by
 refine KZ (kL (trs:=λp=>prs.map λf=>(tD X.K (upd B p (.dK [])) G0 f.1,tD X.K (upd B p (.dK [])) G0 f.2)) (λp=>h.out _) hall hl h0 h15) λσ H Q ⟨G,Z,k,a⟩ p hp=>?_;refine E1 (k.under hp) ?_;unfold NX Ku at a
 cases z:Pc prs Z with
 |bad=>rw[z]at a;exact a.elim
 |ok ps Z1=>
  rw[z]at a;dsimp only at a;intro vs G1 H1 k1 s1 r1;unfold Kw at a;cases e1:NY ps with
  |none=>rw[e1]at a;exact a.elim
  |some d=>
  rw[e1]at a;dsimp only at a;unfold NY at e1;split at e1
  .rename_i ks hk
   split at e1
   .rename_i hc
    cases e1;have ek:=E2 hk;have hv:=r1.1;rw[ek]at hv;have hv:=hv.keys_inv;have hlen:ks.length=ps.length:=by have:=congrArg List.length ek;simpa using this.symm
    have hlv:vs.length=ks.length:=by have:=congrArg List.length hv;simpa using this
    have evs   :=by exact GF kV ks vs hv
    obtain⟨f1,f2,f3,f4,f5⟩:=k1.fillO  (k.bh.free hp) (k.g0.free (k.gh.free hp));refine⟨f3,ks.zip (vs.map (·.2)),evs,?_,?_⟩
    .rw[JG,Qb];lia
    .have em:T7 [] (ks.zip (vs.map (·.2)))=ks.zip (vs.map (·.2)):=by
      rw[Dy _ [] ?_,Qw];rw[Qw,List.map_fst_zip (by rw[Qb];lia)];exact hc.1
     rw[em];refine a (.ref p) [p] _ _ f1 s1 ⟨.dic (ks:=ks) (vs:=vs.map (·.2)) (ds:=ps.map (·.2)) ?_ (by rw[Qb];exact hlen) ZE r1.2,Mb p,λb m=>?_,λb m=>?_,λb m=>?_⟩
     .rw[←ek,El]
     .rw[Qt.mp m];exact⟨k.bh.free hp,f2⟩
     .rw[Qt.mp m];exact f4
     .rw[Qt.mp m];exact f5
   .cases e1
  .cases e1
noncomputable def Ye(x y:D):ag:=match y,YB x with
 |.dict kvs,O k=>if(kvs.all λp=>(YB p.1).isSome)=zQ then O (kvs.any λp=>decide (YB p.1=O k))else zP
 |_,_=>zP
def AH{K}{G H}{x y}{v u}{t}(sg:Same G H)(px:Rep K G v x)(py:Rep K G u y)(e:Ye x y=O t):∃a o,u=.ref a/\Xk H a v o/\o.isSome=t:=by
 unfold Ye at e;split at e
 .rename_i kvs k hk
  split at e
  .rename_i c
   cases e;have ex:=Pw hk;subst ex;have ev:=px.key_inv;subst ev;cases py with
   |@dic a h=>exact⟨a,zP,rfl,.inl ⟨[],k,.inl (sg _ _ h),rfl,rfl⟩,rfl⟩
   |exc _ _ _ _=>simp[YB]at c
   |@dct a ks vs ds _ e0 hne hl h r=>refine⟨a,Yc _ k,rfl,.inl ⟨_,k,.inl (sg _ _ h),rfl,rfl⟩,?_⟩;subst e0;rw[Na r,Nw]
   |dtt e0 hl h r=>subst e0;simp[pdD,YB]at c
  .cases e
 simp_all
def Cg(hu:X.A.units+64<cLine):OpB X (UG .In) Ye:=by refine⟨λv u H Q=>∃G x y d,Same G H/\Rep X.K G v x/\Rep X.K G u y/\Ye x y=O d/\Q _ H,?_,λv u G H x y d Q s rx ry e k=>⟨G,x,y,d,s,rx,ry,e,k⟩⟩;intro pins s σ H x y v u Q I rx ry ⟨G,dx,dy,d,sg,px,py,e,q⟩;obtain⟨a,o,rfl,g,rfl⟩:=AH sg px py e;obtain rfl:u=Value.ref a:=ry;exact d_in (by omega) I g rx λs' I'=>⟨.bl _,H,I',rfl,q⟩
def Al  {g f}{Z Z1 Z2 Z':U5}{d y e0}{k}{kvs}(h1:f Z=.ok d Z1)(q1:Z1[j]?=O (O (.deep .dic e0)))(h2:g Z1=.ok y Z2)(hk:YB y=O k)(q2:Z2[j]?=O (O (.deep .dic (.dict kvs))))(hl:kvs.length<1000)
  (h3:Z2.set j (O (.deep .dic (.dict (Wt kvs k d))))=Z'):OI j g f Z=.nx Z':=by
 unfold OI sB;simp_all
noncomputable def Vb(j:Nat)(g:M D):M D:=λZ=>match Z[j]? with
 |some (O (.deep .dic _))=>(match g Z with
  |.ok y Z2=>(match Z2[j]? with
   |some (O (.deep .dic (.dict kvs)))=>(match T3 (.dict kvs) y with
    |some d=>.ok d Z2
    |none=>.bad)
   |_=>.bad)
  |.bad=>.bad)
 |_=>.bad
def AG   (hu:X.A.units+64<cLine)(ho:PE X o (ZA j))(hi:PE X i (tD X.K B G0 g))(hs:V7 i:=by intro _ _;rfl):PE X (.Subscript o i pos) (tD X.K B G0 (Vb j g)):=
 KZ (Fs (by lia) ho hi hs) λσ H Q ⟨G,Z,k,a⟩=>by
  unfold Vb at a;split at a
  .rename_i d0 q0
   obtain⟨ω,ks1⟩:=k.slots;obtain⟨v0,fp0,bN,r0,_,_⟩:=ks1 j .dic d0 (by unfold Sq;rw[q0]);refine⟨v0,bN,G,Z,k,?_⟩;cases z:g Z with
   |bad=>rw[z]at a;exact a.elim
   |ok y Z2=>
    rw[z]at a;dsimp only at a;intro kv G' H' k' s' r';split at a
    .rename_i kvs q2
     split at a
     .rename_i d e
      obtain⟨ω2,bY⟩:=k'.slots;obtain⟨v2,fp2,hv2,r2,nd2,w2⟩:=bY j .dic _ (by unfold Sq;rw[q2]);rw[bN]at hv2;cases hv2;unfold T3 at e;split at e
      .rename_i kvs' ky hx hk
       cases hx;have ey:=Pw hk;subst ey;have ekv:=r'.key_inv;subst ekv;cases r2 with
       |@dic ad ks vs ds _ e0 hl h rr=>subst e0;obtain⟨w,hw,ay⟩:=MY rr e;exact⟨ad,w,rfl,.inl ⟨_,ky,.inl h,rfl,hw.symm⟩,a w G' H' k' s' ay⟩
      .cases e
     .exact a.elim
    .exact a.elim
  .exact a.elim
noncomputable def Xz(b:Bool)(j:Nat)(g:M D):M Bool:=λZ=>match g Z with
 |.ok y Z2=>(match Z2[j]? with
  |some (O (.deep .dic (.dict kvs)))=>(match Ye y (.dict kvs)with
   |some t=>.ok (t==b) Z2
   |none=>.bad)
  |_=>.bad)
 |.bad=>.bad
def GC  {b}{g}{σ:St}{H:Hp}{Q}(q:tBo X.K B G0 (Xz b j g) σ H Q):tD X.K B G0 g σ H λy H1=>ZA j σ H1 λx H2=>∃a o,x=.ref a/\Xk H2 a y o/\Q (o.isSome==b) H2:=by
 obtain⟨G,Z,k,a⟩:=q;refine⟨G,Z,k,?_⟩;unfold Xz at a;cases z:g Z with
 |bad=>rw[z]at a;exact a.elim
 |ok y Z2=>
  rw[z]at a;dsimp only at a;intro kv G' H' k' s' r';split at a
  .rename_i kvs q2
   split at a
   .rename_i t e
    obtain⟨ω2,bY⟩:=k'.slots;obtain⟨v2,fp2,hv2,r2,nd2,w2⟩:=bY j .dic _ (by unfold Sq;rw[q2]);refine⟨v2,hv2,?_⟩;unfold Ye at e;split at e
    .rename_i kvs' ky hx hk
     cases hx;split at e
     .cases e
      have ey:=Pw hk;subst ey;have ekv:=r'.key_inv;subst ekv;cases r2 with
      |@dic ad ks vs ds _ e0 hl h rr=>subst e0;refine⟨ad,Yc _ ky,rfl,.inl ⟨_,ky,.inl h,rfl,rfl⟩,?_⟩;rw[Na rr,Nw]at a;exact a _ G' H' k' s' zO
     .cases e
    .cases e
   .exact a.elim
  .exact a.elim
def tM.mono{K}{B G0}{α γ}{R}{f:M α}{σ}{H}{P Q:γ->Hp->Prop}(h:tM K B G0 R f σ H P)(i:∀v H1,P v H1->Q v H1):tM K B G0 R f σ H Q:=by
 obtain⟨G,Z,k,a⟩:=h;refine⟨G,Z,k,?_⟩;cases z:f Z with
 |bad=>rw[z]at a;exact a
 |ok d Z'=>rw[z]at a;exact λv G' H' k' s' r=>i _ _ (a v G' H' k' s' r)
def AF  {g}(hu:X.A.units+64<cLine)(hi:PE X i (tD X.K B G0 g))(ho:PE X o (ZA j))(hm:behindInMarks .In o=zR:=by first|exact Ny _ (by decide) (by decide)|rfl):PT X (.Compare i [.In] [o] pos) (tBo X.K B G0 (Xz zQ j g)):=
 YK (OZ (BP (by lia) hi ho) hm) λσ H Q q=>tM.mono (GC q) λy H1 ⟨x,hx,a,ov,e1,e2,e3⟩=>⟨x,hx,a,ov,e1,e2,_,rfl,by simp_all⟩
def kF  {g}(hu:X.A.units+64<cLine)(hi:PE X i (tD X.K B G0 g))(ho:PE X o (ZA j))(hm:behindInMarks .NotIn o=zR:=by first|exact Ny _ (by decide) (by decide)|rfl):PT X (.Compare i [.NotIn] [o] pos) (tBo X.K B G0 (Xz zR j g)):=
 YK (OZ (wF (by lia) hi ho) hm) λσ H Q q=>tM.mono (GC q) λy H1 ⟨x,hx,a,ov,e1,e2,e3⟩=>⟨x,hx,a,ov,e1,e2,_,rfl,by simp_all⟩
def AE   {Z Z1}{e0 y d}{kvs:List (D×D)}(q0:Z[j]?=O (O (.deep .dic e0)))(h:g Z=.ok y Z1)(q1:Z1[j]?=O (O (.deep .dic (.dict kvs))))(h2:T3 (.dict kvs) y=O d):Vb j g Z=.ok d Z1:=by unfold Vb;simp_all
def Of  {b t}{g}{Z Z1}{y}{kvs:List (D×D)}(h:g Z=.ok y Z1)(q1:Z1[j]?=O (O (.deep .dic (.dict kvs))))(h2:Ye y (.dict kvs)=O t):Xz b j g Z=.ok (t==b) Z1:=by unfold Xz;simp_all
end
end DL
namespace L2
open PySem PySem.Spec PyProof.Rows PySem.Calls PyProof.V
end L2
namespace DL
open PySem PySem.Spec L2
open PyProof.Rows hiding St
noncomputable def tgN:UC->List Str
 |.Name x _=>[x]
 |.Tuple [.Name x _] _ _=>[x]
 |.Tuple [.Name x _,.Name y _] _ _=>[x,y]
 |.Tuple [.Name x _,.Name y _,.Name z _] _ _=>[x,y,z]
 |.Tuple [.Name x _,.Name y _,.Name z _,.Name u _] _ _=>[x,y,z,u]
 |_=>[]
noncomputable def adN(vs:List Str):List Str->List Str
 |[]=>vs
 |x::r=>adN (if vs.elem x then vs else vs++[x]) r
def SQ(vs:List Str):List Comprehension->List Str
 |[]=>vs
 |⟨tg,_,_,_⟩::r=>SQ (adN vs (tgN tg)) r
noncomputable def dotN(x:Str):Str:=("." : Str)++x
def blN(N:List Str)(gs:List Comprehension):List Str:=N.map (λx=>if(SQ [] gs).elem x then dotN x else x)++SQ [] gs
noncomputable def glN(sc:Scope):List Str:=sc.names.filterMap λy=>match y.2 with | .globalImplicit=>O y.1|_=>zP
abbrev NmF(s:Stmt)(N:List Str):Prop:=FnNm (Yw s) N (glN (Yw s))
noncomputable def mq{α:Type}{l:List α}{x:α}(n:Nat)(h:l[n]?=O x):x∈l:=Qr h
section
variable{sc:Scope}{N gl:List Str}{x:Str}
noncomputable def gA(H:FnNm sc N gl)(h:gl.elem x=zQ):sc.names.lookup x=O .globalImplicit:=H.gl x (by simp_all)
end
section
variable{X:Cx}{B G0:Hp}{KX:XW}{e e1 e2 o a b c i:UC}{gl:List Str}{pos p2:Pos}{x:Str}{j:Nat}
def Cf(H:FnNm X.env.scope X.N gl)(hi:X.N[j]?=O x:=by rfl)(hf:X.fn x=zQ∨X.env.scope.names.lookup x=O .local:=by first|exact .inl rfl|exact .inr rfl|assumption):PG X (.Name x pos) (tG X.K B G0 (gN j)):=VE (VG H.nd hi (lq H j hi) hf)
def Ak{N'}{scope}{cl}{C}{s₀}{H₀}{ex}(hN:N'.Nodup:=by decide +kernel)(hi:N'[j]?=O x:=by rfl)(hl:locK (scope.names.lookup x)=zQ:=by rfl):PG (X.blk N' scope cl C s₀ H₀ ex) (.Name x pos) (tG X.K B G0 (gN j)):=VE (VG hN hi (Pm hl).1 (Pm hl).2)
def aSet  (H:FnNm X.env.scope X.N gl)(he:PE X e (tD X.K B G0 f))(hi:X.N[j]?=O x:=by rfl)(hs:swapsWith e (O (.Name x p2)) pos.line X.env=pure zR:=by rfl)
  (hf:X.fn x=zQ∨X.env.scope.names.lookup x=O .local:=by first|exact .inl rfl|exact .inr rfl|assumption):PS X (.Assign [.Name x p2] e pos) (tS X.K B G0 KX (Kj j f)):=Ae H.nd hi (lq H j hi) he hs hf
def Hh  (H:FnNm X.env.scope X.N gl)(he:PE X e (tL X.K B G0 f))(hi:X.N[j]?=O x:=by rfl)(hs:swapsWith e (O (.Name x p2)) pos.line X.env=pure zR:=by rfl)
  (hf:X.fn x=zQ∨X.env.scope.names.lookup x=O .local:=by first|exact .inl rfl|exact .inr rfl|assumption):PS X (.Assign [.Name x p2] e pos) (tS X.K B G0 KX (Zn j f)):=Fy H.nd hi (lq H j hi) he hs hf
def Ce  {pt}(H:FnNm X.env.scope X.N gl)(he:PE X e (tT X.K B G0 pt f))(hi:X.N[j]?=O x:=by rfl)(hs:swapsWith e (O (.Name x p2)) pos.line X.env=pure zR:=by rfl)
  (hf:X.fn x=zQ∨X.env.scope.names.lookup x=O .local:=by first|exact .inl rfl|exact .inr rfl|assumption):PS X (.Assign [.Name x p2] e pos) (tS X.K B G0 KX (RW j pt f)):=AM H.nd hi (lq H j hi) he hs hf
def aAug    {pos'}(H:FnNm X.env.scope X.N gl)(ho:IpD X op p)(he:PE X e (tD X.K B G0 f))(hi:X.N[j]?=O x:=by rfl)(hf:X.fn x=zQ∨X.env.scope.names.lookup x=O .local:=by first|exact .inl rfl|exact .inr rfl|assumption):PS X (.AugAssign (.Name x pos') op e pos) (tS X.K B G0 KX (Ws p j f)):=BY H.nd hi (lq H j hi) ho he hf
def Cd  {tg elt iter}{ifs}{gs}{scope}{f}{s}{t}{rd}{F}{k}{SC}{N1}(H:FnNm SC N1 gl)(le:∀Z es Z',F Z=.ok es Z'->dCG l f k s t rd Z=.ok es Z')(hc:X.calm=zQ)
  (hi:PI X tg iter (iD X.K B G0 f)) (ah:YA X (blN N1 (⟨tg,iter,ifs,0⟩::gs)) scope (.ListComp elt (⟨tg,iter,ifs,0⟩::gs) scope pos) tg ifs s t rd) (hb:Vz T4 SC scope N1 (blN N1 (⟨tg,iter,ifs,0⟩::gs)) k=zQ) (h1:X.env.scope=SC:=by rfl) (h2:X.N=N1:=by rfl) (hs:∀x,UV iter X.env x=pure x:=by intro _;rfl) :
  PE X (.ListComp elt (⟨tg,iter,ifs,0⟩::gs) scope pos) (tL X.K B G0 F):=Bx _ _ _ k le hc hi ah h1 h2 hb hs
def Cc   {py spos:Pos}{tg elt iter:UC}{ifs}{gs}{scope:Scope}{f}{s}{t}{rd:RdB}{F}{k:Nat}{SC:Scope}{N1}(H:FnNm SC N1 gl)(le:∀Z es Z',F Z=.ok es Z'->dCG l f k s t rd Z=.ok es Z')(hc:X.calm=zQ)
  (hi:PI X tg iter (iD X.K B G0 f)) (ah:YA X (blN N1 (⟨tg,iter,ifs,0⟩::gs)) scope (.ListComp elt (⟨tg,iter,ifs,0⟩::gs) scope pos) tg ifs s t rd) (hb:Vz T4 SC scope N1 (blN N1 (⟨tg,iter,ifs,0⟩::gs)) k=zQ) (hj:N1[j]?=O y:=by rfl) (hy:SC.names.lookup y=O .local:=by rfl) (h1:X.env.scope=SC:=by rfl) (h2:X.N=N1:=by rfl) (hs:∀x,UV iter X.env x=pure x:=by intro _;rfl)
  (hsw:swapsWith (.ListComp elt (⟨tg,iter,ifs,0⟩::gs) scope pos) (O (.Name y py)) spos.line X.env=pure zQ:=by rfl) :
  PS X (.Assign [.Name y py] (.ListComp elt (⟨tg,iter,ifs,0⟩::gs) scope pos) spos) (tS X.K B G0 KX (Zn j F)):=sD_1 _ _ _ k le (h2 ▸ H.nd) (h2 ▸ hj) (h1 ▸ hy) hc hi ah h1 h2 hb hs hsw
def Aj        {N2}{tg elt iter}{ifs}{gs}{scope}{f}{s}{t}{rd}{F}{k}(le:∀Z es Z',F Z=.ok es Z'->dCG l f k s t rd Z=.ok es Z')(hc:X.calm=zQ)
  (hi:PI (X.blk N2 scope0 cl C s₀ H₀ ex) tg iter (iD X.K B G0 f)) (ah:YA (X.blk N2 scope0 cl C s₀ H₀ ex) (blN N2 (⟨tg,iter,ifs,0⟩::gs)) scope (.ListComp elt (⟨tg,iter,ifs,0⟩::gs) scope pos) tg ifs s t rd) (hb:Vz T4 scope0 scope N2 (blN N2 (⟨tg,iter,ifs,0⟩::gs)) k=zQ) (hs:∀x,UV iter (X.blk N2 scope0 cl C s₀ H₀ ex).env x=pure x:=by intro _;rfl) :
  PE (X.blk N2 scope0 cl C s₀ H₀ ex) (.ListComp elt (⟨tg,iter,ifs,0⟩::gs) scope pos) (tL X.K B G0 F):=Aa _ k le hc hi ah hb hs
end
end DL
namespace DL
open PySem PySem.Spec L2
open PyProof.Rows hiding St
open Builtin Builtin.Str
end DL
namespace DL
open PySem PySem.Spec L2
open PyProof.Rows hiding St
end DL
namespace DL
open PySem PySem.Spec L2
open PyProof.Rows hiding St
open PySem.SeqRoads2 PySem.SeqAt
end DL
namespace DL
open PySem PySem.Spec L2
open PyProof.Rows hiding St
end DL
namespace L2
open PySem PySem.Spec PyProof.Rows
end L2
namespace DL
open PySem PySem.Spec L2
open PyProof.Rows hiding St
end DL
namespace DL
open PySem PySem.Spec L2
open PyProof.Rows hiding St
open PySem.SeqRoads2 PySem.SeqAt
theorem GB:∀{ts:List Bool}{us}{i:Nat}{v},Vals (ts.map V.bl) us->us[i]?=O v->∃x,ts[i]?=O x/\v=.bool x
 |[],_,_,_,.nil,e=>by cases e
 |x::ts,_,0,_,.cons h _,e=>by cases e;cases h;exact⟨x,rfl,rfl⟩
 |x::ts,_,i+1,_,.cons _ r,e=>GB (i:=i) r e
end DL
namespace DL
open PySem PySem.Spec L2
open PyProof.Rows hiding St
section
variable{X:Cx}{B G0:Hp}{KX:XW}{e e':UC}{es es':zV}{st st':Stmt}{sts bv:List Stmt}{pos p2:Pos}{x:Str}{j:Nat}{gl:List Str}
def kE  (q:st::sts=bv)(h1:PS X st (tS X.K B G0 KX g))(h2:PSs X sts (tS X.K B G0 KX h)):PSs X bv (tS X.K B G0 KX (U3 g h)):=q ▸ Pn h1 h2
def C3  (q:Stmt.Assign [.Name x p2] e pos=st')(H:FnNm X.env.scope X.N gl)(he:PE X e (tL X.K B G0 f))(hi:X.N[j]?=O x:=by rfl)(hs:swapsWith e (O (.Name x p2)) pos.line X.env=pure zR:=by rfl)
  (hf:X.fn x=zQ∨X.env.scope.names.lookup x=O .local:=by first|exact .inl rfl|exact .inr rfl|assumption):PS X st' (tS X.K B G0 KX (Zn j f)):=q ▸ Hh H he hi hs hf
def kC  (q:Expr.List es pos=e')(h:PA X es (tDs X.K B G0 f)):PE X e' (tL X.K B G0 (Ku f λxs=>if xs.length<=1000000 then U2 xs else λ_=>.bad)):=q ▸ Fx h
def xY   (q:e::es=es')(ha:PE X e (tD X.K B G0 f))(hr:PA X es (tDs X.K B G0 g))(hs:UF (e::es) X.env=(zR,eval e X.env)::UF es X.env:=by rfl):PA X es' (tDs X.K B G0 (UZ f g)):=q ▸ Wk ha hr hs
end
def EOk.publishD{K:Frag}{B G0 G H:Hp}{σ:St}{Z:U5}{i:Nat}{d:D}(k:EOk K B G0 G H σ Z)(h:Z[i]?=O (O (.deep .dic d))) :
  ∃a G',σ[i]?=O (O (.ref a))/\Same G G'/\Rep K G' (.ref a) d/\EOk K B G0 G' H σ (Z.set i (O (.pub d))):=by
 obtain⟨ω,k1,k2⟩:=k.dp;obtain⟨v,fp,h1,r,nd,w⟩:=k1 i _ _ h;have hl:i<Z.length:=(Qg.mp h).1;cases r with
 |@dic a ks vs ds kvs e hl' hH hr=>
 obtain⟨h2,h3,hω⟩:=w a Ql;have sg:Same G (upd G a (.dK (ks.zip vs))):=Z7 h3
 have rr:Rep K (upd G a (.dK (ks.zip vs))) (.ref a) (.dict kvs):=by
  cases ks with
  |nil=>subst e;exact .dic ZE
  |cons q ks=>exact .dct e (by simp) hl' ZE (hr.mono sg)
 have nz:∀{m:Nat}{s:Sl},(Z.set i (O (Sl.pub (.dict kvs))))[m]?=O (O s)->(i=m/\s=.pub (.dict kvs))∨(i≠m/\Z[m]?=O (O s)):=λ{m s} q=>by
  by_cases z:i=m
  .subst z
   rw[QW hl]at q;cases q;exact .inl ⟨rfl,rfl⟩
  .rw[Qq z]at q;exact .inr ⟨z,q⟩
 refine⟨a,upd G a _,h1,sg,rr,⟨k.bh,λb u q=>?_,k.g0.trans sg,λb o q n=>?_,by rw[Jf];exact k.len,λj d q=>?_,λj es q=>?_,λj l c es fs q1 q2 s1 s2=>?_,?_⟩⟩
 .by_cases z:b=a
  .subst z;rw[ZE]at q;cases q;exact hH
  .rw[K7 z]at q;exact k.gh b u q
 .have z:b≠a:=λz=>by subst z;rw[h2]at q;cases q
  rw[K7 z];exact k.np b o q n
 .rcases nz q with ⟨rfl,e⟩|⟨_,q⟩
  .cases e
   exact⟨.ref a,h1,rr⟩
  .obtain⟨v,g1,g2⟩:=k.pub j d q
   exact⟨v,g1,g2.mono sg⟩
 .rcases nz q with ⟨_,e⟩|⟨zi,q⟩
  .cases e
  .obtain⟨b,ws,g1,g2,g3,g4,g5⟩:=k.own j es q
   have zb:b≠a:=λe=>zi (by rw[←hω,←e];exact k2 j es b q g1)
   exact⟨b,ws,g1,g2,by rw[K7 zb];exact g3,g4,g5.mono sg⟩
 .rcases nz q1 with ⟨_,e⟩|⟨_,q1⟩
  .cases e
  .rcases nz q2 with ⟨_,e⟩|⟨_,q2⟩
   .cases e
   .exact k.sep j l c es fs q1 q2 s1 s2
 .refine⟨ω,λm p d q=>?_,λm es b q s=>?_⟩
  .rcases nz q with ⟨_,e⟩|⟨zi,q⟩
   .cases e
   .obtain⟨v,fp,s,r,n,w2⟩:=k1 m p d q
    exact⟨v,fp,s,r.mono sg (.refl _),n,λb mb=>⟨(w2 b mb).1,by rw[K7 (λz=>zi (by rw[←hω,←z];exact(w2 b mb).2.2))];exact(w2 b mb).2.1,(w2 b mb).2.2⟩⟩
  .rcases nz q with ⟨_,e⟩|⟨_,q⟩
   .cases e
   .exact k2 m es b q s
noncomputable def PN(i:Nat):M D:=λZ=>match Z[i]? with
 |some (O (.deep .dic d))=>.ok d (Z.set i (O (.pub d)))
 |_=>.bad
section
variable{X:Cx}{B G0:Hp}{e:UC}
def AD  (h:PE X e (ZA i)):PE X e (tD X.K B G0 (PN i)):=KZ h λσ H Q ⟨G,Z,k,a⟩=>by
 unfold PN at a;split at a
 .rename_i d q
  obtain⟨ad,G',h1,h2,h3,h4⟩:=k.publishD q;exact⟨.ref ad,h1,a _ G' H h4 h2 h3⟩
 .exact a.elim
def AC  {Z Z':U5}{d}(h:Z[i]?=O (O (.deep .dic d)))(h2:Z.set i (O (.pub d))=Z'):PN i Z=.ok d Z':=by unfold PN;simp_all
end
section
variable{X:Cx}{B G0:Hp}{KX:XW}{a b e e':UC}{es es':zV}{st st':Stmt}{sts bv:List Stmt}{pos p2:Pos}{x:Str}{j:Nat}{gl:List Str}
def Cb  (q:Stmt.Assign [.Name x p2] e pos=st')(H:FnNm X.env.scope X.N gl)(he:PE X e (tD X.K B G0 f))(hi:X.N[j]?=O x:=by rfl)(hs:swapsWith e (O (.Name x p2)) pos.line X.env=pure zR:=by rfl)
  (hf:X.fn x=zQ∨X.env.scope.names.lookup x=O .local:=by first|exact .inl rfl|exact .inr rfl|assumption):PS X st' (tS X.K B G0 KX (Kj j f)):=q ▸ aSet H he hi hs hf
def kB  (q:Expr.List es pos=e')(h:PA X es (tDs X.K B G0 f)):PE X e' (tD X.K B G0 (KS f)):=q ▸ MH h
def kA   (q:Expr.Tuple es x1 pos=e')(h:PA X es (tDs X.K B G0 f)):PE X e' (tD X.K B G0 (KN f)):=q ▸ O6 h
def HG    (o:OpD X (binaryOp op) p)(q:Expr.BinOp a op b pos=e')(ha:PE X a (tD X.K B G0 f))(hb:PE X b (tD X.K B G0 g)):PE X e' (tD X.K B G0 (U1 p f g)):=q ▸ TZ o ha hb
end
section
variable{X:Cx}
def kz(hc:X.calm=zQ):Xn X (.builtin "any") (λxs H Q=>∃l,∃bs:List Bool,xs=[.ref l]/\SqL X.K H l (bs.map V.bl)/\Q (.bl (bs.any id)) H):=by
 intro pins s σ H xs us Q I rx h;obtain⟨l,bs,rfl,hq,q⟩:=h;obtain⟨u,rfl,ru⟩:=rx.one;cases ru;obtain⟨its,rv,p,hz⟩:=I.list hq;have hl:=p.isList;have hlt:l<s.heap.objs.size:=by obtain⟨_,e,_⟩:=id hl;exact Qh e
 have hn:its.toArray.size=bs.length:=by have:=rv.length;rw[List.length_map]at this;simp;lia
 refine call_any_walk (JA hl ?_)
 refine⟨s.heap.objs.size,[s.heap.objs.size,l],[s.heap.objs.size],its.toArray.size,_,_,λi=>(bs[i]?).getD zQ,rfl,Walks.list (A:=X.A.in1) (I.ok.hd hc) _ l (QZ hlt) its.toArray,
  ⟨⟨_,QF _ zO,rfl,rfl⟩,hl.push _⟩,λi v s' Q' E' hP hQ=>?_,λh' tk hk=>?_⟩
 .obtain⟨x,e1,e2⟩:=GB rv (show its[i]?=O v by simpa using hP)
  subst e2;simp only[e1]at hQ;exact Q3 hQ
 .have e:((UH its.toArray.size).any λi=>(bs[i]?).getD zQ)=bs.any id:=by
   rw[hn,JU,J7,J7];constructor
   .rintro⟨i,hi,h⟩
    have hi':=QE.mp hi;simp only[Qe hi']at h;exact⟨_,JI hi',h⟩
   .rintro⟨b,hb,h⟩
    obtain⟨i,hi,e⟩:=List.getElem_of_mem hb;refine⟨i,QE.mpr hi,?_⟩;simp only[Qe hi,e];exact h
  rw[e];exact⟨.bl _,H,I.kept (t':=tk) λb x e=>hk b x (λhm=>by rw[Qt.mp hm]at e;exact Jp _ (Qh e)) (Qj _ e),rfl,q⟩
noncomputable def Wx:zS->zU
 |[.list ds]=>(VD ds).map λbs=>.bool (bs.any id)
 |_=>zP
def Ca(hc:X.calm=zQ):Xr X (.builtin "any") Wx:=by
 refine⟨_,kz hc,λvs G H ds d Q s r e k=>?_⟩;unfold Wx at e;split at e
 .rename_i ds
  cases z:VD ds with
  |none=>simp_all
  |some bs=>rw[z]at e;cases e;obtain⟨v,rfl,q⟩:=r.one_inv;obtain⟨l,ws,rfl,h1,r1⟩:=q.lst_inv;have:=LV r1 z;subst this;exact⟨l,bs,rfl,s.seq h1,k _ G H (.refl s) (.bl _)⟩
 simp_all
def GA{bs:List Bool}:Wx [.list (bs.map UK)]=O (.bool (bs.any id)):=by unfold Wx;dsimp only;rw[DD];rfl
end
end DL
namespace L2
open PySem PySem.Spec PyProof.Rows PySem.Calls PyProof.V
end L2
namespace DL
open PySem PySem.Spec L2
open PyProof.Rows hiding St
end DL
namespace L2
open PySem PySem.Spec PyProof.Rows
end L2
namespace DL
open PySem PySem.Spec L2
open PyProof.Rows hiding St
end DL
namespace L2
open PySem PySem.Spec PyProof.Rows
end L2
namespace DL
open PySem PySem.Spec L2
open PyProof.Rows hiding St
end DL
namespace DL
open PySem PySem.Spec L2
open PyProof.Rows hiding St
open Builtin Builtin.Str
end DL
namespace DL
open PySem PySem.Spec L2
open PyProof.Rows hiding St
noncomputable def SL(i:Nat)(o:Out):Out:=match o with
 |.nx Z=>match Z[i]? with
  |some (O (.own ds))=>.nx (Z.set i (O (.pub (.list ds))))
  |_=>.bad
 |_=>.bad
noncomputable def Wr(i:Nat)(g:SM):SM:=λZ=>SL i (g Z)
section
variable{X:Cx}{B G0:Hp}{KX:XW}{st:Stmt}
def C2(h:PS X st (tS X.K B G0 KX g)):PS X st (tS X.K B G0 KX (Wr i g)):=
 ZS h λD σ H ⟨G,Z,k,a⟩=>by
  refine⟨G,Z,k,?_⟩;unfold Wr SL at a;generalize g Z=o at a;cases o with
  |nx Z1=>
   dsimp only at a;split at a
   .rename_i ds e
    intro σ' G' H' k' s';obtain⟨x,G2,_,sg,_,k2⟩:=k'.publish e;exact a σ' G2 H' k2 (s'.trans sg)
   .exact a.elim
  |_=>exact a.elim
def C1{g:SM}(h:g Z=.nx Z1)(e:Z1[i]?=O (O (.own ds)))(e2:Z1.set i (O (.pub (.list ds)))=Z2):Wr i g Z=.nx Z2:=by unfold Wr SL;rw[h];dsimp only;rw[e];dsimp only;rw[e2]
end
section
open PySem.W
variable{p q:Uz}
def Kk{loose}{mean}{mg mb}{h}{ix}(P)(w)(base){ps}{k n:Nat}{F}(T:Top q loose mean mg mb h)(e:recsOf q=Pd p ix)(i:Nat)(x)
  (ok:∀{f}{fd},Fun (whole h) x x (ZG p i) f fd->FnOk P w (whole h) mg base CX0 k f fd ps (spD (whole h) n F)) (hi:ix.contains i=zQ:=by rfl) (hn:O1 (ZG p i)=O x:=by rfl)
  (hb:∀(kV doc pm)(an)(cdv ct)(us),us.length=ps.length->bindArgs (PySem.W.fnOf x x (SA (ZG p i)) (VF (ZG p i)) (Yw (ZG p i)) .none kV doc pm an cdv ct) ⟨us,[]⟩=pure (ps.zip us):=by first|exact λ_ _ _ _ _ _ us hl=>bz1 (us:=us) hl λ_=>rfl|exact λ_ _ _ _ _ _ us hl=>bz2 (us:=us) hl λ_ _=>rfl|exact λ_ _ _ _ _ _ us hl=>bz3 (us:=us) hl λ_ _ _=>rfl|exact λ_ _ _ _ _ _ us hl=>bz4 (us:=us) hl λ_ _ _ _=>rfl|exact λ_ _ _ _ _ _ us hl=>bz5 (us:=us) hl λ_ _ _ _ _=>rfl):Def P w (whole h) mg base x k n F:=Cm P w base T e i x hi hn ok hb
end
end DL
namespace W
open PySem PySem.Spec L2 DL
open PyProof.Rows hiding St
noncomputable def top(i:Nat):Stmt:=PySem.Challenge.pw_wishdeal_k63_whole_webs_put_together.main.body.getD i (.Pass ⟨0,0,0,0⟩)
abbrev GG(s:Stmt)(x:Str):Prop:=(Yw s).names.lookup x=O NameKind.globalImplicit
abbrev VV(s:Stmt)(x:Str):Prop:=L2.Vis (Yw s) x
abbrev LL(s:Stmt)(x:Str):Prop:=L2.Loc (Yw s) x
def vk{s:Stmt}{x:Str}(h:(Yw s).names.lookup x=O .local∨(Yw s).names.lookup x=O .cell∨(Yw s).names.lookup x=O .free):VV s x:=h
def lk{s:Stmt}{x:Str}(h:(Yw s).names.lookup x=O .local∨(Yw s).names.lookup x=O .cell):LL s x:=h
structure Txt(K:Frag)(mg:Str->zY):Prop where
 b_all:mg "all" = zP
 b_any:mg "any" = zP
 b_bool:mg "bool" = zP
 b_enumerate:mg "enumerate" = zP
 b_int:mg "int" = zP
 b_isinstance:mg "isinstance" = zP
 b_len:mg "len" = zP
 b_list:mg "list" = zP
 b_max:mg "max" = zP
 b_range:mg "range" = zP
 b_set:mg "set" = zP
 b_sorted:mg "sorted" = zP
 b_str:mg "str" = zP
 b_sum:mg "sum" = zP
 b_tuple:mg "tuple" = zP
 b_zip:mg "zip" = zP
 c_MOST_ASKERS:∃t,mg "MOST_ASKERS" = O (Value.int 7 t)
 c_MOST_COPIES:∃t,mg "MOST_COPIES" = O (Value.int 7 t)
 c_MOST_RANKS:∃t,mg "MOST_RANKS" = O (Value.int 5 t)
 c_MOST_THINGS:∃t,mg "MOST_THINGS" = O (Value.int 6 t)
 c_ORDERS:∃ad o its n,mg "ORDERS" = O (.ref ad)/\K.lookup ad=O o/\o.cls=.type "tuple" /\ o.data=.seq its n/\its.size<=UD/\Vals ((["firsts", "full", "lasts"]:List Str).map V.str) its.toList
abbrev Scm:Stmt:=top 87
noncomputable abbrev N_cm:List Str:=["_law_script", "_law_k"]
def Hcm:NmF Scm N_cm:=KO (by decide +kernel)
def g_cm:SM:=
 U3 (sIf (Zp (oIB λi j=>decide (i<j)) 1 (Zk 0))
 (Kc (U8 0 (UW 1)))
 (sNx))
 (Kc (U2 (.int 0)))
def X6:zS->zU:=Ki N_cm g_cm
abbrev Sbi:Stmt:=top 51
noncomputable abbrev N_bi:List Str:=["dealings", "asks"]
def Hbi:NmF Sbi N_bi:=KO (by decide +kernel)
def g_bi:SM:=
 Kc (Zb ZK (UZ (Kb UJ (Za (YR (UZ (UW 1) (UY))) 2 (gT 2 (gNC (gN 2) (gNC (gN 3) (gN0)))) (U2 zQ) (Xf (Kb UK (Zp (oIB λi j=>decide (j<i)) 3 (U2 (.int 0)))) (Kb UK (U1 oIn (U2 .none) (Kb UJ (Za (K4 (UW 0)) 1 (gN 4) (U2 zQ) (U8 4 (UW 2))))))))) (UY)))
def TB:zS->zU:=Ki N_bi g_bi
abbrev Saa:Stmt:=top 1
noncomputable abbrev N_aa:List Str:=["thing"]
def Haa:NmF Saa N_aa:=KO (by decide +kernel)
def g_aa:SM:=
 Kc (Wm (Kb (λd=>.bool (K2 d "int")) (UW 0)) (OG (Kb (λd=>.bool (K2 d "bool")) (UW 0))))
def Yr:zS->zU:=Ki N_aa g_aa
abbrev Sae:Stmt:=top 5
noncomputable abbrev N_ae:List Str:=["thing", "many"]
def Hae:NmF Sae N_ae:=KO (by decide +kernel)
def g_ae:SM:=
 Kc (Wm (U7 1 Yr (UZ (UW 0) (UY))) (Kb UK (Pf (oIB λi j=>decide (i<=j)) (oIB λi j=>decide (i<j)) (U2 (.int 0)) (UW 0) (UW 1))))
def Yq:zS->zU:=Ki N_ae g_ae
abbrev Sag:Stmt:=top 16
noncomputable abbrev N_ag:List Str:=["thing", "things"]
def Hag:NmF Sag N_ag:=KO (by decide +kernel)
def g_ag:SM:=
 U3 (sIf (mOr (KF (Zq (Kb (λd=>.bool (K2 d "list")) (UW 0)))) (U1 oEq (Zk 0) (U2 (.int 0))))
 (Kc (U2 (.bool zR)))
 (sNx))
 (Kc (Zb ZK (UZ (Kb UJ (Za (K4 (UW 0)) 1 (gN 2) (U2 zQ) (U7 2 Yq (UZ (UW 2) (UZ (UW 1) (UY)))))) (UY))))
def Vp:zS->zU:=Ki N_ag g_ag
abbrev Sah:Stmt:=top 17
noncomputable abbrev N_ah:List Str:=["thing", "things", "wished"]
def Hah:NmF Sah N_ah:=KO (by decide +kernel)
def RN:SM:=
 U3 (sIf (mOr (KF (Zq (Kb (λd=>.bool (K2 d "list")) (UW 0)))) (U1 (oIB λi j=>decide (j<i)) (Zk 0) (U2 (.int 5))))
 (Kc (U2 (.bool zR)))
 (sNx))
 (U3 (sIf (KF (Zq (Zb ZK (UZ (Kb UJ (Za (K4 (UW 0)) 1 (gN 3) (U2 zQ) (U7 2 Vp (UZ (UW 3) (UZ (UW 1) (UY)))))) (UY)))))
 (Kc (U2 (.bool zR)))
 (sNx))
 (U3 (Zn 2 (P5 (K4 (UW 0)) 2 (gN 3) (U2 zQ) (K4 (UW 3)) (gN 4) (U2 zQ) (UW 4)))
 (Kc (Kb UK (U1 oEq (Zb VR (UZ (UW 2) (UY))) (Zk 2))))))
def TR:zS->zU:=Ki N_ah RN
abbrev Sai:Stmt:=top 18
noncomputable abbrev N_ai:List Str:=["lists", "things", "asker", "ranks"]
def Hai:NmF Sai N_ai:=KO (by decide +kernel)
def AB:SM:=
 sIf (KF (Zq (U7 2 TR (UZ (UW 3) (UZ (UW 1) (UY))))))
 (VC)
 (sNx)
def RM:SM:=
 U3 (sIf (mOr (KF (Zq (Kb (λd=>.bool (K2 d "list")) (UW 0)))) (KF (Pf (oIB λi j=>decide (i<=j)) (oIB λi j=>decide (i<=j)) (U2 (.int 1)) (Zk 0) (U2 (.int 7)))))
 (VC)
 (sNx))
 (KH (YR (UZ (UW 0) (UY))) (gT 2 (gNC (gN 2) (gNC (gN 3) (gN0)))) AB)
def TQ:zS->zU:=Ki N_ai RM
abbrev Saf:Stmt:=top 15
noncomputable abbrev N_af:List Str:=["copies", "number", "many"]
def Haf:NmF Saf N_af:=KO (by decide +kernel)
def Gz:SM:=
 sIf (KF (Zq (U7 2 Yq (UZ (UW 2) (UZ (U1 Kg (U2 (.int 7)) (U2 (.int 1))) (UY))))))
 (VC)
 (sNx)
def RO:SM:=
 U3 (sIf (mOr (KF (Zq (Kb (λd=>.bool (K2 d "list")) (UW 0)))) (KF (Pf (oIB λi j=>decide (i<=j)) (oIB λi j=>decide (i<=j)) (U2 (.int 1)) (Zk 0) (U2 (.int 6)))))
 (VC)
 (sNx))
 (KH (YR (UZ (UW 0) (UY))) (gT 2 (gNC (gN 1) (gNC (gN 2) (gN0)))) Gz)
def TU:zS->zU:=Ki N_af RO
abbrev Saj:Stmt:=top 19
noncomputable abbrev N_aj:List Str:=["thing", "copies", "lists"]
def Haj:NmF Saj N_aj:=KO (by decide +kernel)
def g_aj:SM:=
 U3 (sIf (mOr (KF (Zq (Kb (λd=>.bool (K2 d "tuple")) (UW 0)))) (U1 oNe (Zk 0) (U2 (.int 2))))
 (VC)
 (sNx))
 (U3 (Zc (UW 0) (gT 2 (gNC (gN 1) (gNC (gN 2) (gN0)))))
 (U3 (XI (U7 1 TU (UZ (UW 1) (UY))))
 (XI (U7 2 TQ (UZ (UW 2) (UZ (Zk 1) (UY)))))))
def Yi:zS->zU:=Ki N_aj g_aj
abbrev Sap:Stmt:=top 26
noncomputable abbrev N_ap:List Str:=["wishes", "dealing"]
def Hap:NmF Sap N_ap:=KO (by decide +kernel)
def g_ap:SM:=
 U3 (XI (U7 1 Yi (UZ (UW 0) (UY))))
 (Kc (Kb UJ (Za (YR (UZ (U8 0 (U2 (.int 0))) (UY))) 2 (gT 2 (gNC (gN 2) (gNC (gN 3) (gN0)))) (U2 zQ) (U1 Zl (UW 3) (Vy (UW 1) (UZ (UW 2) (UY)))))))
def WM:zS->zU:=Ki N_ap g_ap
abbrev Sbj:Stmt:=top 52
noncomputable abbrev N_bj:List Str:=["wishes", "dealings", "prices", "lefts"]
def Hbj:NmF Sbj N_bj:=KO (by decide +kernel)
def Ry:SM:=
 U3 (Zn 3 (Za (K4 (UW 1)) 1 (gN 4) (U2 zQ) (U7 2 WM (UZ (UW 0) (UZ (UW 4) (UY))))))
 (Kc (Zb ZK (UZ (Kb UJ (Pj (YR (UZ (UW 2) (UY))) 2 (gT 2 (gNC (gN 4) (gNC (gN 5) (gN0)))) (U2 zQ) (Xf (Kb UK (Zp (oIB λi j=>decide (j<i)) 5 (U2 (.int 0)))) (Zb Wx (UZ (Kb UJ (Za (K4 (UW 3)) 1 (gN 6) (U2 zQ) (Kb UK (U1 (oIB λi j=>decide (j<i)) (U8 6 (UW 4)) (U2 (.int 0)))))) (UY)))))) (UY))))
def Tz:zS->zU:=Ki N_bj Ry
abbrev Sam:Stmt:=top 22
noncomputable abbrev N_am:List Str:=["wishes"]
def Ham:NmF Sam N_am:=KO (by decide +kernel)
def RL:SM:=
 U3 (XI (U7 1 Yi (UZ (UW 0) (UY))))
 (Kc (Zb Sr (UZ (Kb UJ (P4 (YR (UZ (U8 0 (U2 (.int 1))) (UY))) 4 (gT 2 (gNC (gN 1) (gNC (gN 2) (gN0)))) (U2 zQ) (K4 (UW 2)) (gN 3) (U2 zQ) (K4 (UW 3)) (gN 4) (U2 zQ) (KN (UZ (UW 1) (UZ (UW 4) (UY)))))) (UY))))
def TN:zS->zU:=Ki N_am RL
abbrev Sav:Stmt:=top 36
noncomputable abbrev N_av:List Str:=["base", "times", "told", "step"]
def Hav:NmF Sav N_av:=KO (by decide +kernel)
noncomputable def AA:SM:=
 Ws X0 2 (UW 0)
noncomputable def g_av:SM:=
 U3 (Kj 2 (U2 (.int 1)))
 (U3 (KH (YS (UZ (UW 1) (UY))) (gN 3) AA)
 (Kc (UW 2)))
noncomputable def ZY:zS->zU:=Ki N_av g_av
abbrev Sax:Stmt:=top 38
noncomputable abbrev N_ax:List Str:=["turns", "base", "asker", "rank", "behind"]
def Hax:NmF Sax N_ax:=KO (by decide +kernel)
noncomputable def RF:SM:=
 U3 (sIf (Zp Y1 2 (UW 0))
 (Kc (U2 (.int 0)))
 (sNx))
 (U3 (Kj 4 (U1 Zl (U1 Zl (Zk 0) (U2 (.int 1))) (OQ (UW 0) (UZ (UW 2) (UY)))))
 (Kc (U1 KB (U1 Zl (UW 1) (UW 3)) (U7 2 ZY (UZ (UW 1) (UZ (UW 4) (UY)))))))
def TF:zS->zU:=Ki N_ax RF
abbrev Saw:Stmt:=top 37
noncomputable abbrev N_aw:List Str:=["order", "base", "most", "rank"]
def Haw:NmF Saw N_aw:=KO (by decide +kernel)
noncomputable def RG:SM:=
 U3 (sIf (Zp oEq 0 (U2 (.str "firsts")))
 (Kc (U7 2 ZY (UZ (UW 1) (UZ (U1 Zl (UW 2) (UW 3)) (UY)))))
 (sNx))
 (U3 (sIf (Zp oEq 0 (U2 (.str "full")))
 (Kc (U1 Kg (U7 2 ZY (UZ (UW 1) (UZ (UW 2) (UY)))) (U7 2 ZY (UZ (UW 1) (UZ (U1 Zl (UW 2) (UW 3)) (UY))))))
 (sNx))
 (Kc (U1 Zl (U7 2 ZY (UZ (UW 1) (UZ (UW 2) (UY)))) (U7 2 ZY (UZ (UW 1) (UZ (U1 Zl (UW 3) (U2 (.int 1))) (UY)))))))
noncomputable def TH:zS->zU:=Ki N_aw RG
abbrev Sak:Stmt:=top 20
noncomputable abbrev N_ak:List Str:=["ranks", "thing", "number", "rank"]
def Hak:NmF Sak N_ak:=KO (by decide +kernel)
noncomputable def Az:SM:=
 sIf (Zp oIn 1 (UW 3))
 (Kc (UW 2))
 (sNx)
def g_ak:SM:=
 U3 (KH (Mh (UZ (UW 0) (UY))) (gT 2 (gNC (gN 2) (gNC (gN 3) (gN0)))) Az)
 (Kc (U2 (.int 0)))
def WO:zS->zU:=Ki N_ak g_ak
abbrev Say:Stmt:=top 39
noncomputable abbrev N_ay:List Str:=["wishes", "aim", "most", "asker", "thing", "order", "old", "turns", "lists", "rank", "base", "kept", "by_counts"]
def Hay:NmF Say N_ay:=KO (by decide +kernel)
def RE:SM:=
 U3 (Zc (UW 1) (gT 3 (gNC (gN 5) (gNC (gN 6) (gNC (gN 7) (gN0))))))
 (U3 (Kj 8 (U8 0 (U2 (.int 1))))
 (U3 (Kj 9 (U7 2 WO (UZ (U8 8 (UW 3)) (UZ (UW 4) (UY)))))
 (U3 (Kj 10 (U1 Kg (Zk 8) (U2 (.int 1))))
 (U3 (Kj 11 (mIf (Zw (Kb (λd=>!isNon d) (UW 6)) (U1 oEq (U8 6 (UW 3)) (UW 4))) (U2 (.int 1)) (U2 (.int 0))))
 (U3 (Kj 12 (U1 Kg (U1 KB (U7 4 TH (UZ (UW 5) (UZ (UW 10) (UZ (UW 2) (UZ (UW 9) (UY)))))) (UW 10)) (UW 11)))
 (Kc (U1 Kg (U1 KB (UW 12) (U7 2 ZY (UZ (U1 Kg (UW 2) (U2 (.int 1))) (UZ (Zk 7) (UY))))) (U7 4 TF (UZ (UW 7) (UZ (U1 Kg (UW 2) (U2 (.int 1))) (UZ (UW 3) (UZ (UW 9) (UY)))))))))))))
def XG:zS->zU:=Ki N_ay RE
abbrev Sal:Stmt:=top 21
noncomputable abbrev N_al:List Str:=["wishes"]
def Hal:NmF Sal N_al:=KO (by decide +kernel)
def g_al:SM:=
 U3 (XI (U7 1 Yi (UZ (UW 0) (UY))))
 (Kc (Zb Ss (UZ (Kb UJ (Za (K4 (U8 0 (U2 (.int 1)))) 1 (gN 1) (U2 zQ) (Zk 1))) (UY))))
def WN:zS->zU:=Ki N_al g_al
abbrev Sat:Stmt:=top 33
noncomputable abbrev N_at:List Str:=["thing", "askers"]
def Hat:NmF Sat N_at:=KO (by decide +kernel)
def RI:SM:=
 U3 (sIf (mOr (KF (Zq (Kb (λd=>.bool (K2 d "list")) (UW 0)))) (KF (Zq (Zb ZK (UZ (Kb UJ (Za (K4 (UW 0)) 1 (gN 2) (U2 zQ) (U7 2 Yq (UZ (UW 2) (UZ (UW 1) (UY)))))) (UY))))))
 (Kc (U2 (.bool zR)))
 (sNx))
 (Kc (Kb UK (U1 oEq (Zb VR (UZ (UW 0) (UY))) (Zk 0))))
def TJ:zS->zU:=Ki N_at RI
abbrev Sas:Stmt:=top 32
noncomputable abbrev N_as:List Str:=["thing", "askers", "things"]
def Has:NmF Sas N_as:=KO (by decide +kernel)
def RJ:SM:=
 U3 (sIf (Kb isNon (UW 0))
 (Kc (U2 (.bool zQ)))
 (sNx))
 (U3 (sIf (mOr (KF (Zq (Kb (λd=>.bool (K2 d "list")) (UW 0)))) (U1 oNe (Zk 0) (UW 1)))
 (Kc (U2 (.bool zR)))
 (sNx))
 (Kc (Zb ZK (UZ (Kb UJ (Za (K4 (UW 0)) 1 (gN 3) (U2 zQ) (Xf (Kb (λd=>.bool (isNon d)) (UW 3)) (U7 2 Yq (UZ (UW 3) (UZ (UW 2) (UY))))))) (UY)))))
def TK:zS->zU:=Ki N_as RJ
abbrev Saq:Stmt:=top 29
noncomputable abbrev N_aq:List Str:=["thing"]
def Haq:NmF Saq N_aq:=KO (by decide +kernel)
def g_aq:SM:=
 Kc (Wm (Kb (λd=>.bool (K2 d "str")) (UW 0)) (Kb UK (Zp oIn 0 (U2 (.tuple ((["firsts", "full", "lasts"]:List Str).map UL))))))
def TM:zS->zU:=Ki N_aq g_aq
abbrev Sar:Stmt:=top 30
noncomputable abbrev N_ar:List Str:=["thing"]
def Har:NmF Sar N_ar:=KO (by decide +kernel)
def g_ar:SM:=
 sIf (KF (Zq (U7 1 TM (UZ (UW 0) (UY)))))
 (VC)
 (sNx)
def TL:zS->zU:=Ki N_ar g_ar
abbrev Sau:Stmt:=top 34
noncomputable abbrev N_au:List Str:=["wishes", "thing", "copies", "lists", "order", "old", "turns"]
def Hau:NmF Sau N_au:=KO (by decide +kernel)
def RH:SM:=
 U3 (XI (U7 1 Yi (UZ (UW 0) (UY))))
 (U3 (sIf (mOr (KF (Zq (Kb (λd=>.bool (K2 d "tuple")) (UW 1)))) (U1 oNe (Zk 1) (U2 (.int 3))))
 (VC)
 (sNx))
 (U3 (Zc (UW 0) (gT 2 (gNC (gN 2) (gNC (gN 3) (gN0)))))
 (U3 (Zc (UW 1) (gT 3 (gNC (gN 4) (gNC (gN 5) (gNC (gN 6) (gN0))))))
 (U3 (XI (U7 1 TL (UZ (UW 4) (UY))))
 (U3 (sIf (KF (Zq (U7 3 TK (UZ (UW 5) (UZ (Zk 3) (UZ (Zk 2) (UY)))))))
 (VC)
 (sNx))
 (sIf (KF (Zq (U7 2 TJ (UZ (UW 6) (UZ (Zk 3) (UY))))))
 (VC)
 (sNx)))))))
def Y6:zS->zU:=Ki N_au RH
abbrev Saz:Stmt:=top 40
noncomputable abbrev N_az:List Str:=["wishes", "aim", "most"]
def Haz:NmF Saz N_az:=KO (by decide +kernel)
def RD:SM:=
 U3 (XI (U7 2 Y6 (UZ (UW 0) (UZ (UW 1) (UY)))))
 (U3 (Kj 2 (U7 1 WN (UZ (UW 0) (UY))))
 (Kc (Kb UJ (Za (K4 (U7 1 TN (UZ (UW 0) (UY)))) 2 (gT 2 (gNC (gN 3) (gNC (gN 4) (gN0)))) (U2 zQ) (KN (UZ (UW 3) (UZ (UW 4) (UZ (U7 5 XG (UZ (UW 0) (UZ (UW 1) (UZ (UW 2) (UZ (UW 3) (UZ (UW 4) (UY))))))) (UY)))))))))
def Y5:zS->zU:=Ki N_az RD
abbrev Sbf:Stmt:=top 48
noncomputable abbrev N_bf:List Str:=["wishes", "aim", "paper", "times", "asks", "prices", "worths"]
def Hbf:NmF Sbf N_bf:=KO (by decide +kernel)
def Rz:SM:=
 U3 (Zc (UW 2) (gT 3 (gNC (gN 3) (gNC (gN 4) (gNC (gN 5) (gN0))))))
 (U3 (Kj 6 (U7 2 Y5 (UZ (UW 0) (UZ (UW 1) (UY)))))
 (Kc (Kb UJ (Za (K4 (UW 6)) 3 (gT 3 (gNC (gN 7) (gNC (gN 8) (gNC (gN 9) (gN0))))) (U1 oEq (U1 Kg (U8 4 (UW 7)) (U8 5 (UW 8))) (U1 KB (UW 3) (UW 9))) (KN (UZ (UW 7) (UZ (UW 8) (UY))))))))
def WL:zS->zU:=Ki N_bf Rz
abbrev Sbh:Stmt:=top 50
noncomputable abbrev N_bh:List Str:=["dealings", "wanted"]
def Hbh:NmF Sbh N_bh:=KO (by decide +kernel)
def g_bh:SM:=
 Kc (Zb ZK (UZ (Kb UJ (Za (K4 (UW 1)) 2 (gT 2 (gNC (gN 2) (gNC (gN 3) (gN0)))) (U2 zQ) (Zb Wx (UZ (Kb UJ (Za (K4 (UW 0)) 1 (gN 4) (U2 zQ) (Kb UK (U1 oEq (U8 4 (UW 2)) (UW 3))))) (UY))))) (UY)))
def Vl:zS->zU:=Ki N_bh g_bh
abbrev Sba:Stmt:=top 41
noncomputable abbrev N_ba:List Str:=["wishes", "aim", "dealing", "most"]
def Hba:NmF Sba N_ba:=KO (by decide +kernel)
def RC:SM:=
 U3 (XI (U7 2 Y6 (UZ (UW 0) (UZ (UW 1) (UY)))))
 (U3 (Kj 3 (U7 1 WN (UZ (UW 0) (UY))))
 (Kc (Zb Vv (UZ (Kb UJ (Za (YR (UZ (UW 2) (UY))) 2 (gT 2 (gNC (gN 4) (gNC (gN 5) (gN0)))) (Kb (λd=>!isNon d) (UW 5)) (U7 5 XG (UZ (UW 0) (UZ (UW 1) (UZ (UW 3) (UZ (UW 4) (UZ (UW 5) (UY))))))))) (UY)))))
def TD:zS->zU:=Ki N_ba RC
abbrev Sbe:Stmt:=top 46
noncomputable abbrev N_be:List Str:=["wishes", "paper", "times", "asks", "prices"]
def Hbe:NmF Sbe N_be:=KO (by decide +kernel)
def g_be:SM:=
 U3 (XI (U7 1 Yi (UZ (UW 0) (UY))))
 (U3 (Zc (UW 1) (gT 3 (gNC (gN 2) (gNC (gN 3) (gNC (gN 4) (gN0))))))
 (Kc (U1 Kg (Zb Vv (UZ (UW 3) (UY))) (Zb Vv (UZ (Kb UJ (Za (Wz (UZ (UW 4) (UZ (U8 0 (U2 (.int 0))) (UY)))) 2 (gT 2 (gNC (gN 5) (gNC (gN 6) (gN0)))) (U2 zQ) (U1 KB (UW 5) (UW 6)))) (UY))))))
def X9:zS->zU:=Ki N_be g_be
abbrev San:Stmt:=top 24
noncomputable abbrev N_an:List Str:=["thing", "askers"]
def Han:NmF San N_an:=KO (by decide +kernel)
def V5:SM:=
 U3 (sIf (mOr (KF (Zq (Kb (λd=>.bool (K2 d "list")) (UW 0)))) (U1 oNe (Zk 0) (UW 1)))
 (Kc (U2 (.bool zR)))
 (sNx))
 (Kc (Zb ZK (UZ (Kb UJ (Za (K4 (UW 0)) 1 (gN 2) (U2 zQ) (Xf (Kb (λd=>.bool (isNon d)) (UW 2)) (U7 1 Yr (UZ (UW 2) (UY)))))) (UY))))
def Vo:zS->zU:=Ki N_an V5
abbrev Sao:Stmt:=top 25
noncomputable abbrev N_ao:List Str:=["wishes", "thing", "copies", "lists", "asker", "got", "number", "many"]
def Hao:NmF Sao N_ao:=KO (by decide +kernel)
noncomputable def Gy:SM:=
 sIf (U1 (oIB λi j=>decide (j<i)) (Vy (UW 1) (UZ (UW 6) (UY))) (UW 7))
 (Kc (KN (UZ (U2 (.str "copies")) (UZ (UW 6) (UY)))))
 (sNx)
def Gx:SM:=
 sIf (Zw (Kb (λd=>!isNon d) (UW 5)) (U1 oEq (U7 2 WO (UZ (U8 3 (UW 4)) (UZ (UW 5) (UY)))) (U2 (.int 0))))
 (Kc (KN (UZ (U2 (.str "wish")) (UZ (UW 4) (UY)))))
 (sNx)
def RK:SM:=
 U3 (XI (U7 1 Yi (UZ (UW 0) (UY))))
 (U3 (Zc (UW 0) (gT 2 (gNC (gN 2) (gNC (gN 3) (gN0)))))
 (U3 (sIf (KF (Zq (U7 2 Vo (UZ (UW 1) (UZ (Zk 3) (UY))))))
 (Kc (KN (UZ (U2 (.str "form")) (UY))))
 (sNx))
 (U3 (KH (YR (UZ (UW 1) (UY))) (gT 2 (gNC (gN 4) (gNC (gN 5) (gN0)))) Gx)
 (U3 (KH (YR (UZ (UW 2) (UY))) (gT 2 (gNC (gN 6) (gNC (gN 7) (gN0)))) Gy)
 (Kc (U2 .none))))))
def Vn:zS->zU:=Ki N_ao RK
abbrev Sbg:Stmt:=top 49
noncomputable abbrev N_bg:List Str:=["wishes", "aim", "paper", "thing"]
def Hbg:NmF Sbg N_bg:=KO (by decide +kernel)
def g_bg:SM:=
 U3 (sIf (Kb (λd=>!isNon d) (U7 2 Vn (UZ (UW 0) (UZ (UW 3) (UY)))))
 (Kc (U2 (.bool zR)))
 (sNx))
 (Kc (Kb UK (U1 oEq (U1 KB (U8 2 (U2 (.int 0))) (U7 3 TD (UZ (UW 0) (UZ (UW 1) (UZ (UW 3) (UY)))))) (U7 2 X9 (UZ (UW 0) (UZ (UW 2) (UY)))))))
def X8:zS->zU:=Ki N_bg g_bg
abbrev Sab:Stmt:=top 2
noncomputable abbrev N_ab:List Str:=["thing"]
def Hab:NmF Sab N_ab:=KO (by decide +kernel)
def g_ab:SM:=
 Kc (Wm (U7 1 Yr (UZ (UW 0) (UY))) (Kb UK (Zp (oIB λi j=>decide (j<=i)) 0 (U2 (.int 0)))))
def Vq:zS->zU:=Ki N_ab g_ab
abbrev Sac:Stmt:=top 3
noncomputable abbrev N_ac:List Str:=["things", "many"]
def Hac:NmF Sac N_ac:=KO (by decide +kernel)
def g_ac:SM:=
 Kc (Wm (Kb UK (U1 oEq (Zk 0) (UW 1))) (Zb ZK (UZ (Kb UJ (Za (K4 (UW 0)) 1 (gN 2) (U2 zQ) (U7 1 Vq (UZ (UW 2) (UY))))) (UY))))
def TV:zS->zU:=Ki N_ac g_ac
abbrev Sbb:Stmt:=top 43
noncomputable abbrev N_bb:List Str:=["thing", "many"]
def Hbb:NmF Sbb N_bb:=KO (by decide +kernel)
def g_bb:SM:=
 Kc (Wm (Kb (λd=>.bool (K2 d "list")) (UW 0)) (U7 2 TV (UZ (UW 0) (UZ (UW 1) (UY)))))
def Wa:zS->zU:=Ki N_bb g_bb
abbrev Sbc:Stmt:=top 44
noncomputable abbrev N_bc:List Str:=["wishes", "thing", "copies", "lists", "times", "asks", "prices"]
def Hbc:NmF Sbc N_bc:=KO (by decide +kernel)
def RB:SM:=
 U3 (sIf (mOr (KF (Zq (Kb (λd=>.bool (K2 d "tuple")) (UW 1)))) (U1 oNe (Zk 1) (U2 (.int 3))))
 (Kc (U2 (.bool zR)))
 (sNx))
 (U3 (Zc (UW 0) (gT 2 (gNC (gN 2) (gNC (gN 3) (gN0)))))
 (U3 (Zc (UW 1) (gT 3 (gNC (gN 4) (gNC (gN 5) (gNC (gN 6) (gN0))))))
 (U3 (sIf (mOr (KF (Zq (U7 1 Yr (UZ (UW 4) (UY))))) (Zp (oIB λi j=>decide (i<j)) 4 (U2 (.int 1))))
 (Kc (U2 (.bool zR)))
 (sNx))
 (Kc (Wm (U7 2 Wa (UZ (UW 5) (UZ (Zk 3) (UY)))) (U7 2 Wa (UZ (UW 6) (UZ (Zk 2) (UY)))))))))
def TC:zS->zU:=Ki N_bc RB
abbrev Sbd:Stmt:=top 45
noncomputable abbrev N_bd:List Str:=["wishes", "aim", "thing", "worths", "times", "asks", "prices"]
def Hbd:NmF Sbd N_bd:=KO (by decide +kernel)
def RA:SM:=
 U3 (Kj 3 (U7 2 Y5 (UZ (UW 0) (UZ (UW 1) (UY)))))
 (U3 (sIf (KF (Zq (U7 2 TC (UZ (UW 0) (UZ (UW 2) (UY))))))
 (Kc (U2 (.bool zR)))
 (sNx))
 (U3 (Zc (UW 2) (gT 3 (gNC (gN 4) (gNC (gN 5) (gNC (gN 6) (gN0))))))
 (Kc (Zb ZK (UZ (Kb UJ (Za (K4 (UW 3)) 3 (gT 3 (gNC (gN 7) (gNC (gN 8) (gNC (gN 9) (gN0))))) (U2 zQ) (Kb UK (U1 (oIB λi j=>decide (j<=i)) (U1 Kg (U8 5 (UW 7)) (U8 6 (UW 8))) (U1 KB (UW 4) (UW 9)))))) (UY))))))
def Vm:zS->zU:=Ki N_bd RA
abbrev Sbk:Stmt:=top 53
noncomputable abbrev N_bk:List Str:=["wishes", "aim", "thing", "paper", "dealings", "times", "asks", "prices"]
def Hbk:NmF Sbk N_bk:=KO (by decide +kernel)
def Rx:SM:=
 U3 (XI (U7 2 Y6 (UZ (UW 0) (UZ (UW 1) (UY)))))
 (U3 (sIf (mOr (KF (Zq (Kb (λd=>.bool (K2 d "tuple")) (UW 2)))) (U1 oNe (Zk 2) (U2 (.int 2))))
 (Kc (U2 (.bool zR)))
 (sNx))
 (U3 (Zc (UW 2) (gT 2 (gNC (gN 3) (gNC (gN 4) (gN0)))))
 (U3 (sIf (mOr (KF (Zq (U7 3 Vm (UZ (UW 0) (UZ (UW 1) (UZ (UW 3) (UY))))))) (mOr (KF (Zq (Kb (λd=>.bool (K2 d "list")) (UW 4)))) (U1 oEq (Zk 4) (U2 (.int 0)))))
 (Kc (U2 (.bool zR)))
 (sNx))
 (U3 (sIf (KF (Zq (Zb ZK (UZ (Kb UJ (Za (K4 (UW 4)) 1 (gN 8) (U2 zQ) (U7 4 X8 (UZ (UW 0) (UZ (UW 1) (UZ (UW 3) (UZ (UW 8) (UY)))))))) (UY)))))
 (Kc (U2 (.bool zR)))
 (sNx))
 (U3 (Zc (UW 3) (gT 3 (gNC (gN 5) (gNC (gN 6) (gNC (gN 7) (gN0))))))
 (U3 (sIf (KF (Zq (U7 2 Vl (UZ (UW 4) (UZ (U7 3 WL (UZ (UW 0) (UZ (UW 1) (UZ (UW 3) (UY))))) (UY))))))
 (Kc (U2 (.bool zR)))
 (sNx))
 (Kc (Wm (U7 2 TB (UZ (UW 4) (UZ (UW 6) (UY)))) (U7 3 Tz (UZ (UW 0) (UZ (UW 4) (UZ (UW 7) (UY)))))))))))))
def WK:zS->zU:=Ki N_bk Rx
abbrev Scs:Stmt:=top 93
noncomputable abbrev N_cs:List Str:=["_law_wishes_here", "_law_asker"]
def Hcs:NmF Scs N_cs:=KO (by decide +kernel)
def g_cs:SM:=
 Kc (Zb Sr (UZ (Zb R6 (UZ (U1 oIx (U8 0 (U2 (.int 1))) (UW 1)) (UZ (KS (UY)) (UY)))) (UY)))
def XE:zS->zU:=Ki N_cs g_cs
abbrev Scq:Stmt:=top 91
noncomputable abbrev N_cq:List Str:=["_law_wishes_here", "_law_asker", "_law_thing", "_law_k", "_law_row"]
def Hcq:NmF Scq N_cq:=KO (by decide +kernel)
noncomputable def Ay:SM:=
 sIf (Zp oIn 2 (UW 4))
 (Kc (U1 Kg (UW 3) (U2 (.int 1))))
 (sNx)
def g_cq:SM:=
 U3 (KH (YR (UZ (U1 oIx (U8 0 (U2 (.int 1))) (UW 1)) (UY))) (gT 2 (gNC (gN 3) (gNC (gN 4) (gN0)))) Ay)
 (Kc (U2 (.int 0)))
def Tf:zS->zU:=Ki N_cq g_cq
abbrev Scr:Stmt:=top 92
noncomputable abbrev N_cr:List Str:=["_law_wishes_here"]
def Hcr:NmF Scr N_cr:=KO (by decide +kernel)
def g_cr:SM:=
 Kc (Zb Ss (UZ (Kb UJ (Za (K4 (U8 0 (U2 (.int 1)))) 1 (gN 1) (U2 zQ) (Zk 1))) (UY)))
def Te:zS->zU:=Ki N_cr g_cr
abbrev Sct:Stmt:=top 94
noncomputable abbrev N_ct:List Str:=["_law_wishes_here", "_law_aim_here", "_law_asker", "_law_thing", "_law_order", "_law_old", "_law_turns", "_law_base", "_law_ranks", "_law_rank_here", "_law_powers", "_law_k", "_law_worth_here", "_law_pick", "_law_one"]
def Hct:NmF Sct N_ct:=KO (by decide +kernel)
noncomputable def O9:SM:=
 U3 (Kj 12 (U1 KB (UW 12) (U1 Kg (UW 8) (U2 (.int 1)))))
 (U3 (Kj 13 (U1 KB (UW 13) (U1 Kg (UW 8) (U2 (.int 1)))))
 (sIf (Zp oEq 14 (UW 2))
 (Kj 13 (U1 Zl (U1 Kg (U1 Kg (UW 13) (UW 8)) (U2 (.int 1))) (UW 9)))
 (sNx)))
def Gw:SM:=
 ZI 10 (U1 KB (U8 10 (Yz (U2 (.int 1)))) (UW 7))
def Ra:SM:=
 U3 (Zc (UW 1) (gT 3 (gNC (gN 4) (gNC (gN 5) (gNC (gN 6) (gN0))))))
 (U3 (Kj 7 (U1 Kg (Zb Kn (UZ (U8 0 (U2 (.int 1))) (UY))) (U2 (.int 1))))
 (U3 (Kj 8 (U7 1 Te (UZ (UW 0) (UY))))
 (U3 (Kj 9 (U7 3 Tf (UZ (UW 0) (UZ (UW 2) (UZ (UW 3) (UY))))))
 (U3 (Zn 10 (Ku (UZ (U2 (.int 1)) (UY)) λxs=>if xs.length<=1000000 then U2 xs else λ_=>.bad))
 (U3 (KH (YS (UZ (UW 8) (UY))) (gN 11) Gw)
 (U3 (Kj 12 (U8 10 (U1 Zl (UW 8) (UW 9))))
 (U3 (sIf (Zp oEq 4 (U2 (.str "full")))
 (Kj 12 (U1 Kg (UW 12) (U8 10 (UW 8))))
 (sNx))
 (U3 (sIf (Zp oEq 4 (U2 (.str "lasts")))
 (Kj 12 (U1 Zl (U8 10 (UW 8)) (U8 10 (U1 Zl (UW 9) (U2 (.int 1))))))
 (sNx))
 (U3 (Kj 12 (U1 KB (UW 12) (UW 7)))
 (U3 (sIf (Zw (Kb (λd=>!isNon d) (UW 5)) (U1 oEq (U8 5 (UW 2)) (UW 3)))
 (Kj 12 (U1 Kg (UW 12) (U2 (.int 1))))
 (sNx))
 (U3 (Kj 13 (U2 (.int 0)))
 (U3 (KH (K4 (UW 6)) (gN 14) O9)
 (Kc (U1 Kg (UW 12) (UW 13)))))))))))))))
def XB:zS->zU:=Ki N_ct Ra
abbrev Scu:Stmt:=top 95
noncomputable abbrev N_cu:List Str:=["_law_wishes_here", "_law_aim_here", "_law_paper", "_law_found", "_law_asker", "_law_what"]
def Hcu:NmF Scu N_cu:=KO (by decide +kernel)
def Gv:SM:=
 sIf (U1 oEq (U1 Kg (U1 oIx (U8 2 (U2 (.int 1))) (UW 4)) (U1 oIx (U8 2 (U2 (.int 2))) (UW 5))) (U1 KB (U8 2 (U2 (.int 0))) (U7 4 XB (UZ (UW 0) (UZ (UW 1) (UZ (UW 4) (UZ (UW 5) (UY))))))))
 (ZI 3 (KN (UZ (UW 4) (UZ (UW 5) (UY)))))
 (sNx)
def Gu:SM:=
 KH (K4 (U7 2 XE (UZ (UW 0) (UZ (UW 4) (UY))))) (gN 5) Gv
def SZ:SM:=
 U3 (Zn 3 (Ku (UY) λxs=>if xs.length<=1000000 then U2 xs else λ_=>.bad))
 (U3 (KH (YS (UZ (Zb Kn (UZ (U8 0 (U2 (.int 1))) (UY))) (UY))) (gN 4) Gu)
 (Kc (UW 3)))
def WE:zS->zU:=Ki N_cu SZ
abbrev Scv:Stmt:=top 96
noncomputable abbrev N_cv:List Str:=["_law_wishes_here", "_law_aim_here", "_law_dealing", "_law_total", "_law_asker", "_law_thing"]
def Hcv:NmF Scv N_cv:=KO (by decide +kernel)
def Gs:SM:=
 sIf (Kb (λd=>!isNon d) (UW 5))
 (Kj 3 (U1 Kg (UW 3) (U7 4 XB (UZ (UW 0) (UZ (UW 1) (UZ (UW 4) (UZ (UW 5) (UY))))))))
 (sNx)
def SY:SM:=
 U3 (Kj 3 (U2 (.int 0)))
 (U3 (KH (YR (UZ (UW 2) (UY))) (gT 2 (gNC (gN 4) (gNC (gN 5) (gN0)))) Gs)
 (Kc (UW 3)))
def Td:zS->zU:=Ki N_cv SY
abbrev Scz:Stmt:=top 100
noncomputable abbrev N_cz:List Str:=["_law_wishes_here", "_law_paper"]
def Hcz:NmF Scz N_cz:=KO (by decide +kernel)
def g_cz:SM:=
 Kc (U1 Kg (Zb Vv (UZ (U8 1 (U2 (.int 1))) (UY))) (Zb Vv (UZ (Kb UJ (Za (Wz (UZ (U8 0 (U2 (.int 0))) (UZ (U8 1 (U2 (.int 2))) (UY)))) 2 (gT 2 (gNC (gN 2) (gNC (gN 3) (gN0)))) (U2 zQ) (U1 KB (UW 2) (UW 3)))) (UY))))
def Tb:zS->zU:=Ki N_cz g_cz
abbrev Scw:Stmt:=top 97
noncomputable abbrev N_cw:List Str:=["_law_thing"]
def Hcw:NmF Scw N_cw:=KO (by decide +kernel)
def g_cw:SM:=
 Kc (Wm (Kb (λd=>.bool (K2 d "int")) (UW 0)) (OG (Kb (λd=>.bool (K2 d "bool")) (UW 0))))
def XA:zS->zU:=Ki N_cw g_cw
abbrev Sda:Stmt:=top 101
noncomputable abbrev N_da:List Str:=["_law_wishes_here", "_law_found", "_law_asker", "_law_thing", "_law_over"]
def Hda:NmF Sda N_da:=KO (by decide +kernel)
def Gr:SM:=
 U3 (sIf (Zw (Kb (λd=>!isNon d) (UW 3)) (KF (Zq (U7 1 XA (UZ (UW 3) (UY))))))
 (Kc (U2 (.bool zR)))
 (sNx))
 (sIf (Zw (Kb (λd=>!isNon d) (UW 3)) (Zp Y1 3 (U7 2 XE (UZ (UW 0) (UZ (UW 2) (UY))))))
 (Kc (U2 (.bool zR)))
 (sNx))
def SW:SM:=
 U3 (sIf (mOr (KF (Zq (Kb (λd=>.bool (K2 d "list")) (UW 1)))) (U1 oNe (Zk 1) (Zb Kn (UZ (U8 0 (U2 (.int 1))) (UY)))))
 (Kc (U2 (.bool zR)))
 (sNx))
 (U3 (KH (YR (UZ (UW 1) (UY))) (gT 2 (gNC (gN 2) (gNC (gN 3) (gN0)))) Gr)
 (U3 (Zn 4 (Za (YS (UZ (Zb Kn (UZ (U8 0 (U2 (.int 0))) (UY))) (UY))) 1 (gN 5) (U1 (oIB λi j=>decide (j<i)) (Vy (UW 1) (UZ (UW 5) (UY))) (U1 oIx (U8 0 (U2 (.int 0))) (UW 5))) (UW 5)))
 (Kc (Kb UK (Zp oEq 4 (KS (UY)))))))
def Ta:zS->zU:=Ki N_da SW
abbrev Scx:Stmt:=top 98
noncomputable abbrev N_cx:List Str:=["_law_thing", "_law_many"]
def Hcx:NmF Scx N_cx:=KO (by decide +kernel)
def g_cx:SM:=
 U3 (sIf (mOr (KF (Zq (Kb (λd=>.bool (K2 d "list")) (UW 0)))) (U1 oNe (Zk 0) (UW 1)))
 (Kc (U2 (.bool zR)))
 (sNx))
 (Kc (Kb UK (U1 oEq (Kb UJ (Za (K4 (UW 0)) 1 (gN 2) (mOr (KF (Zq (U7 1 XA (UZ (UW 2) (UY))))) (Zp (oIB λi j=>decide (i<j)) 2 (U2 (.int 0)))) (UW 2))) (KS (UY)))))
def Vg:zS->zU:=Ki N_cx g_cx
abbrev Scy:Stmt:=top 99
noncomputable abbrev N_cy:List Str:=["_law_wishes_here", "_law_aim_here", "_law_thing", "_law_asker", "_law_what"]
def Hcy:NmF Scy N_cy:=KO (by decide +kernel)
def Gq:SM:=
 sIf (U1 (oIB λi j=>decide (i<j)) (U1 Kg (U1 oIx (U8 2 (U2 (.int 1))) (UW 3)) (U1 oIx (U8 2 (U2 (.int 2))) (UW 4))) (U1 KB (U8 2 (U2 (.int 0))) (U7 4 XB (UZ (UW 0) (UZ (UW 1) (UZ (UW 3) (UZ (UW 4) (UY))))))))
 (Kc (U2 (.bool zR)))
 (sNx)
def Gp:SM:=
 KH (K4 (U7 2 XE (UZ (UW 0) (UZ (UW 3) (UY))))) (gN 4) Gq
def SX:SM:=
 U3 (sIf (mOr (KF (Zq (Kb (λd=>.bool (K2 d "tuple")) (UW 2)))) (U1 oNe (Zk 2) (U2 (.int 3))))
 (Kc (U2 (.bool zR)))
 (sNx))
 (U3 (sIf (mOr (KF (Zq (U7 1 XA (UZ (U8 2 (U2 (.int 0))) (UY))))) (U1 (oIB λi j=>decide (i<j)) (U8 2 (U2 (.int 0))) (U2 (.int 1))))
 (Kc (U2 (.bool zR)))
 (sNx))
 (U3 (sIf (mOr (KF (Zq (U7 2 Vg (UZ (U8 2 (U2 (.int 1))) (UZ (Zb Kn (UZ (U8 0 (U2 (.int 1))) (UY))) (UY)))))) (KF (Zq (U7 2 Vg (UZ (U8 2 (U2 (.int 2))) (UZ (Zb Kn (UZ (U8 0 (U2 (.int 0))) (UY))) (UY)))))))
 (Kc (U2 (.bool zR)))
 (sNx))
 (U3 (KH (YS (UZ (Zb Kn (UZ (U8 0 (U2 (.int 1))) (UY))) (UY))) (gN 3) Gp)
 (Kc (U2 (.bool zQ))))))
def Tc:zS->zU:=Ki N_cy SX
abbrev Sdb:Stmt:=top 102
noncomputable abbrev N_db:List Str:=["_law_wishes_here", "_law_aim_here", "_law_thing", "_law_paper", "_law_some", "_law_one", "_law_asker", "_law_what", "_law_left"]
def Hdb:NmF Sdb N_db:=KO (by decide +kernel)
def Go:SM:=
 U3 (Zn 8 (Za (K4 (UW 4)) 1 (gN 9) (U1 (oIB λi j=>decide (i<j)) (Vy (UW 9) (UZ (UW 7) (UY))) (U1 oIx (U8 0 (U2 (.int 0))) (UW 7))) (UW 9)))
 (sIf (Zw (U1 oEq (U1 oIx (U8 3 (U2 (.int 2))) (UW 7)) (U2 (.int 0))) (Zp oEq 8 (KS (UY))))
 (Kc (U2 (.bool zR)))
 (sNx))
def Gn:SM:=
 sIf (Zw (U1 oEq (U1 oIx (U8 3 (U2 (.int 1))) (UW 6)) (U2 (.int 0))) (U1 oEq (Kb UJ (Za (K4 (UW 4)) 1 (gN 9) (Kb isNon (U8 9 (UW 6))) (UW 9))) (KS (UY))))
 (Kc (U2 (.bool zR)))
 (sNx)
def Gm:SM:=
 sIf (U1 oEq (Kb UJ (Za (K4 (UW 4)) 1 (gN 9) (U1 oEq (U8 9 (UW 6)) (UW 7)) (UW 9))) (KS (UY)))
 (Kc (U2 (.bool zR)))
 (sNx)
def Fa:SM:=
 U3 (sIf (KF (Zq (U7 2 Ta (UZ (UW 0) (UZ (UW 5) (UY))))))
 (Kc (U2 (.bool zR)))
 (sNx))
 (sIf (U1 oNe (U1 KB (U8 3 (U2 (.int 0))) (U7 3 Td (UZ (UW 0) (UZ (UW 1) (UZ (UW 5) (UY)))))) (U7 2 Tb (UZ (UW 0) (UZ (UW 3) (UY)))))
 (Kc (U2 (.bool zR)))
 (sNx))
def SV:SM:=
 U3 (sIf (mOr (KF (Zq (Kb (λd=>.bool (K2 d "tuple")) (UW 2)))) (mOr (U1 oNe (Zk 2) (U2 (.int 2))) (KF (Zq (U7 3 Tc (UZ (UW 0) (UZ (UW 1) (UZ (U8 2 (U2 (.int 0))) (UY)))))))))
 (Kc (U2 (.bool zR)))
 (sNx))
 (U3 (Zc (UW 2) (gT 2 (gNC (gN 3) (gNC (gN 4) (gN0)))))
 (U3 (sIf (mOr (KF (Zq (Kb (λd=>.bool (K2 d "list")) (UW 4)))) (Zp oEq 4 (KS (UY))))
 (Kc (U2 (.bool zR)))
 (sNx))
 (U3 (KH (K4 (UW 4)) (gN 5) Fa)
 (U3 (KH (K4 (U7 3 WE (UZ (UW 0) (UZ (UW 1) (UZ (UW 3) (UY)))))) (gT 2 (gNC (gN 6) (gNC (gN 7) (gN0)))) Gm)
 (U3 (KH (YS (UZ (Zb Kn (UZ (U8 0 (U2 (.int 1))) (UY))) (UY))) (gN 6) Gn)
 (U3 (KH (YS (UZ (Zb Kn (UZ (U8 0 (U2 (.int 0))) (UY))) (UY))) (gN 7) Go)
 (Kc (U2 (.bool zQ)))))))))
def Vf:zS->zU:=Ki N_db SV
abbrev Sch:Stmt:=top 81
noncomputable abbrev N_ch:List Str:=["wishes", "aim", "web"]
def Hch:NmF Sch N_ch:=KO (by decide +kernel)
def g_ch:SM:=
 U3 (XI (U7 2 Y6 (UZ (UW 0) (UZ (UW 1) (UY)))))
 (Kc (U7 3 WL (UZ (UW 0) (UZ (UW 1) (UZ (U8 2 (U2 (.int 0))) (UY))))))
def XF:zS->zU:=Ki N_ch g_ch
abbrev Scl:Stmt:=top 85
noncomputable abbrev N_cl:List Str:=["wishes", "aim", "web", "asker", "things", "times", "asks", "prices"]
def Hcl:NmF Scl N_cl:=KO (by decide +kernel)
def Re:SM:=
 U3 (Zn 4 (Za (K4 (U7 3 XF (UZ (UW 0) (UZ (UW 1) (UZ (UW 2) (UY)))))) 2 (gT 2 (gNC (gN 8) (gNC (gN 9) (gN0)))) (Zp oEq 8 (UW 3)) (UW 9)))
 (U3 (Zc (U8 2 (U2 (.int 0))) (gT 3 (gNC (gN 5) (gNC (gN 6) (gNC (gN 7) (gN0))))))
 (Kc (KN (UZ (UW 4) (UZ (Kb UK (U1 oEq (U8 6 (UW 3)) (U2 (.int 0)))) (UY))))))
def Vh:zS->zU:=Ki N_cl Re
abbrev Sad:Stmt:=top 4
noncomputable abbrev N_ad:List Str:=["numbers"]
def Had:NmF Sad N_ad:=KO (by decide +kernel)
def g_ad:SM:=
 Kc (Kb UJ (Za (YR (UZ (UW 0) (UY))) 2 (gT 2 (gNC (gN 1) (gNC (gN 2) (gN0)))) (Zp (oIB λi j=>decide (j<i)) 2 (U2 (.int 0))) (UW 1)))
def WP:zS->zU:=Ki N_ad g_ad
abbrev Sck:Stmt:=top 84
noncomputable abbrev N_ck:List Str:=["web", "paper", "dealings", "times", "asks", "prices"]
def Hck:NmF Sck N_ck:=KO (by decide +kernel)
def g_ck:SM:=
 U3 (Zc (UW 0) (gT 2 (gNC (gN 1) (gNC (gN 2) (gN0)))))
 (U3 (Zc (UW 1) (gT 3 (gNC (gN 3) (gNC (gN 4) (gNC (gN 5) (gN0))))))
 (Kc (U7 1 WP (UZ (UW 5) (UY)))))
def Ti:zS->zU:=Ki N_ck g_ck
abbrev Scj:Stmt:=top 83
noncomputable abbrev N_cj:List Str:=["web", "paper", "dealings", "times", "asks", "prices"]
def Hcj:NmF Scj N_cj:=KO (by decide +kernel)
def g_cj:SM:=
 U3 (Zc (UW 0) (gT 2 (gNC (gN 1) (gNC (gN 2) (gN0)))))
 (U3 (Zc (UW 1) (gT 3 (gNC (gN 3) (gNC (gN 4) (gNC (gN 5) (gN0))))))
 (Kc (U7 1 WP (UZ (UW 4) (UY)))))
def Tj:zS->zU:=Ki N_cj g_cj
abbrev Sci:Stmt:=top 82
noncomputable abbrev N_ci:List Str:=["wishes", "aim", "web", "told"]
def Hci:NmF Sci N_ci:=KO (by decide +kernel)
def Rf:SM:=
 U3 (Kj 3 (U7 3 XF (UZ (UW 0) (UZ (UW 1) (UZ (UW 2) (UY))))))
 (Kc (Kb UJ (Za (K4 (UW 3)) 2 (gT 2 (gNC (gN 4) (gNC (gN 5) (gN0)))) (Zq (Zb ZK (UZ (Kb UJ (Za (K4 (U8 2 (U2 (.int 1)))) 1 (gN 6) (U2 zQ) (Kb UK (U1 oEq (U8 6 (UW 4)) (UW 5))))) (UY)))) (KN (UZ (UW 4) (UZ (UW 5) (UY)))))))
def Tk:zS->zU:=Ki N_ci Rf
abbrev Sdd:Stmt:=top 104
noncomputable abbrev N_dd:List Str:=["_law_wishes_here", "_law_aim_here", "_law_web", "_law_some"]
def Hdd:NmF Sdd N_dd:=KO (by decide +kernel)
def SU:SM:=
 U3 (Zn 3 (Ku (UZ (U7 3 XF (UZ (UW 0) (UZ (UW 1) (UZ (UW 2) (UY))))) (UZ (U7 3 Tk (UZ (UW 0) (UZ (UW 1) (UZ (UW 2) (UY))))) (UZ (U7 1 Tj (UZ (UW 2) (UY))) (UZ (U7 1 Ti (UZ (UW 2) (UY))) (UY))))) λxs=>if xs.length<=1000000 then U2 xs else λ_=>.bad))
 (Kc (U1 Kg (UW 3) (Kb UJ (Za (YS (UZ (Zb Kn (UZ (U8 0 (U2 (.int 1))) (UY))) (UY))) 1 (gN 4) (U2 zQ) (U7 4 Vh (UZ (UW 0) (UZ (UW 1) (UZ (UW 2) (UZ (UW 4) (UY))))))))))
def Ve:zS->zU:=Ki N_dd SU
abbrev Sdc:Stmt:=top 103
noncomputable abbrev N_dc:List Str:=["_law_one", "_law_other", "_law_many", "_law_asks", "_law_prices"]
def Hdc:NmF Sdc N_dc:=KO (by decide +kernel)
def g_dc:SM:=
 U3 (Zn 3 (Za (Wz (UZ (U8 0 (U2 (.int 1))) (UZ (U8 1 (U2 (.int 1))) (UY)))) 2 (gT 2 (gNC (gN 5) (gNC (gN 6) (gN0)))) (U2 zQ) (U1 Kg (UW 5) (U1 KB (UW 2) (UW 6)))))
 (U3 (Zn 4 (Za (Wz (UZ (U8 0 (U2 (.int 2))) (UZ (U8 1 (U2 (.int 2))) (UY)))) 2 (gT 2 (gNC (gN 5) (gNC (gN 6) (gN0)))) (U2 zQ) (U1 Kg (UW 5) (U1 KB (UW 2) (UW 6)))))
 (Kc (KN (UZ (U1 Kg (U8 0 (U2 (.int 0))) (U1 KB (UW 2) (U8 1 (U2 (.int 0))))) (UZ (UW 3) (UZ (UW 4) (UY)))))))
def WD:zS->zU:=Ki N_dc g_dc
abbrev Scn:Stmt:=top 88
noncomputable abbrev N_cn:List Str:=["_law_cell", "_law_salt", "_law_sizes", "_law_number", "_law_left", "_law_found", "_law_k", "_law_one"]
def Hcn:NmF Scn N_cn:=KO (by decide +kernel)
def Mz:SM:=
 sIf (Zw (Zp (oIB λi j=>decide (j<=i)) 3 (U1 W9 (U2 (.int 10)) (U2 (.int 18)))) (Zp (oIB λi j=>decide (j<i)) 4 (U2 (.int 0))))
 (U3 (ZI 5 (U1 Y2 (UW 4) (U8 2 (UW 6))))
 (Kj 4 (U1 Va (UW 4) (U8 2 (UW 6)))))
 (U3 (Kj 7 (U1 Y2 (U1 Kg (U1 Kg (U1 Kg (UW 3) (U1 KB (U2 (.int 7919)) (UW 1))) (U1 KB (U1 KB (U2 (.int 101)) (UW 6)) (UW 6))) (UW 6)) (U2 (.int 2147483647))))
 (U3 (Kj 7 (U1 Y2 (U1 KB (UW 7) (U2 (.int 48271))) (U2 (.int 2147483647))))
 (U3 (Kj 7 (U1 Y2 (U1 KB (U1 Y2 (U1 KB (UW 7) (UW 7)) (U2 (.int 2147483629))) (U2 (.int 48271))) (U2 (.int 2147483647))))
 (ZI 5 (U1 Y2 (U1 Va (UW 7) (U2 (.int 16))) (U8 2 (UW 6)))))))
def g_cn:SM:=
 U3 (Kj 3 (Zb P2 (UZ (UW 0) (UZ (U1 Zl (Yz (U2 (.int 1))) (UW 0)) (UY)))))
 (U3 (Kj 4 (UW 3))
 (U3 (Zn 5 (Ku (UY) λxs=>if xs.length<=1000000 then U2 xs else λ_=>.bad))
 (U3 (KH (YS (UZ (Zk 2) (UY))) (gN 6) Mz)
 (Kc (UW 5)))))
def Xj:zS->zU:=Ki N_cn g_cn
abbrev Sde:Stmt:=top 105
noncomputable abbrev N_de:List Str:=["_law_wishes_here", "_law_aim_here", "_law_paper", "_law_tight_here", "_law_askers", "_law_alone", "_law_found", "_law_asker"]
def Hde:NmF Sde N_de:=KO (by decide +kernel)
def GZ:SM:=
 ZI 6 (KN (UZ (Kb UJ (Za (K4 (UW 3)) 2 (gT 2 (gNC (gN 8) (gNC (gN 9) (gN0)))) (Zp oEq 8 (UW 7)) (UW 9))) (UZ (Kb UK (U1 oEq (U1 oIx (U8 2 (U2 (.int 1))) (UW 7)) (U2 (.int 0)))) (UY))))
def SS:SM:=
 U3 (Kj 3 (U7 3 WE (UZ (UW 0) (UZ (UW 1) (UZ (UW 2) (UY))))))
 (U3 (Wr 4 (Zn 4 (Za (K4 (UW 3)) 2 (gT 2 (gNC (gN 8) (gNC (gN 9) (gN0)))) (U2 zQ) (UW 8))))
 (U3 (Zn 5 (Za (K4 (UW 3)) 1 (gN 8) (Zw (U1 oEq (Vy (UW 4) (UZ (U8 8 (U2 (.int 0))) (UY))) (U2 (.int 1))) (U1 (oIB λi j=>decide (j<i)) (U1 oIx (U8 2 (U2 (.int 1))) (U8 8 (U2 (.int 0)))) (U2 (.int 0)))) (UW 8)))
 (U3 (Zn 6 (Ku (UZ (UW 3) (UZ (UW 5) (UZ (Kb UJ (Za (YS (UZ (Zb Kn (UZ (U8 2 (U2 (.int 1))) (UY))) (UY))) 1 (gN 8) (U1 (oIB λi j=>decide (j<i)) (U1 oIx (U8 2 (U2 (.int 1))) (UW 8)) (U2 (.int 0))) (UW 8))) (UY)))) λxs=>if xs.length<=1000000 then U2 xs else λ_=>.bad))
 (U3 (ZI 6 (Kb UJ (Za (YS (UZ (Zb Kn (UZ (U8 2 (U2 (.int 2))) (UY))) (UY))) 1 (gN 8) (U1 (oIB λi j=>decide (j<i)) (U1 oIx (U8 2 (U2 (.int 2))) (UW 8)) (U2 (.int 0))) (UW 8))))
 (U3 (KH (YS (UZ (Zb Kn (UZ (U8 2 (U2 (.int 1))) (UY))) (UY))) (gN 7) GZ)
 (Kc (UW 6)))))))
def V9:zS->zU:=Ki N_de SS
abbrev Sbx:Stmt:=top 68
noncomputable abbrev N_bx:List Str:=["askers", "worths", "prices", "asks", "asker", "thing", "worth"]
def Hbx:NmF Sbx N_bx:=KO (by decide +kernel)
def GY:SM:=
 Sn 3 (UW 4) (Zb P2 (UZ (U8 3 (UW 4)) (UZ (U1 Zl (UW 6) (U8 2 (UW 5))) (UY))))
def Rm:SM:=
 U3 (Zn 3 (RX (KS (UZ (U2 (.int 0)) (UY))) (UW 0)))
 (U3 (KH (K4 (UW 1)) (gT 3 (gNC (gN 4) (gNC (gN 5) (gNC (gN 6) (gN0))))) GY)
 (Kc (UW 3)))
def WF:zS->zU:=Ki N_bx Rm
abbrev Sbm:Stmt:=top 57
noncomputable abbrev N_bm:List Str:=["nothing", "got"]
def Hbm:NmF Sbm N_bm:=KO (by decide +kernel)
def g_bm:SM:=
 Kc (mIf (Kb isNon (UW 1)) (UW 0) (UW 1))
def Vk:zS->zU:=Ki N_bm g_bm
abbrev Sbn:Stmt:=top 58
noncomputable abbrev RT:List Str:=["nothing", "worths", "dealing", "had", "asker", "thing", "worth", "told"]
def Hbn:FnNm (Yw Sbn) RT ["place_of", "enumerate", "len"]:=KO (by decide +kernel)
def GX:SM:=
 sIf (U1 oNe (U8 2 (UW 4)) (UW 5))
 (ZI 7 (KN (UZ (U7 2 Vk (UZ (UW 0) (UZ (U8 2 (UW 4)) (UY)))) (UZ (UW 5) (UZ (U1 Zl (UW 6) (U8 3 (UW 4))) (UZ (UW 4) (UY)))))))
 (sNx)
def GW:SM:=
 sIf (U1 oEq (U8 2 (UW 4)) (UW 5))
 (Sn 3 (UW 4) (UW 6))
 (sNx)
def Rv:SM:=
 U3 (Zn 3 (RX (KS (UZ (U2 (.int 0)) (UY))) (Zk 2)))
 (U3 (KH (K4 (UW 1)) (gT 3 (gNC (gN 4) (gNC (gN 5) (gNC (gN 6) (gN0))))) GW)
 (U3 (Zn 7 (Vw (Za (YR (UZ (UW 2) (UY))) 2 (gT 2 (gNC (gN 8) (gNC (gN 9) (gN0)))) (Kb (λd=>!isNon d) (UW 9)) (KN (UZ (UW 9) (UZ (UW 0) (UZ (Yz (U8 3 (UW 8))) (UZ (UW 8) (UY)))))))))
 (U3 (KH (K4 (UW 1)) (gT 3 (gNC (gN 4) (gNC (gN 5) (gNC (gN 6) (gN0))))) GX)
 (Kc (UW 7)))))
def Tx:zS->zU:=Ki RT Rv
abbrev Sbo:Stmt:=top 59
noncomputable abbrev N_bo:List Str:=["wishes", "dealing", "nothing", "left", "to_nothing"]
def Hbo:NmF Sbo N_bo:=KO (by decide +kernel)
def Ru:SM:=
 U3 (Kj 2 (Zb Kn (UZ (U8 0 (U2 (.int 0))) (UY))))
 (U3 (Kj 3 (U7 2 WM (UZ (UW 0) (UZ (UW 1) (UY)))))
 (U3 (Zn 4 (Za (YR (UZ (UW 3) (UY))) 2 (gT 2 (gNC (gN 5) (gNC (gN 6) (gN0)))) (Zp (oIB λi j=>decide (j<i)) 6 (U2 (.int 0))) (KN (UZ (UW 5) (UZ (UW 2) (UZ (U2 (.int 0)) (UZ (U2 .none) (UY))))))))
 (Kc (U1 Kg (UW 4) (Kb UJ (Za (YS (UZ (UW 2) (UY))) 1 (gN 5) (U2 zQ) (KN (UZ (UW 2) (UZ (UW 5) (UZ (U2 (.int 0)) (UZ (U2 .none) (UY))))))))))))
def Tw:zS->zU:=Ki N_bo Ru
abbrev Sbp:Stmt:=top 60
noncomputable abbrev N_bp:List Str:=["wishes", "worths", "dealing"]
def Hbp:NmF Sbp N_bp:=KO (by decide +kernel)
def g_bp:SM:=
 Kc (U1 Kg (U7 3 Tx (UZ (Zb Kn (UZ (U8 0 (U2 (.int 0))) (UY))) (UZ (UW 1) (UZ (UW 2) (UY))))) (U7 2 Tw (UZ (UW 0) (UZ (UW 2) (UY)))))
def Y4:zS->zU:=Ki N_bp g_bp
abbrev Sbq:Stmt:=top 61
noncomputable abbrev N_bq:List Str:=["walks", "steps", "told", "step", "ahead", "behind", "gain", "asker", "gained", "walked"]
def Hbq:NmF Sbq N_bq:=KO (by decide +kernel)
def GV:SM:=
 U3 (Zc (UW 3) (gT 4 (gNC (gN 4) (gNC (gN 5) (gNC (gN 6) (gNC (gN 7) (gN0)))))))
 (U3 (Zc (U8 0 (UW 4)) (gT 2 (gNC (gN 8) (gNC (gN 9) (gN0)))))
 (sIf (U1 (oIB λi j=>decide (j<i)) (U1 Kg (UW 8) (UW 6)) (U1 oIx (U8 2 (UW 5)) (U2 (.int 0))))
 (Sn 2 (UW 5) (KN (UZ (U1 Kg (UW 8) (UW 6)) (UZ (U1 Kg (UW 9) (KS (UZ (UW 3) (UY)))) (UY)))))
 (sNx)))
def Rt:SM:=
 U3 (Zn 2 (Sx 0))
 (U3 (KH (K4 (UW 1)) (gN 3) GV)
 (Kc (UW 2)))
def Tv:zS->zU:=Ki N_bq Rt
abbrev Sbr:Stmt:=top 62
noncomputable abbrev N_br:List Str:=["places", "steps", "told", "turn"]
def Hbr:NmF Sbr N_br:=KO (by decide +kernel)
def Ax:SM:=
 Kj 2 (U7 2 Tv (UZ (UW 2) (UZ (UW 1) (UY))))
def Rs:SM:=
 U3 (Kj 2 (U1 KB (KS (UZ (KN (UZ (U2 (.int 0)) (UZ (KS (UY)) (UY)))) (UY))) (UW 0)))
 (U3 (KH (YS (UZ (UW 0) (UY))) (gN 3) Ax)
 (Kc (UW 2)))
def WI:zS->zU:=Ki N_br Rs
abbrev Sbw:Stmt:=top 67
noncomputable abbrev N_bw:List Str:=["wishes", "worths", "dealing", "nothing", "walks"]
def Hbw:NmF Sbw N_bw:=KO (by decide +kernel)
def Rn:SM:=
 U3 (Kj 3 (Zb Kn (UZ (U8 0 (U2 (.int 0))) (UY))))
 (U3 (Kj 4 (U7 2 WI (UZ (U1 Kg (UW 3) (U2 (.int 1))) (UZ (U7 3 Y4 (UZ (UW 0) (UZ (UW 1) (UZ (UW 2) (UY))))) (UY)))))
 (Kc (Kb UJ (Za (K4 (Yg (UW 4) (U2 zP) (Ku (UW 3) λx=>Kw (YT x)))) 2 (gT 2 (gNC (gN 5) (gNC (gN 6) (gN0)))) (U2 zQ) (UW 5)))))
def WG:zS->zU:=Ki N_bw Rn
abbrev Sby:Stmt:=top 69
noncomputable abbrev N_by:List Str:=["wishes", "worths", "dealing", "prices"]
def Hby:NmF Sby N_by:=KO (by decide +kernel)
def g_by:SM:=
 U3 (Kj 3 (U7 3 WG (UZ (UW 0) (UZ (UW 1) (UZ (UW 2) (UY))))))
 (Kc (KN (UZ (U2 (.int 1)) (UZ (U7 3 WF (UZ (Zb Kn (UZ (U8 0 (U2 (.int 1))) (UY))) (UZ (UW 1) (UZ (UW 3) (UY))))) (UZ (UW 3) (UY))))))
def Tt:zS->zU:=Ki N_by g_by
abbrev Sbs:Stmt:=top 63
noncomputable abbrev N_bs:List Str:=["walk", "end", "step", "begin"]
def Hbs:NmF Sbs N_bs:=KO (by decide +kernel)
def GU:SM:=
 sIf (U1 oEq (U1 oIx (U8 0 (UW 3)) (U2 (.int 0))) (U8 2 (U2 (.int 1))))
 (Kc (Yg (UW 0) (Ku (UW 3) λx=>Kw (YT x)) (Ku (U1 Kg (UW 1) (U2 (.int 1))) λx=>Kw (YT x))))
 (sNx)
def GT:SM:=
 KH (YS (UZ (U1 Kg (UW 1) (U2 (.int 1))) (UY))) (gN 3) GU
def Rr:SM:=
 U3 (KH (YR (UZ (UW 0) (UY))) (gT 2 (gNC (gN 1) (gNC (gN 2) (gN0)))) GT)
 (Kc (KS (UY)))
def Tu:zS->zU:=Ki N_bs Rr
abbrev Sbt:Stmt:=top 64
noncomputable abbrev N_bt:List Str:=["nothing", "steps", "begin", "number", "step", "way", "ahead", "behind", "gain", "asker"]
def Hbt:NmF Sbt N_bt:=KO (by decide +kernel)
def GS:SM:=
 sIf (Kb (λd=>!isNon d) (UW 9))
 (ZI 5 (KN (UZ (UW 9) (UZ (mIf (Zp oEq 7 (UW 0)) (U2 .none) (UW 7)) (UY)))))
 (sNx)
def GR:SM:=
 sIf (U1 oEq (U8 4 (U2 (.int 0))) (UW 0))
 (Kj 2 (UW 3))
 (sNx)
def Rq:SM:=
 U3 (Kj 2 (U2 (.int 0)))
 (U3 (KH (YR (UZ (UW 1) (UY))) (gT 2 (gNC (gN 3) (gNC (gN 4) (gN0)))) GR)
 (U3 (Zn 5 (Ku (UY) λxs=>if xs.length<=1000000 then U2 xs else λ_=>.bad))
 (U3 (KH (K4 (U1 Kg (Yg (UW 1) (Ku (UW 2) λx=>Kw (YT x)) (U2 zP)) (Yg (UW 1) (U2 zP) (Ku (UW 2) λx=>Kw (YT x))))) (gT 4 (gNC (gN 6) (gNC (gN 7) (gNC (gN 8) (gNC (gN 9) (gN0)))))) GS)
 (Kc (UW 5)))))
def X7:zS->zU:=Ki N_bt Rq
abbrev Sbu:Stmt:=top 65
noncomputable abbrev N_bu:List Str:=["wishes", "worths", "dealing", "nothing", "gained", "walk"]
def Hbu:NmF Sbu N_bu:=KO (by decide +kernel)
def GQ:SM:=
 sIf (U1 oEq (Zk 5) (U1 Kg (UW 3) (U2 (.int 1))))
 (Kc (U7 2 X7 (UZ (UW 3) (UZ (U7 1 Tu (UZ (UW 5) (UY))) (UY)))))
 (sNx)
def Rp:SM:=
 U3 (Kj 3 (Zb Kn (UZ (U8 0 (U2 (.int 0))) (UY))))
 (U3 (KH (K4 (U7 2 WI (UZ (U1 Kg (UW 3) (U2 (.int 1))) (UZ (U7 3 Y4 (UZ (UW 0) (UZ (UW 1) (UZ (UW 2) (UY))))) (UY))))) (gT 2 (gNC (gN 4) (gNC (gN 5) (gN0)))) GQ)
 (Kc (KS (UY))))
def Vj:zS->zU:=Ki N_bu Rp
abbrev Sbl:Stmt:=top 55
noncomputable abbrev N_bl:List Str:=["dealing", "way", "told", "asker", "taken"]
def Hbl:NmF Sbl N_bl:=KO (by decide +kernel)
noncomputable def GP:SM:=
 Sn 2 (UW 3) (UW 4)
def Rw:SM:=
 U3 (Zn 2 (Sx 0))
 (U3 (KH (K4 (UW 1)) (gT 2 (gNC (gN 3) (gNC (gN 4) (gN0)))) GP)
 (Kc (UW 2)))
def WJ:zS->zU:=Ki N_bl Rw
abbrev Sbv:Stmt:=top 66
noncomputable abbrev N_bv:List Str:=["wishes", "worths", "dealing", "way"]
def Hbv:NmF Sbv N_bv:=KO (by decide +kernel)
def O8:SM:=
 U3 (Kj 2 (U7 2 WJ (UZ (UW 2) (UZ (UW 3) (UY)))))
 (Kj 3 (U7 3 Vj (UZ (UW 0) (UZ (UW 1) (UZ (UW 2) (UY))))))
def Ro:SM:=
 U3 (Kj 2 (U1 KB (KS (UZ (U2 .none) (UY))) (Zb Kn (UZ (U8 0 (U2 (.int 1))) (UY)))))
 (U3 (Kj 3 (U7 3 Vj (UZ (UW 0) (UZ (UW 1) (UZ (UW 2) (UY))))))
 (U3 (Wo (Nb (UW 3)) O8 Vr)
 (Kc (UW 2))))
def WH:zS->zU:=Ki N_bv Ro
abbrev Sbz:Stmt:=top 71
noncomputable abbrev N_bz:List Str:=["wishes", "aim", "worths", "dealing"]
def Hbz:NmF Sbz N_bz:=KO (by decide +kernel)
def g_bz:SM:=
 U3 (Kj 2 (U7 2 Y5 (UZ (UW 0) (UZ (UW 1) (UY)))))
 (U3 (Kj 3 (U7 2 WH (UZ (UW 0) (UZ (UW 2) (UY)))))
 (Kc (KN (UZ (UW 3) (UZ (U7 3 Tt (UZ (UW 0) (UZ (UW 2) (UZ (UW 3) (UY))))) (UY))))))
def Ts:zS->zU:=Ki N_bz g_bz
abbrev Scf:Stmt:=top 78
noncomputable abbrev N_cf:List Str:=["dealing", "steps", "roads", "nothing", "told", "step", "ahead", "behind", "gain", "asker", "is_left", "shown"]
def Hcf:NmF Scf N_cf:=KO (by decide +kernel)
def GO:SM:=
 U3 (Zc (UW 5) (gT 4 (gNC (gN 6) (gNC (gN 7) (gNC (gN 8) (gNC (gN 9) (gN0)))))))
 (U3 (Kj 10 (Wm (Kb (λd=>.bool (isNon d)) (UW 9)) (Kb UK (Zp oEq 7 (UW 3)))))
 (sIf (Zw (Zp Ye 6 (U8 2 (UW 7))) (KF (Zq (UW 10))))
 (U3 (Kj 11 (U7 2 WJ (UZ (UW 0) (UZ (U7 2 X7 (UZ (UW 3) (UZ (U1 Kg (KS (UZ (UW 5) (UY))) (U1 T3 (U8 2 (UW 7)) (UW 6))) (UY)))) (UY)))))
 (sIf (RZ Y1 (UW 11) 4)
 (ZI 4 (UW 11))
 (sNx)))
 (sNx)))
def Rh:SM:=
 U3 (Kj 3 (U1 Zl (Zk 2) (U2 (.int 1))))
 (U3 (Zn 4 (Ku (UZ (Kb UJ (Sx 0)) (UY)) λxs=>if xs.length<=1000000 then U2 xs else λ_=>.bad))
 (U3 (KH (K4 (UW 1)) (gN 5) GO)
 (Kc (UW 4))))
def Vi:zS->zU:=Ki N_cf Rh
abbrev Scd:Stmt:=top 76
noncomputable abbrev N_cd:List Str:=["prices", "roads", "times", "led_from"]
def Hcd:NmF Scd N_cd:=KO (by decide +kernel)
def Rj:SM:=
 U3 (Kj 2 (Zk 1))
 (U3 (Zn 3 (Za (YS (UZ (UW 2) (UY))) 1 (gN 4) (U2 zQ) (Zb Kn (UZ (Kb UJ (Za (K4 (UW 1)) 1 (gN 5) (Zp Ye 4 (UW 5)) (UW 5))) (UY)))))
 (Kc (Kb UJ (Pj (YR (UZ (UW 0) (UY))) 2 (gT 2 (gNC (gN 4) (gNC (gN 5) (gN0)))) (U2 zQ) (U1 Zl (U1 Kg (U1 KB (UW 2) (UW 5)) (U8 3 (UW 4))) (U8 3 (Yz (U2 (.int 1)))))))))
def To:zS->zU:=Ki N_cd Rj
abbrev Sce:Stmt:=top 77
noncomputable abbrev N_ce:List Str:=["askers", "worths", "prices", "roads", "times", "finer", "asks"]
def Hce:NmF Sce N_ce:=KO (by decide +kernel)
def Ri:SM:=
 U3 (Kj 4 (Zk 3))
 (U3 (Kj 5 (U7 2 To (UZ (UW 2) (UZ (UW 3) (UY)))))
 (U3 (Kj 6 (U7 3 WF (UZ (UW 0) (UZ (Kb UJ (Za (K4 (UW 1)) 3 (gT 3 (gNC (gN 7) (gNC (gN 8) (gNC (gN 9) (gN0))))) (U2 zQ) (KN (UZ (UW 7) (UZ (UW 8) (UZ (U1 KB (UW 4) (UW 9)) (UY))))))) (UZ (UW 5) (UY))))))
 (Kc (KN (UZ (UW 4) (UZ (UW 6) (UZ (UW 5) (UY))))))))
def Tn:zS->zU:=Ki N_ce Ri
abbrev Scb:Stmt:=top 74
noncomputable abbrev N_cb:List Str:=["place", "places", "steps", "told", "turn", "step"]
def Hcb:NmF Scb N_cb:=KO (by decide +kernel)
def GN:SM:=
 sIf (Zw (Xz zQ 3 (U8 5 (U2 (.int 0)))) (Xz zR 3 (U8 5 (U2 (.int 1)))))
 (OI 3 (U8 5 (U2 (.int 1))) (U1 Kg (Vb 3 (U8 5 (U2 (.int 0)))) (KS (UZ (UW 5) (UY)))))
 (sNx)
def GM:SM:=
 KH (K4 (UW 2)) (gN 5) GN
def Rk:SM:=
 U3 (RW 3 .dic (NX [(UW 0,KS (UY))]))
 (U3 (KH (YS (UZ (UW 1) (UY))) (gN 4) GM)
 (Kc (PN 3)))
def Tq:zS->zU:=Ki N_cb Rk
abbrev Scc:Stmt:=top 75
noncomputable abbrev N_cc:List Str:=["places", "steps"]
def Hcc:NmF Scc N_cc:=KO (by decide +kernel)
def g_cc:SM:=
 Kc (Kb UJ (Za (YS (UZ (UW 0) (UY))) 1 (gN 2) (U2 zQ) (U7 3 Tq (UZ (UW 2) (UZ (UW 0) (UZ (UW 1) (UY)))))))
def Tp:zS->zU:=Ki N_cc g_cc
abbrev Sca:Stmt:=top 73
noncomputable abbrev N_ca:List Str:=["steps", "prices", "paid"]
def Hca:NmF Sca N_ca:=KO (by decide +kernel)
def Rl:SM:=
 U3 (Kj 2 (U1 Kg (UW 1) (KS (UZ (U2 (.int 0)) (UY)))))
 (Kc (Kb UJ (Za (K4 (UW 0)) 1 (gN 3) (U1 oEq (U1 Kg (U8 2 (U8 3 (U2 (.int 0)))) (U8 3 (U2 (.int 2)))) (U8 2 (U8 3 (U2 (.int 1))))) (UW 3))))
def Tr:zS->zU:=Ki N_ca Rl
abbrev Scg:Stmt:=top 80
noncomputable abbrev N_cg:List Str:=["wishes", "aim", "worths", "dealing", "prices", "steps", "roads"]
def Hcg:NmF Scg N_cg:=KO (by decide +kernel)
def Rg:SM:=
 U3 (Kj 2 (U7 2 Y5 (UZ (UW 0) (UZ (UW 1) (UY)))))
 (U3 (Kj 3 (U7 2 WH (UZ (UW 0) (UZ (UW 2) (UY)))))
 (U3 (Kj 4 (U7 3 WG (UZ (UW 0) (UZ (UW 2) (UZ (UW 3) (UY))))))
 (U3 (Kj 5 (U7 2 Tr (UZ (U7 3 Y4 (UZ (UW 0) (UZ (UW 2) (UZ (UW 3) (UY))))) (UZ (UW 4) (UY)))))
 (U3 (Kj 6 (U7 2 Tp (UZ (U1 Kg (Zk 4) (U2 (.int 1))) (UZ (UW 5) (UY)))))
 (Kc (KN (UZ (U7 4 Tn (UZ (Zk 3) (UZ (UW 2) (UZ (UW 4) (UZ (UW 6) (UY)))))) (UZ (U7 3 Vi (UZ (UW 3) (UZ (UW 5) (UZ (UW 6) (UY))))) (UY)))))))))
def Tl:zS->zU:=Ki N_cg Rg
abbrev Scp:Stmt:=top 90
noncomputable abbrev N_cp:List Str:=["_law_wishes_here", "_law_cell", "_law_salt", "_law_askers", "_law_digits", "_law_old", "_law_turns", "_law_digit"]
def Hcp:NmF Scp N_cp:=KO (by decide +kernel)
noncomputable def My:SM:=
 Kj 7 (U1 Y2 (U1 Kg (UW 7) (U2 (.int 1))) (UW 3))
noncomputable def GL:SM:=
 U3 (Wo (RZ oIn (UW 7) 6) My 1000)
 (ZI 6 (UW 7))
def Rb:SM:=
 U3 (Kj 3 (Zb Kn (UZ (U8 0 (U2 (.int 1))) (UY))))
 (U3 (Kj 4 (U7 3 Xj (UZ (UW 1) (UZ (UW 2) (UZ (U1 Kg (U1 Kg (KS (UZ (U2 (.int 3)) (UZ (U2 (.int 2)) (UZ (U1 Kg (UW 3) (U2 (.int 1))) (UY))))) (U1 KB (KS (UZ (U1 Kg (Zb Kn (UZ (U8 0 (U2 (.int 0))) (UY))) (U2 (.int 1))) (UY))) (UW 3))) (U1 KB (KS (UZ (UW 3) (UY))) (UW 3))) (UY))))))
 (U3 (Kj 5 (U2 .none))
 (U3 (sIf (U1 oEq (U8 4 (U2 (.int 1))) (U2 (.int 1)))
 (Zn 5 (Za (K4 (Yg (UW 4) (Ku (U2 (.int 3)) λx=>Kw (YT x)) (Ku (U1 Kg (U2 (.int 3)) (UW 3)) λx=>Kw (YT x)))) 1 (gN 8) (U2 zQ) (U1 oIx (KS (UZ (U2 .none) (UZ (U1 Zl (UW 8) (U2 (.int 1))) (UY)))) (Zb PZ (UZ (Kb UK (Zp (oIB λi j=>decide (j<i)) 8 (U2 (.int 0)))) (UY))))))
 (sNx))
 (U3 (Zn 6 (Ku (UY) λxs=>if xs.length<=1000000 then U2 xs else λ_=>.bad))
 (U3 (KH (K4 (Yg (UW 4) (Ku (U1 Kg (U2 (.int 3)) (UW 3)) λx=>Kw (YT x)) (Ku (U1 Kg (U1 Kg (U2 (.int 3)) (UW 3)) (U8 4 (U2 (.int 2)))) λx=>Kw (YT x)))) (gN 7) GL)
 (Kc (KN (UZ (U1 oIx (KS (UZ (U2 (.str "firsts")) (UZ (U2 (.str "full")) (UZ (U2 (.str "lasts")) (UY))))) (U8 4 (U2 (.int 0)))) (UZ (UW 5) (UZ (UW 6) (UY)))))))))))
def Tg:zS->zU:=Ki N_cp Rb
abbrev Sco:Stmt:=top 89
noncomputable abbrev N_co:List Str:=["_law_script", "_law_at", "_law_most_things", "_law_most_askers", "_law_most_ranks", "_law_digits", "_law_copies", "_law_lists", "_law_asker", "_law_cell", "_law_places", "_law_ranks", "_law_rank_here", "_law_row"]
def Hco:NmF Sco N_co:=KO (by decide +kernel)
def Mx:SM:=
 U3 (Zn 13 (Za (YS (UZ (Zk 6) (UY))) 1 (gN 14) (U1 oEq (U8 10 (UW 14)) (UW 12)) (UW 14)))
 (sIf (Zp oNe 13 (KS (UY)))
 (ZI 11 (U1 oIx (KS (UZ (UW 13) (UZ (V6 (UW 13) (U2 zP) (U2 zP) (Ku (Yz (U2 (.int 1))) λx=>Kw (YT x))) (UY)))) (U8 10 (Yz (U2 (.int 1))))))
 (sNx))
def Mw:SM:=
 U3 (Kj 9 (U7 2 X6 (UZ (UW 0) (UZ (U1 Kg (U1 Kg (UW 1) (U2 (.int 1))) (UW 8)) (UY)))))
 (U3 (Kj 10 (U7 3 Xj (UZ (UW 9) (UZ (U1 Kg (U1 Kg (U1 KB (U2 (.int 11)) (UW 1)) (U1 KB (U2 (.int 3)) (UW 8))) (U2 (.int 1))) (UZ (U1 Kg (U1 KB (KS (UZ (U1 Kg (UW 4) (U2 (.int 1))) (UY))) (UW 2)) (KS (UZ (U2 (.int 2)) (UY)))) (UY))))))
 (U3 (Zn 11 (Ku (UY) λxs=>if xs.length<=1000000 then U2 xs else λ_=>.bad))
 (U3 (KH (NU (UZ (U2 (.int 1)) (UZ (U1 Kg (UW 4) (U2 (.int 1))) (UY)))) (gN 12) Mx)
 (ZI 7 (UW 11)))))
def Rc:SM:=
 U3 (Kj 5 (U7 3 Xj (UZ (U7 2 X6 (UZ (UW 0) (UZ (UW 1) (UY)))) (UZ (UW 1) (UZ (U1 Kg (KS (UZ (UW 2) (UZ (UW 3) (UY)))) (U1 KB (KS (UZ (U2 (.int 11)) (UY))) (UW 2))) (UY))))))
 (U3 (Zn 6 (Za (K4 (Yg (UW 5) (Ku (U2 (.int 2)) λx=>Kw (YT x)) (Ku (U1 Kg (U2 (.int 3)) (U8 5 (U2 (.int 0)))) λx=>Kw (YT x)))) 1 (gN 14) (U2 zQ) (U1 oIx (KS (UZ (U2 (.int 1)) (UZ (U2 (.int 1)) (UZ (U2 (.int 2)) (UZ (U2 (.int 0)) (UZ (U2 (.int 3)) (UZ (U2 (.int 7)) (UZ (U2 (.int 1)) (UZ (U2 (.int 4)) (UZ (U2 (.int 5)) (UZ (U2 (.int 6)) (UZ (U2 (.int 1)) (UY))))))))))))) (UW 14))))
 (U3 (Zn 7 (Ku (UY) λxs=>if xs.length<=1000000 then U2 xs else λ_=>.bad))
 (U3 (KH (YS (UZ (U1 Kg (U2 (.int 1)) (U8 5 (U2 (.int 1)))) (UY))) (gN 8) Mw)
 (Kc (KN (UZ (UW 6) (UZ (UW 7) (UY))))))))
def Th:zS->zU:=Ki N_co Rc
abbrev Sdf:Stmt:=top 106
noncomputable abbrev N_df:List Str:=["_law_script", "_law_wishes_here", "_law_k", "_law_cell", "_law_aim_here", "_law_web", "_law_paper", "_law_some", "_law_best", "_law_due_here", "_law_digits", "_law_at", "_law_others", "_law_other"]
def Hdf:NmF Sdf N_df:=KO (by decide +kernel)
def GK:SM:=
 sIf (mOr (U1 NW (U7 3 WK (UZ (UW 1) (UZ (UW 4) (UZ (UW 13) (UY))))) (U2 (.bool zQ))) (U1 oNe (U7 3 Ve (UZ (UW 1) (UZ (UW 4) (UZ (UW 13) (UY))))) (UW 9)))
 (Kc (U2 (.bool zR)))
 (sNx)
def GJ:SM:=
 U3 (Kj 4 (U7 3 Tg (UZ (UW 1) (UZ (UW 3) (UZ (U1 Kg (U2 (.int 20)) (UW 2)) (UY))))))
 (U3 (Kj 5 (U7 2 Tl (UZ (UW 1) (UZ (UW 4) (UY)))))
 (U3 (Zc (UW 5) (gT 2 (gNC (gN 6) (gNC (gN 7) (gN0)))))
 (U3 (Kj 8 (U7 2 Ts (UZ (UW 1) (UZ (UW 4) (UY)))))
 (U3 (sIf (U1 oNe (U1 KB (U7 2 X9 (UZ (UW 1) (UZ (U8 8 (U2 (.int 1))) (UY)))) (U8 6 (U2 (.int 0)))) (U1 KB (U7 2 X9 (UZ (UW 1) (UZ (UW 6) (UY)))) (U1 oIx (U8 8 (U2 (.int 1))) (U2 (.int 0)))))
 (Kc (U2 (.bool zR)))
 (sNx))
 (U3 (Kj 9 (U7 3 V9 (UZ (UW 1) (UZ (UW 4) (UZ (U8 5 (U2 (.int 0))) (UY))))))
 (U3 (sIf (U1 oNe (U7 3 Ve (UZ (UW 1) (UZ (UW 4) (UZ (UW 5) (UY))))) (UW 9))
 (Kc (U2 (.bool zR)))
 (sNx))
 (U3 (Kj 10 (U7 3 Xj (UZ (UW 3) (UZ (U1 Kg (U2 (.int 50)) (UW 2)) (UZ (KS (UZ (U2 (.int 5)) (UZ (U2 (.int 61)) (UY)))) (UY))))))
 (U3 (Kj 11 (U1 Y2 (U8 10 (U2 (.int 1))) (Zk 7)))
 (U3 (Zn 12 (Ku (UZ (KN (UZ (U7 3 WD (UZ (UW 6) (UZ (U8 8 (U2 (.int 1))) (UZ (U1 Kg (U8 10 (U2 (.int 0))) (U2 (.int 1))) (UY))))) (UZ (U1 Kg (UW 7) (KS (UZ (U8 8 (U2 (.int 0))) (UY)))) (UY)))) (UY)) λxs=>if xs.length<=1000000 then U2 xs else λ_=>.bad))
 (U3 (ZI 12 (KN (UZ (U7 3 WD (UZ (UW 6) (UZ (UW 6) (UZ (U2 (.int 3)) (UY))))) (UZ (V6 (UW 7) (U2 zP) (U2 zP) (Ku (Yz (U2 (.int 1))) λx=>Kw (YT x))) (UY)))))
 (U3 (ZI 12 (KN (UZ (UW 6) (UZ (U1 Kg (Yg (UW 7) (Ku (UW 11) λx=>Kw (YT x)) (U2 zP)) (UW 7)) (UY)))))
 (U3 (ZI 12 (KN (UZ (U7 3 WD (UZ (UW 6) (UZ (UW 6) (UZ (U1 W9 (U2 (.int 10)) (U2 (.int 19))) (UY))))) (UZ (UW 7) (UY)))))
 (U3 (KH (K4 (UW 12)) (gN 13) GK)
 (U3 (Kj 13 (KN (UZ (UW 6) (UZ (U1 Kg (Yg (UW 7) (U2 zP) (Ku (UW 11) λx=>Kw (YT x))) (Yg (UW 7) (Ku (U1 Kg (UW 11) (U2 (.int 1))) λx=>Kw (YT x)) (U2 zP))) (UY)))))
 (sIf (U1 oNe (U7 3 WK (UZ (UW 1) (UZ (UW 4) (UZ (UW 13) (UY))))) (U7 3 Vf (UZ (UW 1) (UZ (UW 4) (UZ (UW 13) (UY))))))
 (Kc (U2 (.bool zR)))
 (sNx))))))))))))))))
def SR:SM:=
 U3 (Kj 1 (U7 5 Th (UZ (UW 0) (UZ (U2 (.int 0)) (UZ (U2 (.int 6)) (UZ (U2 (.int 7)) (UZ (U2 (.int 5)) (UY))))))))
 (U3 (KH (YR (UZ (U1 Kg (KS (UZ (U7 2 X6 (UZ (UW 0) (UZ (U2 (.int 8)) (UY)))) (UY))) (Yg (UW 0) (Ku (U2 (.int 9)) λx=>Kw (YT x)) (Ku (U2 (.int 10)) λx=>Kw (YT x)))) (UY))) (gT 2 (gNC (gN 2) (gNC (gN 3) (gN0)))) GJ)
 (Kc (U2 (.bool zQ))))
def V8:zS->zU:=Ki N_df SR
set_option hygiene false in
local macro_rules | `(tactic| walk_at "g")=>`(tactic| first | exact gA nm rfl | exact Ab rfl)
set_option hygiene false in
local macro_rules | `(tactic| walk_at "v")=>`(tactic| first | exact pq nm _ | exact pvb _)
set_option hygiene false in
local macro_rules | `(tactic| walk_at "b")=>`(tactic| first | ((with_reducible show OpB _ (compareOp CmpOp.Eq) _);first | exact B_eq hu) | ((with_reducible show OpB _ (compareOp CmpOp.NotEq) _);first | exact B_ne hu) | ((with_reducible show OpB _ (compareOp CmpOp.Lt) _);first | exact B_lt) | ((with_reducible show OpB _ (compareOp CmpOp.LtE) _);first | exact B_le) | ((with_reducible show OpB _ (compareOp CmpOp.Gt) _);first | exact B_gt) | ((with_reducible show OpB _ (compareOp CmpOp.GtE) _);first | exact B_ge) | ((with_reducible show OpB _ (compareOp CmpOp.In) _);first | exact B_in hu | exact Cg hu) | ((with_reducible show OpB _ (compareOp CmpOp.NotIn) _);first | exact Cu hu) | ((with_reducible show OpB _ (compareOp CmpOp.IsNot) _);first | exact Ao))
set_option hygiene false in
local macro_rules | `(tactic| walk_at "m")=>`(tactic| first | exact Mj _ | exact rfl)
set_option hygiene false in
local macro_rules | `(tactic| walk_at "k")=>`(tactic| first | exact Eb | exact vA | exact vz | exact vy)
set_option hygiene false in
local macro_rules | `(tactic| walk_at "w")=>`(tactic| first | exact PassesOwn.never)
set_option hygiene false in
local macro_rules | `(tactic| walk_at "x")=>`(tactic| first | assumption | exact wants_cx)
set_option hygiene false in
local macro_rules | `(tactic| walk_at "c")=>`(tactic| first | exact T.c_MOST_ASKERS | exact T.c_MOST_COPIES | exact T.c_MOST_RANKS | exact T.c_MOST_THINGS | exact T.c_ORDERS)
set_option hygiene false in
local macro_rules | `(tactic| walk_at "ck")=>`(tactic| fail)
section
variable{P:Uz}{w:World}{K:Frag}{mg:Str->zY}{base:Heap}{f:UA}{fd:UB}(T:Txt K mg)
include T
theorem Kbn(bJ:Def P w K mg base "place_of" 1 2 Vk)(F:Fun K "steps_of_askers" "steps_of_askers" Sbn f fd):FnOk P w K mg base CX0 2 f fd ["nothing", "worths", "dealing"] (spD K 3 Tx):=
 okD (k:=1) (g:=Rv) F (fq Hbn 3) zO λcdv A outer s H E B G0 hr=>
 have hu:=hr.units;have hgd:=hr.gd
 (Pn (Fy (i:=3) (nq Hbn) zO (lq Hbn 3) (Fq (MH (Wk Hl Pp)) (Ed (gq Hbn 2) T.b_len (pq Hbn 2))))
 (Pn (Mf UQ zO (Me (YF (pq Hbn 1))) (OT zO (VS (VE (VG (i:=4) (nq Hbn) zO (lq Hbn 4))) (VS (VE (VG (i:=5) (nq Hbn) zO (lq Hbn 5))) (VS (VE (VG (i:=6) (nq Hbn) zO (lq Hbn 6))) OU))))
 (Pe (NV (MI (B_eq hu) (Po (pq Hbn 2) (YF (pq Hbn 4)) (λ_ _=>rfl)) (YF (pq Hbn 5)) (Mj _))
 (Pe (Ff (YF (pq Hbn 6)) (pq Hbn 3) (YF (pq Hbn 4))))
 Mm)))
 (Pn (Ch (j:=7) (Yw Sbn) RT ["nothing", "worths", "dealing", "had", ".asker", "thing", "worth", "told", "asker", "got"] 2 Eb (nq Hbn) zO zO zO (λB' G'=>(Fi (gq Hbn 1) T.b_enumerate (Wk (YF (pq Hbn 2)) Pp))) (λcl C s0 H0 ex=>⟨λB' G'=>(OT zO (VS (VE (VG (i:=8) (show(["nothing", "worths", "dealing", "had", ".asker", "thing", "worth", "told", "asker", "got"]:List Str).Nodup by decide +kernel) zO (Pm zO).1 (Pm zO).2)) (VS (VE (VG (i:=9) (show(["nothing", "worths", "dealing", "had", ".asker", "thing", "worth", "told", "asker", "got"]:List Str).Nodup by decide +kernel) zO (Pm zO).1 (Pm zO).2)) OU))),λB' G'=>(Fg (Ee (YF (pvb 9)))),(EM zO zO zO λB' G'=>(O6 (Wk (YF (pvb 9)) (Wk (YF (pvb 0)) (Wk (Fh (Po (pvb 3) (YF (pvb 8)) (λ_ _=>rfl))) (Wk (YF (pvb 8)) Pp))))))⟩) zO zO (by decide +kernel))
 (Pn (Mf UQ zO (Me (YF (pq Hbn 1))) (OT zO (VS (VE (VG (i:=4) (nq Hbn) zO (lq Hbn 4))) (VS (VE (VG (i:=5) (nq Hbn) zO (lq Hbn 5))) (VS (VE (VG (i:=6) (nq Hbn) zO (lq Hbn 6))) OU))))
 (Pe (NV (MI (B_ne hu) (Po (pq Hbn 2) (YF (pq Hbn 4)) (λ_ _=>rfl)) (YF (pq Hbn 5)) (Mj _))
 (Pe (HL (pq Hbn 7) (O6 (Wk (pdf bJ hr (gq Hbn 0) (Wk (YF (pq Hbn 0)) (Wk (Po (pq Hbn 2) (YF (pq Hbn 4)) (λ_ _=>rfl)) Pp))) (Wk (YF (pq Hbn 5)) (Wk (TZ L0 (YF (pq Hbn 6)) (Po (pq Hbn 3) (YF (pq Hbn 4)) (λ_ _=>rfl))) (Wk (YF (pq Hbn 4)) Pp)))))))
 Mm)))
 (Pe (HM (YF (pq Hbn 7))))))))
end
structure Oks(K:Frag)(δ:Str->Nat->Nat->(zS->zU)->Prop)(ε:Str->Stmt->Nat->List Str->Sp->Prop):Prop where
 j_0:ε "_law_cell_at" Scm 1 ["_law_script", "_law_k"] (spD K 2 X6)
 j_1:ε "shows_nothing" Sbi 1 ["dealings", "asks"] (spD K 2 TB)
 j_2:ε "is_whole" Saa 1 ["thing"] (spD K 1 Yr)
 j_3:δ "is_whole" 1 1 Yr->ε "is_number_below" Sae 2 ["thing", "many"] (spD K 2 Yq)
 j_4:δ "is_number_below" 2 2 Yq->ε "is_rank" Sag 3 ["thing", "things"] (spD K 2 Vp)
 j_5:δ "is_rank" 3 2 Vp->ε "is_asker_list" Sah 4 ["thing", "things"] (spD K 2 TR)
 j_6:δ "is_asker_list" 4 2 TR->ε "look_at_lists" Sai 5 ["lists", "things"] (spD K 2 TQ)
 j_7:δ "is_number_below" 2 2 Yq->ε "look_at_copies" Saf 3 ["copies"] (spD K 1 TU)
 j_8:δ "look_at_lists" 5 2 TQ->δ "look_at_copies" 3 1 TU->ε "look_at_wishes" Saj 6 ["thing"] (spD K 1 Yi)
 j_9:δ "look_at_wishes" 6 1 Yi->ε "copies_left" Sap 7 ["wishes", "dealing"] (spD K 2 WM)
 j_10:δ "copies_left" 7 2 WM->ε "shows_left" Sbj 8 ["wishes", "dealings", "prices"] (spD K 3 Tz)
 j_11:δ "look_at_wishes" 6 1 Yi->ε "all_wishes" Sam 7 ["wishes"] (spD K 1 TN)
 j_12:ε "power" Sav 1 ["base", "times"] (spD K 2 ZY)
 j_13:δ "power" 1 2 ZY->ε "worth_by_turns" Sax 2 ["turns", "base", "asker", "rank"] (spD K 4 TF)
 j_14:δ "power" 1 2 ZY->ε "worth_by_order" Saw 2 ["order", "base", "most", "rank"] (spD K 4 TH)
 j_15:ε "rank_in" Sak 1 ["ranks", "thing"] (spD K 2 WO)
 j_16:δ "power" 1 2 ZY->δ "worth_by_turns" 2 4 TF->δ "worth_by_order" 2 4 TH->δ "rank_in" 1 2 WO->ε "worth_by_aim" Say 3 ["wishes", "aim", "most", "asker", "thing"] (spD K 5 XG)
 j_17:δ "look_at_wishes" 6 1 Yi->ε "longest" Sal 7 ["wishes"] (spD K 1 WN)
 j_18:δ "is_number_below" 2 2 Yq->ε "is_turns" Sat 3 ["thing", "askers"] (spD K 2 TJ)
 j_19:δ "is_number_below" 2 2 Yq->ε "is_old" Sas 3 ["thing", "askers", "things"] (spD K 3 TK)
 j_20:ε "is_order" Saq 1 ["thing"] (spD K 1 TM)
 j_21:δ "is_order" 1 1 TM->ε "look_at_order" Sar 2 ["thing"] (spD K 1 TL)
 j_22:δ "is_turns" 3 2 TJ->δ "is_old" 3 3 TK->δ "look_at_order" 2 1 TL->δ "look_at_wishes" 6 1 Yi->ε "look_at_aim" Sau 7 ["wishes", "thing"] (spD K 2 Y6)
 j_23:δ "all_wishes" 7 1 TN->δ "worth_by_aim" 3 5 XG->δ "longest" 7 1 WN->δ "look_at_aim" 7 2 Y6->ε "all_worths" Saz 8 ["wishes", "aim"] (spD K 2 Y5)
 j_24:δ "all_worths" 8 2 Y5->ε "tight_wishes" Sbf 9 ["wishes", "aim", "paper"] (spD K 3 WL)
 j_25:ε "shows_wishes" Sbh 1 ["dealings", "wanted"] (spD K 2 Vl)
 j_26:δ "worth_by_aim" 3 5 XG->δ "longest" 7 1 WN->δ "look_at_aim" 7 2 Y6->ε "worth_of" Sba 8 ["wishes", "aim", "dealing"] (spD K 3 TD)
 j_27:δ "look_at_wishes" 6 1 Yi->ε "claim_of" Sbe 7 ["wishes", "paper"] (spD K 2 X9)
 j_28:δ "is_whole" 1 1 Yr->ε "has_form" San 2 ["thing", "askers"] (spD K 2 Vo)
 j_29:δ "rank_in" 1 2 WO->δ "has_form" 2 2 Vo->δ "look_at_wishes" 6 1 Yi->ε "what_is_wrong" Sao 7 ["wishes", "thing"] (spD K 2 Vn)
 j_30:δ "worth_of" 8 3 TD->δ "claim_of" 7 2 X9->δ "what_is_wrong" 7 2 Vn->ε "is_claimed" Sbg 9 ["wishes", "aim", "paper", "thing"] (spD K 4 X8)
 j_31:δ "is_whole" 1 1 Yr->ε "is_number" Sab 2 ["thing"] (spD K 1 Vq)
 j_32:δ "is_number" 2 1 Vq->ε "are_numbers" Sac 3 ["things", "many"] (spD K 2 TV)
 j_33:δ "are_numbers" 3 2 TV->ε "is_number_list" Sbb 4 ["thing", "many"] (spD K 2 Wa)
 j_34:δ "is_number_list" 4 2 Wa->δ "is_whole" 1 1 Yr->ε "has_paper_form" Sbc 5 ["wishes", "thing"] (spD K 2 TC)
 j_35:δ "has_paper_form" 5 2 TC->δ "all_worths" 8 2 Y5->ε "lets_paper" Sbd 9 ["wishes", "aim", "thing"] (spD K 3 Vm)
 j_36:δ "shows_nothing" 1 2 TB->δ "shows_left" 8 3 Tz->δ "tight_wishes" 9 3 WL->δ "shows_wishes" 1 2 Vl->δ "is_claimed" 9 4 X8->δ "lets_paper" 9 3 Vm->δ "look_at_aim" 7 2 Y6->ε "lets_web" Sbk 10 ["wishes", "aim", "thing"] (spD K 3 WK)
 j_37:ε "_law_wished" Scs 1 ["_law_wishes_here", "_law_asker"] (spD K 2 XE)
 j_38:ε "_law_rank" Scq 1 ["_law_wishes_here", "_law_asker", "_law_thing"] (spD K 3 Tf)
 j_39:ε "_law_longest" Scr 1 ["_law_wishes_here"] (spD K 1 Te)
 j_40:δ "_law_rank" 1 3 Tf->δ "_law_longest" 1 1 Te->ε "_law_worth" Sct 2 ["_law_wishes_here", "_law_aim_here", "_law_asker", "_law_thing"] (spD K 4 XB)
 j_41:δ "_law_wished" 1 2 XE->δ "_law_worth" 2 4 XB->ε "_law_tight" Scu 3 ["_law_wishes_here", "_law_aim_here", "_law_paper"] (spD K 3 WE)
 j_42:δ "_law_worth" 2 4 XB->ε "_law_whole" Scv 3 ["_law_wishes_here", "_law_aim_here", "_law_dealing"] (spD K 3 Td)
 j_43:ε "_law_claim" Scz 1 ["_law_wishes_here", "_law_paper"] (spD K 2 Tb)
 j_44:ε "_law_whole_number" Scw 1 ["_law_thing"] (spD K 1 XA)
 j_45:δ "_law_wished" 1 2 XE->δ "_law_whole_number" 1 1 XA->ε "_law_is_dealing" Sda 2 ["_law_wishes_here", "_law_found"] (spD K 2 Ta)
 j_46:δ "_law_whole_number" 1 1 XA->ε "_law_row_of" Scx 2 ["_law_thing", "_law_many"] (spD K 2 Vg)
 j_47:δ "_law_wished" 1 2 XE->δ "_law_worth" 2 4 XB->δ "_law_row_of" 2 2 Vg->δ "_law_whole_number" 1 1 XA->ε "_law_is_paper" Scy 3 ["_law_wishes_here", "_law_aim_here", "_law_thing"] (spD K 3 Tc)
 j_48:δ "_law_tight" 3 3 WE->δ "_law_whole" 3 3 Td->δ "_law_claim" 1 2 Tb->δ "_law_is_dealing" 2 2 Ta->δ "_law_is_paper" 3 3 Tc->ε "_law_is_web" Sdb 4 ["_law_wishes_here", "_law_aim_here", "_law_thing"] (spD K 3 Vf)
 j_49:δ "tight_wishes" 9 3 WL->δ "look_at_aim" 7 2 Y6->ε "possible" Sch 10 ["wishes", "aim", "web"] (spD K 3 XF)
 j_50:δ "possible" 10 3 XF->ε "may_get" Scl 11 ["wishes", "aim", "web", "asker"] (spD K 4 Vh)
 j_51:ε "above_nought" Sad 1 ["numbers"] (spD K 1 WP)
 j_52:δ "above_nought" 1 1 WP->ε "full" Sck 2 ["web"] (spD K 1 Ti)
 j_53:δ "above_nought" 1 1 WP->ε "served" Scj 2 ["web"] (spD K 1 Tj)
 j_54:δ "possible" 10 3 XF->ε "sure" Sci 11 ["wishes", "aim", "web"] (spD K 3 Tk)
 j_55:δ "may_get" 11 4 Vh->δ "full" 2 1 Ti->δ "served" 2 1 Tj->δ "sure" 11 3 Tk->δ "possible" 10 3 XF->ε "_law_read" Sdd 12 ["_law_wishes_here", "_law_aim_here", "_law_web"] (spD K 3 Ve)
 j_56:ε "_law_sum" Sdc 1 ["_law_one", "_law_other", "_law_many"] (spD K 3 WD)
 j_57:ε "_law_numbers" Scn 1 ["_law_cell", "_law_salt", "_law_sizes"] (spD K 3 Xj)
 j_58:δ "_law_tight" 3 3 WE->ε "_law_due" Sde 4 ["_law_wishes_here", "_law_aim_here", "_law_paper"] (spD K 3 V9)
 j_59:ε "asks_beyond" Sbx 1 ["askers", "worths", "prices"] (spD K 3 WF)
 j_60:ε "place_of" Sbm 1 ["nothing", "got"] (spD K 2 Vk)
 j_61:δ "copies_left" 7 2 WM->ε "steps_of_copies" Sbo 8 ["wishes", "dealing"] (spD K 2 Tw)
 j_62:δ "steps_of_askers" 2 3 Tx->δ "steps_of_copies" 8 2 Tw->ε "all_steps" Sbp 9 ["wishes", "worths", "dealing"] (spD K 3 Y4)
 j_63:ε "longer_walks" Sbq 1 ["walks", "steps"] (spD K 2 Tv)
 j_64:δ "longer_walks" 1 2 Tv->ε "widest_walks" Sbr 2 ["places", "steps"] (spD K 2 WI)
 j_65:δ "all_steps" 9 3 Y4->δ "widest_walks" 2 2 WI->ε "prices_for" Sbw 10 ["wishes", "worths", "dealing"] (spD K 3 WG)
 j_66:δ "asks_beyond" 1 3 WF->δ "prices_for" 10 3 WG->ε "paper_for" Sby 11 ["wishes", "worths", "dealing"] (spD K 3 Tt)
 j_67:ε "round_within" Sbs 1 ["walk"] (spD K 1 Tu)
 j_68:ε "way_round" Sbt 1 ["nothing", "steps"] (spD K 2 X7)
 j_69:δ "all_steps" 9 3 Y4->δ "widest_walks" 2 2 WI->δ "round_within" 1 1 Tu->δ "way_round" 1 2 X7->ε "gaining_way" Sbu 10 ["wishes", "worths", "dealing"] (spD K 3 Vj)
 j_70:ε "behind_way" Sbl 1 ["dealing", "way"] (spD K 2 WJ)
 j_71:δ "gaining_way" 10 3 Vj->δ "behind_way" 1 2 WJ->ε "best_by" Sbv 11 ["wishes", "worths"] (spD K 2 WH)
 j_72:δ "paper_for" 11 3 Tt->δ "best_by" 11 2 WH->δ "all_worths" 8 2 Y5->ε "best_dealing" Sbz 12 ["wishes", "aim"] (spD K 2 Ts)
 j_73:δ "way_round" 1 2 X7->δ "behind_way" 1 2 WJ->ε "shown_by_rounds" Scf 2 ["dealing", "steps", "roads"] (spD K 3 Vi)
 j_74:ε "strict_prices" Scd 1 ["prices", "roads"] (spD K 2 To)
 j_75:δ "asks_beyond" 1 3 WF->δ "strict_prices" 1 2 To->ε "strict_paper" Sce 2 ["askers", "worths", "prices", "roads"] (spD K 4 Tn)
 j_76:ε "roads_from" Scb 1 ["place", "places", "steps"] (spD K 3 Tq)
 j_77:δ "roads_from" 1 3 Tq->ε "all_roads" Scc 2 ["places", "steps"] (spD K 2 Tp)
 j_78:ε "tight_steps" Sca 1 ["steps", "prices"] (spD K 2 Tr)
 j_79:δ "shown_by_rounds" 2 3 Vi->δ "strict_paper" 2 4 Tn->δ "all_roads" 2 2 Tp->δ "all_steps" 9 3 Y4->δ "tight_steps" 1 2 Tr->δ "prices_for" 10 3 WG->δ "best_by" 11 2 WH->δ "all_worths" 8 2 Y5->ε "web_of" Scg 12 ["wishes", "aim"] (spD K 2 Tl)
 j_80:δ "_law_numbers" 1 3 Xj->ε "_law_aim" Scp 2 ["_law_wishes_here", "_law_cell", "_law_salt"] (spD K 3 Tg)
 j_81:δ "_law_numbers" 1 3 Xj->δ "_law_cell_at" 1 2 X6->ε "_law_wishes" Sco 2 ["_law_script", "_law_at", "_law_most_things", "_law_most_askers", "_law_most_ranks"] (spD K 5 Th)
 j_82:δ "_law_cell_at" 1 2 X6->δ "lets_web" 10 3 WK->δ "_law_is_web" 4 3 Vf->δ "_law_read" 12 3 Ve->δ "_law_sum" 1 3 WD->δ "_law_numbers" 1 3 Xj->δ "_law_due" 4 3 V9->δ "claim_of" 7 2 X9->δ "best_dealing" 12 2 Ts->δ "web_of" 12 2 Tl->δ "_law_aim" 2 3 Tg->δ "_law_wishes" 2 5 Th->ε "law" Sdf 13 ["_law_script"] (spD K 1 V8)
def oks{P w K mg base}(T:Txt K mg):Oks K (Def P w K mg base) λx s k ps sp=>∀f fd,Fun K x x s f fd->FnOk P w K mg base CX0 k f fd ps sp:=by
 refine⟨λ_ _ F=>okD (k:=0) (g:=g_cm) F (fq Hcm 2) zO λcdv A outer s H E B G0 hr=>have nm:=Hcm;?_,
 λ_ _ F=>okD (k:=0) (g:=g_bi) F (fq Hbi 2) zO λcdv A outer s H E B G0 hr=>have nm:=Hbi;?_,
 λ_ _ F=>okD (k:=0) (g:=g_aa) F (fq Haa 1) zO λcdv A outer s H E B G0 hr=>have nm:=Haa;?_,
 λ_ _ _ F=>okD (k:=1) (g:=g_ae) F (fq Hae 2) zO λcdv A outer s H E B G0 hr=>have nm:=Hae;?_,
 λ_ _ _ F=>okD (k:=2) (g:=g_ag) F (fq Hag 2) zO λcdv A outer s H E B G0 hr=>have nm:=Hag;?_,
 λ_ _ _ F=>okD (k:=3) (g:=RN) F (fq Hah 2) zO λcdv A outer s H E B G0 hr=>have nm:=Hah;?_,
 λ_ _ _ F=>okD (k:=4) (g:=RM) F (fq Hai 2) zO λcdv A outer s H E B G0 hr=>have nm:=Hai;?_,
 λ_ _ _ F=>okD (k:=2) (g:=RO) F (fq Haf 1) zO λcdv A outer s H E B G0 hr=>have nm:=Haf;?_,
 λ_ _ _ _ F=>okD (k:=5) (g:=g_aj) F (fq Haj 1) zO λcdv A outer s H E B G0 hr=>have nm:=Haj;?_,
 λ_ _ _ F=>okD (k:=6) (g:=g_ap) F (fq Hap 2) zO λcdv A outer s H E B G0 hr=>have nm:=Hap;?_,
 λ_ _ _ F=>okD (k:=7) (g:=Ry) F (fq Hbj 3) zO λcdv A outer s H E B G0 hr=>have nm:=Hbj;?_,
 λ_ _ _ F=>okD (k:=6) (g:=RL) F (fq Ham 1) zO λcdv A outer s H E B G0 hr=>have nm:=Ham;?_,
 λ_ _ F=>okD (k:=0) (g:=g_av) F (fq Hav 2) zO λcdv A outer s H E B G0 hr=>have nm:=Hav;?_,
 λ_ _ _ F=>okD (k:=1) (g:=RF) F (fq Hax 4) zO λcdv A outer s H E B G0 hr=>have nm:=Hax;?_,
 λ_ _ _ F=>okD (k:=1) (g:=RG) F (fq Haw 4) zO λcdv A outer s H E B G0 hr=>have nm:=Haw;?_,
 λ_ _ F=>okD (k:=0) (g:=g_ak) F (fq Hak 2) zO λcdv A outer s H E B G0 hr=>have nm:=Hak;?_,
 λ_ _ _ _ _ _ F=>okD (k:=2) (g:=RE) F (fq Hay 5) zO λcdv A outer s H E B G0 hr=>have nm:=Hay;?_,
 λ_ _ _ F=>okD (k:=6) (g:=g_al) F (fq Hal 1) zO λcdv A outer s H E B G0 hr=>have nm:=Hal;?_,
 λ_ _ _ F=>okD (k:=2) (g:=RI) F (fq Hat 2) zO λcdv A outer s H E B G0 hr=>have nm:=Hat;?_,
 λ_ _ _ F=>okD (k:=2) (g:=RJ) F (fq Has 3) zO λcdv A outer s H E B G0 hr=>have nm:=Has;?_,
 λ_ _ F=>okD (k:=0) (g:=g_aq) F (fq Haq 1) zO λcdv A outer s H E B G0 hr=>have nm:=Haq;?_,
 λ_ _ _ F=>okD (k:=1) (g:=g_ar) F (fq Har 1) zO λcdv A outer s H E B G0 hr=>have nm:=Har;?_,
 λ_ _ _ _ _ _ F=>okD (k:=6) (g:=RH) F (fq Hau 2) zO λcdv A outer s H E B G0 hr=>have nm:=Hau;?_,
 λ_ _ _ _ _ _ F=>okD (k:=7) (g:=RD) F (fq Haz 2) zO λcdv A outer s H E B G0 hr=>have nm:=Haz;?_,
 λ_ _ _ F=>okD (k:=8) (g:=Rz) F (fq Hbf 3) zO λcdv A outer s H E B G0 hr=>have nm:=Hbf;?_,
 λ_ _ F=>okD (k:=0) (g:=g_bh) F (fq Hbh 2) zO λcdv A outer s H E B G0 hr=>have nm:=Hbh;?_,
 λ_ _ _ _ _ F=>okD (k:=7) (g:=RC) F (fq Hba 3) zO λcdv A outer s H E B G0 hr=>have nm:=Hba;?_,
 λ_ _ _ F=>okD (k:=6) (g:=g_be) F (fq Hbe 2) zO λcdv A outer s H E B G0 hr=>have nm:=Hbe;?_,
 λ_ _ _ F=>okD (k:=1) (g:=V5) F (fq Han 2) zO λcdv A outer s H E B G0 hr=>have nm:=Han;?_,
 λ_ _ _ _ _ F=>okD (k:=6) (g:=RK) F (fq Hao 2) zO λcdv A outer s H E B G0 hr=>have nm:=Hao;?_,
 λ_ _ _ _ _ F=>okD (k:=8) (g:=g_bg) F (fq Hbg 4) zO λcdv A outer s H E B G0 hr=>have nm:=Hbg;?_,
 λ_ _ _ F=>okD (k:=1) (g:=g_ab) F (fq Hab 1) zO λcdv A outer s H E B G0 hr=>have nm:=Hab;?_,
 λ_ _ _ F=>okD (k:=2) (g:=g_ac) F (fq Hac 2) zO λcdv A outer s H E B G0 hr=>have nm:=Hac;?_,
 λ_ _ _ F=>okD (k:=3) (g:=g_bb) F (fq Hbb 2) zO λcdv A outer s H E B G0 hr=>have nm:=Hbb;?_,
 λ_ _ _ _ F=>okD (k:=4) (g:=RB) F (fq Hbc 2) zO λcdv A outer s H E B G0 hr=>have nm:=Hbc;?_,
 λ_ _ _ _ F=>okD (k:=8) (g:=RA) F (fq Hbd 3) zO λcdv A outer s H E B G0 hr=>have nm:=Hbd;?_,
 λ_ _ _ _ _ _ _ _ _ F=>okD (k:=9) (g:=Rx) F (fq Hbk 3) zO λcdv A outer s H E B G0 hr=>have nm:=Hbk;?_,
 λ_ _ F=>okD (k:=0) (g:=g_cs) F (fq Hcs 2) zO λcdv A outer s H E B G0 hr=>have nm:=Hcs;?_,
 λ_ _ F=>okD (k:=0) (g:=g_cq) F (fq Hcq 3) zO λcdv A outer s H E B G0 hr=>have nm:=Hcq;?_,
 λ_ _ F=>okD (k:=0) (g:=g_cr) F (fq Hcr 1) zO λcdv A outer s H E B G0 hr=>have nm:=Hcr;?_,
 λ_ _ _ _ F=>okD (k:=1) (g:=Ra) F (fq Hct 4) zO λcdv A outer s H E B G0 hr=>have nm:=Hct;?_,
 λ_ _ _ _ F=>okD (k:=2) (g:=SZ) F (fq Hcu 3) zO λcdv A outer s H E B G0 hr=>have nm:=Hcu;?_,
 λ_ _ _ F=>okD (k:=2) (g:=SY) F (fq Hcv 3) zO λcdv A outer s H E B G0 hr=>have nm:=Hcv;?_,
 λ_ _ F=>okD (k:=0) (g:=g_cz) F (fq Hcz 2) zO λcdv A outer s H E B G0 hr=>have nm:=Hcz;?_,
 λ_ _ F=>okD (k:=0) (g:=g_cw) F (fq Hcw 1) zO λcdv A outer s H E B G0 hr=>have nm:=Hcw;?_,
 λ_ _ _ _ F=>okD (k:=1) (g:=SW) F (fq Hda 2) zO λcdv A outer s H E B G0 hr=>have nm:=Hda;?_,
 λ_ _ _ F=>okD (k:=1) (g:=g_cx) F (fq Hcx 2) zO λcdv A outer s H E B G0 hr=>have nm:=Hcx;?_,
 λ_ _ _ _ _ _ F=>okD (k:=2) (g:=SX) F (fq Hcy 3) zO λcdv A outer s H E B G0 hr=>have nm:=Hcy;?_,
 λ_ _ _ _ _ _ _ F=>okD (k:=3) (g:=SV) F (fq Hdb 3) zO λcdv A outer s H E B G0 hr=>have nm:=Hdb;?_,
 λ_ _ _ _ F=>okD (k:=9) (g:=g_ch) F (fq Hch 3) zO λcdv A outer s H E B G0 hr=>have nm:=Hch;?_,
 λ_ _ _ F=>okD (k:=10) (g:=Re) F (fq Hcl 4) zO λcdv A outer s H E B G0 hr=>have nm:=Hcl;?_,
 λ_ _ F=>okD (k:=0) (g:=g_ad) F (fq Had 1) zO λcdv A outer s H E B G0 hr=>have nm:=Had;?_,
 λ_ _ _ F=>okD (k:=1) (g:=g_ck) F (fq Hck 1) zO λcdv A outer s H E B G0 hr=>have nm:=Hck;?_,
 λ_ _ _ F=>okD (k:=1) (g:=g_cj) F (fq Hcj 1) zO λcdv A outer s H E B G0 hr=>have nm:=Hcj;?_,
 λ_ _ _ F=>okD (k:=10) (g:=Rf) F (fq Hci 3) zO λcdv A outer s H E B G0 hr=>have nm:=Hci;?_,
 λ_ _ _ _ _ _ _ F=>okD (k:=11) (g:=SU) F (fq Hdd 3) zO λcdv A outer s H E B G0 hr=>have nm:=Hdd;?_,
 λ_ _ F=>okD (k:=0) (g:=g_dc) F (fq Hdc 3) zO λcdv A outer s H E B G0 hr=>have nm:=Hdc;?_,
 λ_ _ F=>okD (k:=0) (g:=g_cn) F (fq Hcn 3) zO λcdv A outer s H E B G0 hr=>have nm:=Hcn;?_,
 λ_ _ _ F=>okD (k:=3) (g:=SS) F (fq Hde 3) zO λcdv A outer s H E B G0 hr=>have nm:=Hde;?_,
 λ_ _ F=>okD (k:=0) (g:=Rm) F (fq Hbx 3) zO λcdv A outer s H E B G0 hr=>have nm:=Hbx;?_,
 λ_ _ F=>okD (k:=0) (g:=g_bm) F (fq Hbm 2) zO λcdv A outer s H E B G0 hr=>have nm:=Hbm;?_,
 λ_ _ _ F=>okD (k:=7) (g:=Ru) F (fq Hbo 2) zO λcdv A outer s H E B G0 hr=>have nm:=Hbo;?_,
 λ_ _ _ _ F=>okD (k:=8) (g:=g_bp) F (fq Hbp 3) zO λcdv A outer s H E B G0 hr=>have nm:=Hbp;?_,
 λ_ _ F=>okD (k:=0) (g:=Rt) F (fq Hbq 2) zO λcdv A outer s H E B G0 hr=>have nm:=Hbq;?_,
 λ_ _ _ F=>okD (k:=1) (g:=Rs) F (fq Hbr 2) zO λcdv A outer s H E B G0 hr=>have nm:=Hbr;?_,
 λ_ _ _ _ F=>okD (k:=9) (g:=Rn) F (fq Hbw 3) zO λcdv A outer s H E B G0 hr=>have nm:=Hbw;?_,
 λ_ _ _ _ F=>okD (k:=10) (g:=g_by) F (fq Hby 3) zO λcdv A outer s H E B G0 hr=>have nm:=Hby;?_,
 λ_ _ F=>okD (k:=0) (g:=Rr) F (fq Hbs 1) zO λcdv A outer s H E B G0 hr=>have nm:=Hbs;?_,
 λ_ _ F=>okD (k:=0) (g:=Rq) F (fq Hbt 2) zO λcdv A outer s H E B G0 hr=>have nm:=Hbt;?_,
 λ_ _ _ _ _ _ F=>okD (k:=9) (g:=Rp) F (fq Hbu 3) zO λcdv A outer s H E B G0 hr=>have nm:=Hbu;?_,
 λ_ _ F=>okD (k:=0) (g:=Rw) F (fq Hbl 2) zO λcdv A outer s H E B G0 hr=>have nm:=Hbl;?_,
 λ_ _ _ _ F=>okD (k:=10) (g:=Ro) F (fq Hbv 2) zO λcdv A outer s H E B G0 hr=>have nm:=Hbv;?_,
 λ_ _ _ _ _ F=>okD (k:=11) (g:=g_bz) F (fq Hbz 2) zO λcdv A outer s H E B G0 hr=>have nm:=Hbz;?_,
 λ_ _ _ _ F=>okD (k:=1) (g:=Rh) F (fq Hcf 3) zO λcdv A outer s H E B G0 hr=>have nm:=Hcf;?_,
 λ_ _ F=>okD (k:=0) (g:=Rj) F (fq Hcd 2) zO λcdv A outer s H E B G0 hr=>have nm:=Hcd;?_,
 λ_ _ _ _ F=>okD (k:=1) (g:=Ri) F (fq Hce 4) zO λcdv A outer s H E B G0 hr=>have nm:=Hce;?_,
 λ_ _ F=>okD (k:=0) (g:=Rk) F (fq Hcb 3) zO λcdv A outer s H E B G0 hr=>have nm:=Hcb;?_,
 λ_ _ _ F=>okD (k:=1) (g:=g_cc) F (fq Hcc 2) zO λcdv A outer s H E B G0 hr=>have nm:=Hcc;?_,
 λ_ _ F=>okD (k:=0) (g:=Rl) F (fq Hca 2) zO λcdv A outer s H E B G0 hr=>have nm:=Hca;?_,
 λ_ _ _ _ _ _ _ _ _ _ F=>okD (k:=11) (g:=Rg) F (fq Hcg 2) zO λcdv A outer s H E B G0 hr=>have nm:=Hcg;?_,
 λ_ _ _ F=>okD (k:=1) (g:=Rb) F (fq Hcp 3) zO λcdv A outer s H E B G0 hr=>have nm:=Hcp;?_,
 λ_ _ _ _ F=>okD (k:=1) (g:=Rc) F (fq Hco 5) zO λcdv A outer s H E B G0 hr=>have nm:=Hco;?_,
 λ_ _ _ _ _ _ _ _ _ _ _ _ _ _ F=>okD (k:=12) (g:=SR) F (fq Hdf 1) zO λcdv A outer s H E B G0 hr=>have nm:=Hdf;?_⟩<;>(have hu:=hr.units;have hgd:=hr.gd;repeat' (first|((with_reducible show PSs _ (VF _) _);show PSs _ (_::_) _)|((with_reducible show PSs _ (Stmt.Assign _ _ _::_::_) _);generalize hS:(_::_:List Stmt)=sts;refine kE hS ?_ ?_)|((with_reducible show PS _ (Stmt.Assign [Expr.Name _ _] (Expr.List _ _) _) (tS _ _ _ _ (Zn _ _)));generalize hS:Stmt.Assign _ _ _=st;refine C3 hS nm ?_)|((with_reducible show PS _ (Stmt.Assign [Expr.Name _ _] (Expr.BinOp _ _ _ _) _) (tS _ _ _ _ (Kj _ _)));generalize hS:Stmt.Assign _ _ _=st;refine Cb hS nm ?_)|((with_reducible show PE _ (Expr.List _ _) _);generalize hS:Expr.List _ _=e;first|refine kC hS ?_|refine kB hS ?_)|((with_reducible show PE _ (Expr.Tuple _ _ _) _);generalize hS:Expr.Tuple _ _ _=e;refine kA hS ?_)|((with_reducible show PE _ (Expr.BinOp _ Operator.Add _ _) (tD _ _ _ _));generalize hS:Expr.BinOp _ _ _ _=e;refine HG L4 hS ?_ ?_)|((with_reducible show PE _ (Expr.BinOp _ Operator.Mult _ _) (tD _ _ _ _));generalize hS:Expr.BinOp _ _ _ _=e;refine HG LZ hS ?_ ?_)|((with_reducible show PA _ (_::_) (tDs _ _ _ _));generalize hS:(_::_:zV)=es;refine xY hS ?_ ?_)|((with_reducible show PE _ _ (tD _ _ _ _));first|first|((with_reducible show PE _ (Expr.Name _ _) _);first|exact AD (pq nm _)|exact YF (pq nm _)|exact YF (pvb _)|exact Cw (by walk_at "g") (by walk_at "c")|exact Ct (by walk_at "g") (by walk_at "c"))|((with_reducible show PE _ (Expr.Constant _ _ _) _);first|exact Hl|exact qA|exact BN|exact qB)|((with_reducible show PE _ (Expr.Subscript _ _ _) _);first|refine AG hu (by walk_at "v") ?_ (λ_ _=>rfl)|refine Po (by walk_at "v") ?_ (λ_ _=>rfl)|refine w8 ?_ ?_ ?_|refine qU ?_ ?_ ?_ ?_|refine Ah ?_ ?_ (λ_ _=>rfl)|refine jj hu ?_ ?_)|((with_reducible show PE _ (Expr.BinOp _ Operator.Add _ _) _);first|refine TZ L4 ?_ ?_)|((with_reducible show PE _ (Expr.BinOp _ Operator.Sub _ _) _);first|refine TZ L0 ?_ ?_)|((with_reducible show PE _ (Expr.BinOp _ Operator.Mult _ _) _);first|refine TZ LZ ?_ ?_)|((with_reducible show PE _ (Expr.BinOp _ Operator.Mod _ _) _);first|refine TZ BD ?_ ?_)|((with_reducible show PE _ (Expr.BinOp _ Operator.FloorDiv _ _) _);first|refine TZ BC ?_ ?_)|((with_reducible show PE _ (Expr.BinOp _ Operator.Pow _ _) _);first|refine TZ BB ?_ ?_)|((with_reducible show PE _ (Expr.Call (Expr.Name "len" _) _ _ _) _);first|refine Ed (by walk_at "g") T.b_len (by walk_at "v")|refine Sj BA (by walk_at "g") T.b_len boot_len ?_|refine w5 zO (by walk_at "g") T.b_len (by walk_at "g") T.b_set ?_)|((with_reducible show PE _ (Expr.Call (Expr.Name "max" _) _ _ _) _);first|refine Sj (Ag zO) (by walk_at "g") T.b_max boot_max ?_|refine Sj (B0 zO) (by walk_at "g") T.b_max boot_max ?_)|((with_reducible show PE _ (Expr.Call (Expr.Name "sorted" _) _ _ _) _);first|refine Sj Aq (by walk_at "g") T.b_sorted PyProof.Rows.boot_sorted ?_)|((with_reducible show PE _ (Expr.Call (Expr.Name "sum" _) _ _ _) _);first|refine Sj (BX zO) (by walk_at "g") T.b_sum PyProof.Rows.boot_sum ?_|refine Sj (BZ zO) (by walk_at "g") T.b_sum PyProof.Rows.boot_sum ?_)|((with_reducible show PE _ (Expr.Call (Expr.Name "all" _) _ _ _) _);first|refine Sj (Bw zO) (by walk_at "g") T.b_all PyProof.Rows.boot_all ?_)|((with_reducible show PE _ (Expr.Call (Expr.Name "any" _) _ _ _) _);first|refine Sj (Ca zO) (by walk_at "g") T.b_any PyProof.Rows.boot_any ?_)|((with_reducible show PE _ (Expr.Call (Expr.Name "int" _) _ _ _) _);first|refine yc B2 (by walk_at "g") T.b_int PyProof.Rows.boot_int ?_)|((with_reducible show PE _ (Expr.Call (Expr.Name "isinstance" _) [_,Expr.Name "int" _] _ _) _);first|refine OA (c:= "int") (by decide) (by walk_at "g") T.b_isinstance (by walk_at "g") T.b_int (by decide +kernel) ?_ (by decide) (by decide))|((with_reducible show PE _ (Expr.Call (Expr.Name "isinstance" _) [_,Expr.Name "list" _] _ _) _);first|refine OA (c:= "list") (by decide) (by walk_at "g") T.b_isinstance (by walk_at "g") T.b_list (by decide +kernel) ?_ (by decide) (by decide))|((with_reducible show PE _ (Expr.Call (Expr.Name "isinstance" _) [_,Expr.Name "tuple" _] _ _) _);first|refine OA (c:= "tuple") (by decide) (by walk_at "g") T.b_isinstance (by walk_at "g") T.b_tuple (by decide +kernel) ?_ (by decide) (by decide))|((with_reducible show PE _ (Expr.Call (Expr.Name "isinstance" _) [_,Expr.Name "bool" _] _ _) _);first|refine OA (c:= "bool") (by decide) (by walk_at "g") T.b_isinstance (by walk_at "g") T.b_bool (by decide +kernel) ?_ (by decide) (by decide))|((with_reducible show PE _ (Expr.Call (Expr.Name "isinstance" _) [_,Expr.Name "str" _] _ _) _);first|refine OA (c:= "str") (by decide) (by walk_at "g") T.b_isinstance (by walk_at "g") T.b_str (by decide +kernel) ?_ (by decide) (by decide))|((with_reducible show PE _ (Expr.Call (Expr.Name _ _) _ _ _) _);first|refine pdf (by assumption) hr (by walk_at "g") ?_)|((with_reducible show PE _ (Expr.Call _ _ _ _) _);first|refine vR hu ?_ ?_|refine wc ?_ ?_)|refine MH ?_|refine O6 ?_|((with_reducible show PE _ (Expr.Compare _ _ _ _) _);first|refine jd ?_|refine qV (by walk_at "b") (by walk_at "v") ?_ (by walk_at "m")|refine qu (by walk_at "b") ?_ ?_ (by walk_at "m")|refine wU (by walk_at "b") (by walk_at "b") ?_ ?_ ?_)|refine qX ?_|refine Fh ?_|refine jf ?_|refine jh ?_ ?_|refine Ai ?_ ?_|refine jg ?_|refine wT ?_ ?_ ?_)|((with_reducible show PA _ _ (tDs _ _ _ _));first|refine Wk ?_ ?_|exact Pp)|((with_reducible show PSs _ _ (tS _ _ _ _ _));first|refine Pn ?_ ?_|refine Pe ?_|exact Mm|exact sD_nevers)|((with_reducible show PS _ _ _);first|((with_reducible show PS _ _ (tS _ _ _ _ (Wr _ _)));refine C2 ?_)|((with_reducible show PS _ (Stmt.Assign [Expr.Name _ _] _ _) _);first|refine aSet nm ?_|refine Cc nm (by walk_at "k") zO ?_ ?_ (by decide +kernel)|refine Hh nm ?_|refine Ce nm ?_)|((with_reducible show PS _ (Stmt.Assign _ _ _) _);first|refine Af ?_ ?_|refine Ff ?_ (by walk_at "v") ?_|refine Am hu ?_ (by walk_at "v") ?_)|refine NV ?_ ?_ ?_|refine HM ?_|refine Mf (by walk_at "w") zO ?_ ?_ ?_|((with_reducible show PS _ (Stmt.Expr _ _) _);first|refine HL (by walk_at "v") ?_|refine q9 ?_)|refine aAug nm jq ?_|exact kf|refine kU _ (by walk_at "w") ?_ ?_)|((with_reducible show PT _ _ _);first|((with_reducible show PT _ (Expr.Compare _ _ _ _) _);first|refine AF hu ?_ (by walk_at "v")|refine kF hu ?_ (by walk_at "v")|refine je ?_|refine Ee ?_|refine qW (by walk_at "b") (by walk_at "v") ?_ (by walk_at "m")|refine jm (by walk_at "b") ?_ (by walk_at "v") (by walk_at "m")|refine MI (by walk_at "b") ?_ ?_ (by walk_at "m")|refine wV (by walk_at "b") (by walk_at "b") ?_ ?_ ?_)|((with_reducible show PT _ (Expr.BoolOp _ _ _) _);refine PW.pt ?_)|refine qo ?_|refine ji ?_|refine AJ ?_)|((with_reducible show PW _ _ _);first|refine qp ?_ ?_|refine BG ?_ ?_|refine kj ?_|refine qq ?_)|((with_reducible show PE _ _ (tL _ _ _ _));first|refine Cd nm (by walk_at "k") zO ?_ ?_ (by decide +kernel)|refine Aj (by walk_at "k") zO ?_ ?_ (by decide +kernel)|refine vZ (by walk_at "g") T.b_list (by walk_at "v")|refine Fx ?_|refine Fq ?_ ?_)|((with_reducible show PI _ _ _ _);first|refine vI (by walk_at "g") T.b_range ?_|refine vH (by walk_at "g") T.b_range ?_|refine Fi (by walk_at "g") T.b_enumerate ?_|refine jW (by walk_at "g") T.b_enumerate ?_|refine B4 (by walk_at "g") T.b_zip ?_|refine Me ?_)|((with_reducible show PG _ _ _);first|exact Cf nm|exact Ak|refine OT zO ?_)|((with_reducible show PGs _ _ _);first|exact OU|refine VS ?_ ?_)|((with_reducible show PO _ _ _);first|exact ki|refine kh ?_)|((with_reducible show YA _ _ _ _ _ _ _ _ _);refine λcl C s0 H0 ex=>⟨λB' G'=>?_,λB' G'=>?_,?_⟩)|((with_reducible show X5 _ _ _);first|exact qY|refine Fg ?_)|((with_reducible show PR _ _ _ _ _ _);first|refine EM zO zO zO λB' G'=>?_|refine vB zO zO zO zO (λ_=>rfl) (λB' G'=>?_) (λB' G'=>?_) (λB' G'=>?_) ?_)|((with_reducible show PE _ _ (tT _ _ _ _ _));first|refine peT_call (by assumption) hr (by walk_at "g") ?_|exact peT_nil|exact peT_dnil|refine kG ?_)|((with_reducible show DPs _ _ _ _ _ _);first|exact jk|refine kI (λB'=>?_) (λB'=>?_) ?_)))
def KP:recsOf q0=Pd p0 ixL:=by show recsOf (PySem.W.view PySem.Challenge.pw_wishdeal_k63_whole_webs_put_together WV)=Pd PySem.Challenge.pw_wishdeal_k63_whole_webs_put_together ixL;rw[PySem.W.Fast.te3399658132070893891,PySem.W.Fast.te6325855011151974638];kernel_rfl
def XH:(["all", "any", "bool", "enumerate", "int", "isinstance", "len", "list", "max", "range", "set", "sorted", "str", "sum", "tuple", "zip"]:List Str).all (OJ q0 (PySem.W.looseW q0 []))=zQ:=by show List.all _ (OJ (PySem.W.view PySem.Challenge.pw_wishdeal_k63_whole_webs_put_together WV) (PySem.W.looseW (PySem.W.view PySem.Challenge.pw_wishdeal_k63_whole_webs_put_together WV) []))=zQ;k_qdec
def zF:valOf q0 "MOST_ASKERS" = O (.int 7):=by show valOf (PySem.W.view PySem.Challenge.pw_wishdeal_k63_whole_webs_put_together WV) _=_;rw[Jz,PySem.W.Fast.te6325855011151974638];kernel_rfl
def zE:valOf q0 "MOST_COPIES" = O (.int 7):=by show valOf (PySem.W.view PySem.Challenge.pw_wishdeal_k63_whole_webs_put_together WV) _=_;rw[Jz,PySem.W.Fast.te6325855011151974638];kernel_rfl
def zu:valOf q0 "MOST_RANKS" = O (.int 5):=by show valOf (PySem.W.view PySem.Challenge.pw_wishdeal_k63_whole_webs_put_together WV) _=_;rw[Jz,PySem.W.Fast.te6325855011151974638];kernel_rfl
def zD:valOf q0 "MOST_THINGS" = O (.int 6):=by show valOf (PySem.W.view PySem.Challenge.pw_wishdeal_k63_whole_webs_put_together WV) _=_;rw[Jz,PySem.W.Fast.te6325855011151974638];kernel_rfl
def vg:tupStrsOf q0 "ORDERS" = O (["firsts", "full", "lasts"]:List Str):=by show tupStrsOf (PySem.W.view PySem.Challenge.pw_wishdeal_k63_whole_webs_put_together WV) _=_;rw[PySem.W.Fast.te14491516231548247274,PySem.W.Fast.te6325855011151974638];kernel_rfl
def C0{l:PySem.W.OpenLaw}{w:World}{s0:Uy}{mg mb:Str->zY}{fa:UA}{h:Heap}{XP:(Str->zY)->Heap->Prop}(G:PySem.W.Ground q0 [] [] XP w s0 mg mb h)(hfa:mg "law" = O (.ref fa)) :
  ∃fd:UB,(∀(s:Uy)(v:Ux),BindsTo s fd ⟨[v],[]⟩ [("_law_script", v)])/\∀base:Heap,FnOk l.prog w (whole h) mg base CX0 13 fa fd ["_law_script"] (spD (whole h) 1 V8):=by
 have T:Txt (whole h) mg:=⟨XN G.T XH (mq 0 zO),XN G.T XH (mq 1 zO),XN G.T XH (mq 2 zO),XN G.T XH (mq 3 zO),XN G.T XH (mq 4 zO),XN G.T XH (mq 5 zO),XN G.T XH (mq 6 zO),XN G.T XH (mq 7 zO),XN G.T XH (mq 8 zO),XN G.T XH (mq 9 zO),XN G.T XH (mq 10 zO),XN G.T XH (mq 11 zO),XN G.T XH (mq 12 zO),XN G.T XH (mq 13 zO),XN G.T XH (mq 14 zO),XN G.T XH (mq 15 zO),NH G.T zF,NH G.T zE,NH G.T zu,NH G.T zD,v3 G.B vg (by decide)⟩
 refine Ck G.T KP 106 "law" rfl zO hfa (λ_ _ _ _ _ _ _=>rfl) λbase=>?_
 have okk:=oks (P:=l.prog) (w:=w) (base:=base) T;have cL:=Kk l.prog w base G.T KP 87 "_law_cell_at" λF=>okk.j_0 _ _ F
 have d_bi:=Kk l.prog w base G.T KP 51 "shows_nothing" λF=>okk.j_1 _ _ F
 have bj:=Kk l.prog w base G.T KP 1 "is_whole" λF=>okk.j_2 _ _ F
 have bi:=Kk l.prog w base G.T KP 5 "is_number_below" λF=>okk.j_3 bj _ _ F
 have d_ag:=Kk l.prog w base G.T KP 16 "is_rank" λF=>okk.j_4 bi _ _ F
 have d_ah:=Kk l.prog w base G.T KP 17 "is_asker_list" λF=>okk.j_5 d_ag _ _ F
 have d_ai:=Kk l.prog w base G.T KP 18 "look_at_lists" λF=>okk.j_6 d_ah _ _ F
 have d_af:=Kk l.prog w base G.T KP 15 "look_at_copies" λF=>okk.j_7 bi _ _ F
 have aJ:=Kk l.prog w base G.T KP 19 "look_at_wishes" λF=>okk.j_8 d_ai d_af _ _ F
 have cW:=Kk l.prog w base G.T KP 26 "copies_left" λF=>okk.j_9 aJ _ _ F
 have d_bj:=Kk l.prog w base G.T KP 52 "shows_left" λF=>okk.j_10 cW _ _ F
 have d_am:=Kk l.prog w base G.T KP 22 "all_wishes" λF=>okk.j_11 aJ _ _ F
 have bK:=Kk l.prog w base G.T KP 36 "power" λF=>okk.j_12 _ _ F
 have d_ax:=Kk l.prog w base G.T KP 38 "worth_by_turns" λF=>okk.j_13 bK _ _ F
 have d_aw:=Kk l.prog w base G.T KP 37 "worth_by_order" λF=>okk.j_14 bK _ _ F
 have cY:=Kk l.prog w base G.T KP 20 "rank_in" λF=>okk.j_15 _ _ F
 have cV:=Kk l.prog w base G.T KP 39 "worth_by_aim" λF=>okk.j_16 bK d_ax d_aw cY _ _ F
 have cX:=Kk l.prog w base G.T KP 21 "longest" λF=>okk.j_17 aJ _ _ F
 have d_at:=Kk l.prog w base G.T KP 33 "is_turns" λF=>okk.j_18 bi _ _ F
 have d_as:=Kk l.prog w base G.T KP 32 "is_old" λF=>okk.j_19 bi _ _ F
 have d_aq:=Kk l.prog w base G.T KP 29 "is_order" λF=>okk.j_20 _ _ F
 have d_ar:=Kk l.prog w base G.T KP 30 "look_at_order" λF=>okk.j_21 d_aq _ _ F
 have bg:=Kk l.prog w base G.T KP 34 "look_at_aim" λF=>okk.j_22 d_at d_as d_ar aJ _ _ F
 have bf:=Kk l.prog w base G.T KP 40 "all_worths" λF=>okk.j_23 d_am cV cX bg _ _ F
 have cS:=Kk l.prog w base G.T KP 48 "tight_wishes" λF=>okk.j_24 bf _ _ F
 have d_bh:=Kk l.prog w base G.T KP 50 "shows_wishes" λF=>okk.j_25 _ _ F
 have d_ba:=Kk l.prog w base G.T KP 41 "worth_of" λF=>okk.j_26 cV cX bg _ _ F
 have cU:=Kk l.prog w base G.T KP 46 "claim_of" λF=>okk.j_27 aJ _ _ F
 have d_an:=Kk l.prog w base G.T KP 24 "has_form" λF=>okk.j_28 bj _ _ F
 have d_ao:=Kk l.prog w base G.T KP 25 "what_is_wrong" λF=>okk.j_29 cY d_an aJ _ _ F
 have d_bg:=Kk l.prog w base G.T KP 49 "is_claimed" λF=>okk.j_30 d_ba cU d_ao _ _ F
 have d_ab:=Kk l.prog w base G.T KP 2 "is_number" λF=>okk.j_31 bj _ _ F
 have d_ac:=Kk l.prog w base G.T KP 3 "are_numbers" λF=>okk.j_32 d_ab _ _ F
 have d_bb:=Kk l.prog w base G.T KP 43 "is_number_list" λF=>okk.j_33 d_ac _ _ F
 have d_bc:=Kk l.prog w base G.T KP 44 "has_paper_form" λF=>okk.j_34 d_bb bj _ _ F
 have d_bd:=Kk l.prog w base G.T KP 45 "lets_paper" λF=>okk.j_35 d_bc bf _ _ F
 have d_bk:=Kk l.prog w base G.T KP 53 "lets_web" λF=>okk.j_36 d_bi d_bj cS d_bh d_bg d_bd bg _ _ F
 have bF:=Kk l.prog w base G.T KP 93 "_law_wished" λF=>okk.j_37 _ _ F
 have d_cq:=Kk l.prog w base G.T KP 91 "_law_rank" λF=>okk.j_38 _ _ F
 have d_cr:=Kk l.prog w base G.T KP 92 "_law_longest" λF=>okk.j_39 _ _ F
 have bE:=Kk l.prog w base G.T KP 94 "_law_worth" λF=>okk.j_40 d_cq d_cr _ _ F
 have cK:=Kk l.prog w base G.T KP 95 "_law_tight" λF=>okk.j_41 bF bE _ _ F
 have d_cv:=Kk l.prog w base G.T KP 96 "_law_whole" λF=>okk.j_42 bE _ _ F
 have d_cz:=Kk l.prog w base G.T KP 100 "_law_claim" λF=>okk.j_43 _ _ F
 have bD:=Kk l.prog w base G.T KP 97 "_law_whole_number" λF=>okk.j_44 _ _ F
 have d_da:=Kk l.prog w base G.T KP 101 "_law_is_dealing" λF=>okk.j_45 bF bD _ _ F
 have d_cx:=Kk l.prog w base G.T KP 98 "_law_row_of" λF=>okk.j_46 bD _ _ F
 have d_cy:=Kk l.prog w base G.T KP 99 "_law_is_paper" λF=>okk.j_47 bF bE d_cx bD _ _ F
 have d_db:=Kk l.prog w base G.T KP 102 "_law_is_web" λF=>okk.j_48 cK d_cv d_cz d_da d_cy _ _ F
 have bH:=Kk l.prog w base G.T KP 81 "possible" λF=>okk.j_49 cS bg _ _ F
 have d_cl:=Kk l.prog w base G.T KP 85 "may_get" λF=>okk.j_50 bH _ _ F
 have cZ:=Kk l.prog w base G.T KP 4 "above_nought" λF=>okk.j_51 _ _ F
 have d_ck:=Kk l.prog w base G.T KP 84 "full" λF=>okk.j_52 cZ _ _ F
 have d_cj:=Kk l.prog w base G.T KP 83 "served" λF=>okk.j_53 cZ _ _ F
 have d_ci:=Kk l.prog w base G.T KP 82 "sure" λF=>okk.j_54 bH _ _ F
 have d_dd:=Kk l.prog w base G.T KP 104 "_law_read" λF=>okk.j_55 d_cl d_ck d_cj d_ci bH _ _ F
 have d_dc:=Kk l.prog w base G.T KP 103 "_law_sum" λF=>okk.j_56 _ _ F
 have bG:=Kk l.prog w base G.T KP 88 "_law_numbers" λF=>okk.j_57 _ _ F
 have d_de:=Kk l.prog w base G.T KP 105 "_law_due" λF=>okk.j_58 cK _ _ F
 have cM:=Kk l.prog w base G.T KP 68 "asks_beyond" λF=>okk.j_59 _ _ F
 have bJ:=Kk l.prog w base G.T KP 57 "place_of" λF=>okk.j_60 _ _ F
 have d_bn:=Kk l.prog w base G.T KP 58 "steps_of_askers" λF=>Kbn T bJ F
 have d_bo:=Kk l.prog w base G.T KP 59 "steps_of_copies" λF=>okk.j_61 cW _ _ F
 have bI:=Kk l.prog w base G.T KP 60 "all_steps" λF=>okk.j_62 d_bn d_bo _ _ F
 have d_bq:=Kk l.prog w base G.T KP 61 "longer_walks" λF=>okk.j_63 _ _ F
 have cQ:=Kk l.prog w base G.T KP 62 "widest_walks" λF=>okk.j_64 d_bq _ _ F
 have cN:=Kk l.prog w base G.T KP 67 "prices_for" λF=>okk.j_65 bI cQ _ _ F
 have d_by:=Kk l.prog w base G.T KP 69 "paper_for" λF=>okk.j_66 cM cN _ _ F
 have d_bs:=Kk l.prog w base G.T KP 63 "round_within" λF=>okk.j_67 _ _ F
 have cP:=Kk l.prog w base G.T KP 64 "way_round" λF=>okk.j_68 _ _ F
 have d_bu:=Kk l.prog w base G.T KP 65 "gaining_way" λF=>okk.j_69 bI cQ d_bs cP _ _ F
 have cR:=Kk l.prog w base G.T KP 55 "behind_way" λF=>okk.j_70 _ _ F
 have cO:=Kk l.prog w base G.T KP 66 "best_by" λF=>okk.j_71 d_bu cR _ _ F
 have d_bz:=Kk l.prog w base G.T KP 71 "best_dealing" λF=>okk.j_72 d_by cO bf _ _ F
 have d_cf:=Kk l.prog w base G.T KP 78 "shown_by_rounds" λF=>okk.j_73 cP cR _ _ F
 have d_cd:=Kk l.prog w base G.T KP 76 "strict_prices" λF=>okk.j_74 _ _ F
 have d_ce:=Kk l.prog w base G.T KP 77 "strict_paper" λF=>okk.j_75 cM d_cd _ _ F
 have d_cb:=Kk l.prog w base G.T KP 74 "roads_from" λF=>okk.j_76 _ _ F
 have d_cc:=Kk l.prog w base G.T KP 75 "all_roads" λF=>okk.j_77 d_cb _ _ F
 have d_ca:=Kk l.prog w base G.T KP 73 "tight_steps" λF=>okk.j_78 _ _ F
 have d_cg:=Kk l.prog w base G.T KP 80 "web_of" λF=>okk.j_79 d_cf d_ce d_cc bI d_ca cN cO bf _ _ F
 have d_cp:=Kk l.prog w base G.T KP 90 "_law_aim" λF=>okk.j_80 bG _ _ F
 have d_co:=Kk l.prog w base G.T KP 89 "_law_wishes" λF=>okk.j_81 bG cL _ _ F
 exact λ{_ _} F=>okk.j_82 cL d_bk d_db d_dd d_dc bG d_de cU d_bz d_cg d_cp d_co _ _ F
abbrev d_df:DefRec:=⟨"law", SA Sdf,VF Sdf,Yw Sdf,Cn Sdf⟩
def walk{YP:World->Heap->Prop}{XP:(Str->zY)->Heap->Prop}(hlaw:∀ns:zT,ns.length<=63->V8 [.list (ns.map int)]=O (.bool zQ)):PySem.W.WalkO q0 [] XP YP (PySem.Challenge.rw_wishdeal_k63_whole_webs_put_together).row.toRowW d_df [] (λf vs=>PySem.call f vs):=
 kN (n:=63) (k:=13) (x:= "_law_script") zO (by decide) zO ⟨rfl,by decide,by decide,rfl⟩ (λ_ _ _ _ _ _ G hm=>C0 G hm) hlaw
def PP{f:M D}{Z Z1:U5}{d:D}{t:Bool}(h:f Z=.ok d Z1)(ht:(!isNon d)=t):Kb (λd=>!isNon d) f Z=.ok t Z1:=by subst ht;exact KJ (k:=λd=>!isNon d) h
def Dx{sizes found:zT}{z d}(h:∀(j:Nat) d z,found[j]?=O d->sizes[j]?=O z->0<=d/\d<z)(hz:sizes[found.length]?=O z)(h0:0<=d/\d<z) :
  ∀(j:Nat) d' z',(found++[d])[j]?=O d'->sizes[j]?=O z'->0<=d'/\d'<z':=by
 intro j d' z' e1 e2;by_cases hj:j<found.length
 .rw[Qy hj]at e1
  exact h j d' z' e1 e2
 .by_cases hj2:j=found.length
  .simp_all
  .rw[Jx (by rw[Qi,Q0];lia)]at e1
   cases e1
noncomputable abbrev pb(d:D):Option Sl:=O (.pub d)
def inv(c s:Int)(sizes:zT)(n:Int)(i:Nat)(Z:U5):Prop:=∃left found x6 x7,Z=[O (Sl.pub (.int c)),pb (.int s),pb (.list (sizes.map .int)),pb (.int n),pb (.int left),O (.own ((found:zT).map .int)),x6,x7] /\
 found.length=i/\∀(j:Nat) d z,found[j]?=O d->sizes[j]?=O z->0<=d/\d<z
def vf{c s n:Int}{sizes:zT}(hs:∀x∈sizes,0<x/\x<18446744073709551616)(hl:sizes.length<=1000){i:Nat}{d:D}{Z:U5}{Q:Out->Prop}(hi:(Ys 0 sizes.length)[i]?=O d)(h:inv c s sizes n i Z) :
  ∃Z2,gN 6 d Z=O Z2/\Ho Mz Z2 (R5 (inv c s sizes n (i+1)) Q):=by
 obtain⟨left,found,x6,x7,rfl,hf,hfd⟩:=h;obtain⟨rfl,hlt⟩:=XY hi;obtain⟨z,hz⟩:∃z,sizes[i]?=O z:=⟨sizes[i]'(by lia),Qe _⟩
 obtain⟨z1,z2⟩:=hs z (Qr hz);have hix:oIx (.list (sizes.map int)) (.int (0+(i:Int)))=O (.int z):=by rw[Jj];exact Zv (by rw[Qd,hz];rfl)
 generalize hk:(0:Int)+(i:Int)=k at hix⊢;have hk1:k<18446744073709551616:=by lia
 have hk2 : -18446744073709551616<k:=by lia
 have hlen:(found.map int).length<1000000:=by rw[Qb];lia
 have pw:W9 (.int 10) (.int 18)=O (.int 1000000000000000000):=by rw[Fl (by decide)];rfl
 refine⟨_,U4 (Qa zO) zO,?_⟩;unfold Mz;apply KE
 case h1=>exact OS (ZO zO (Kf Ka Ka pw) zO) λ_=>ZO zO Ka zO
 case h2=>intro _;refine Kq (XT zO (Kf (UX zO) (Kt zO (UX zO) hix) (Sb (by lia))) zO hlen zO) ?_;refine Yp (KY (Kf (UX zO) (Kt zO (UX zO) hix) (Fm (by lia) (by lia))) (Qa zO) zO) (Zd ?_);exact⟨_,found++[left % z],_,_,by rw[QC];rfl,by rw[Qi,hf];rfl,Dx hfd (by rw[hf];exact hz) ⟨Int.emod_nonneg _ (by lia),Int.emod_lt_of_pos _ z1⟩⟩
 case h3=>intro _;refine Kq (KY (Kf (Kf (Kf (Kf (UX zO) (Kf Ka (UX zO) (VJ (by decide) (by decide))) Ze) (Kf (Kf Ka (UX zO) (VJ (by decide) (by decide))) (UX zO) (Xb hk2 hk1)) Ze) (UX zO) Ze) Ka (Sb (by decide))) (Qa zO) zO) ?_;refine Kq (KY (Kf (Kf (UX zO) Ka (Xb (by decide) (by decide))) Ka (Sb (by decide))) (Qa zO) zO) ?_;refine Kq (KY (Kf (Kf (Kf (Kf (UX zO) (UX zO) (Xb (by lia) (by lia))) Ka (Sb (by decide))) Ka (Xb (by decide) (by decide))) Ka (Sb (by decide))) (Qa zO) zO) ?_;refine Yp (XT zO (Kf (Kf (UX zO) Ka (Fm (by decide) (by decide))) (Kt zO (UX zO) hix) (Sb (by lia))) zO hlen zO) (Zd ?_);exact⟨_,found++[_ % z],_,_,by rw[QC];rfl,by rw[Qi,hf];rfl,Dx hfd (by rw[hf];exact hz) ⟨Int.emod_nonneg _ (by lia),Int.emod_lt_of_pos _ z1⟩⟩
def NL(c s:Int){sizes:zT}(hs:∀x∈sizes,0<x/\x<18446744073709551616)(hl:sizes.length<=1000) :
  ∃r,Xj [.int c,.int s,.list (sizes.map int)]=O r/\∃ds:zT,r=.list (ds.map .int)/\ds.length=sizes.length/\∀(j:Nat) d z,ds[j]?=O d->sizes[j]?=O z->0<=d/\d<z:=by
 refine W2  rfl ?_;refine Kq (KY (Zj (U0 (UX zO) (U0 (Kf (Sw Ka) (UX zO) Xp) U6)) Fk) (Qa zO) zO) ?_;refine Kq (KY (UX zO) (Qa zO) zO) ?_;refine Kq (Z8 (W3 U6 (Qa zO)) (Qa zO) zO) ?_;apply KW;apply ZD  (inv c s sizes _)
 case h1=>exact Y7 (U0 (Zu zO (by rw[Zg,Qb])) U6) (Y8 (by lia) (by lia))
 case h0=>exact⟨_,[],zP,zP,rfl,rfl,λj d z e=>by cases e⟩
 case hst=>exact λi d Z e h=>vf hs hl e h
 case hend=>rintro Z ⟨left,found,x6,x7,rfl,hf,hfd⟩;rw[YZ]at hf;exact KU (Kv (YC rfl rfl) ⟨_,rfl,found,rfl,by lia,hfd⟩)
mutual
theorem Ej:∀(d:PyData),d.canLay0=zQ->UP d d=zQ
 |.none,_=>rfl
 |.bool b,_=>by cases b<;>rfl
 |.int i,_=>by simp[UP]
 |.str s,_=>by simp[UP]
 |.list xs,h=>eqvAll_refl xs h
 |.tuple xs,h=>eqvAll_refl xs h
 |.dict _,h=>by cases h
theorem eqvAll_refl:∀(xs:List PyData),UN xs=zQ->PyData.eqvAll xs xs=zQ
 |[],_=>rfl
 |x::r,h=>by
  have h:(PyData.canLay0 x&&UN r)=zQ:=h;rw[QM]at h
  show(UP x x&&PyData.eqvAll r r)=zQ
  rw[Ej x h.1,eqvAll_refl r h.2];rfl
end
theorem VW:∀{xs:zS},(∀x∈xs,PyData.canLay0 x=zQ)->UN xs=zQ
 |[],_=>rfl
 |x::r,h=>by
  show(PyData.canLay0 x&&UN r)=zQ
  rw[h x Ql,VW λy hy=>h y (Qk _ hy)];rfl
theorem PD  : ∀{xs:zS},(∀x∈xs,UO x<=n)->PyData.depthAll xs<=n
 |[],_=>by simp[PyData.depthAll]
 |x::r,h=>by
  have h1:=h x Ql;have h2:=PD  λy hy=>h y (Qk _ hy);simp only[PyData.depthAll]
  lia
noncomputable def Yb(r:zT):D:=.list (r.map int)
noncomputable def Zm(rs:List zT):D:=.list (rs.map Yb)
noncomputable def Kz(cs:zT)(ls:L3):D:=.tuple [.list (cs.map int),.list (ls.map Zm)]
structure SI(n:Nat)(rs:List zT):Prop where
 few:rs.length<=5
 some:∀r∈rs,r≠[]
 there:∀r∈rs,∀t∈r,0<=t/\t<n
 once:rs.flatten.Nodup
structure Good(cs:zT)(ls:L3):Prop where
 c1:1<=cs.length
 c6:cs.length<=6
 c7:∀c∈cs,0<=c/\c<8
 l1:1<=ls.length
 l7:ls.length<=7
 rk:∀rs∈ls,SI cs.length rs
def Nt(r):(Yb r).canLay0=zQ:=VW λx hx=>by obtain⟨y,_,rfl⟩:=Qs.mp hx;rfl
def GI(i:Int):(int i).depth<=1:=by simp[UO]
def Oe  {xs:zS}(h:PyData.depthAll xs<=n):(UJ xs).depth<=n+1:=by simp only[UO];lia
def Nr(r):(Yb r).depth<=2:=Oe (PD λx hx=>by obtain⟨y,_,rfl⟩:=Qs.mp hx;exact GI y)
def EY(i):Yr [.int i]=O (.bool zQ):=by refine K3  rfl ?_;exact Kv (Wi (KJ (UX zO)) (λ_=>qO (KJ (UX zO)))) zO
def NG  (h0:0<=i)(h1:i<m):Yq [.int i,.int m]=O (.bool zQ):=by
 refine K3  rfl ?_;have hb:(decide (0<=i)&&decide (i<m))=zQ:=by simp_all
 refine Kv (Wi   (Ko (U0 (UX zO) U6) zO (EY i)) (λ_=>?_)) zO;rw[←hb];exact KJ (M9 Ka (UX zO) zO (λ_=>UX zO) (λ_=>rfl))
def Oo{α:Type}(l:List α):ZK [.list (l.map λ_=>.bool zQ)]=O (.bool zQ):=by
 have:(l.map λ_=>UK zQ)=(l.map λ_=>zQ).map UK:=by rw[QL];rfl
 rw[this,VP];simp_all
def wC{r:zT}{n:Int}(hne:r≠[])(hl:r.length<=1000)(h:∀t∈r,0<=t/\t<n):Vp [Yb r,.int n]=O (.bool zQ):=by
 refine K3  rfl ?_;apply KW;have hlen:Kn [Yb r]=O (.int r.length):=by unfold Yb;rw[Zg,Qb]
 have hp:0<r.length:=List.length_pos_iff.mpr hne;apply KE
 case h1=>exact ZZ  (Yv (UX zO) zO) (Kf (Zu zO hlen) Ka Yk)
 case h2=>intro hh;lia
 case h3=>
  intro _;refine K1 (KU ?_)
  have hc:Zf (gN 2) (U2 zQ) (U7 2 Yq (UZ (UW 2) (UZ (UW 1) (UY)))) (r.map int) (KR [pb (Yb r),pb (.int n)]++UI 1 zP) []=O (r.map λ_=>.bool zQ):=by
   rw[W6 (λ_=>zQ) (λ_=>.bool zQ) (λZ=>∃x,Z=[pb (Yb r),pb (.int n),x])]
   .rw[QR.mpr (λ_ _=>rfl),Qw,QL];rfl
   .rintro d hm Z ⟨x,rfl⟩
    obtain⟨t,ht,rfl⟩:=Qs.mp hm;exact⟨_,U4 (Qa zO) zO,rfl,λ_=>Ko (U0 (UX zO) (U0 (UX zO) U6)) zO (NG (h t ht).1 (h t ht).2),_,rfl⟩
   .exact⟨zP,rfl⟩
   .rw[Qb,Qm];lia
  exact Kv (Zj (U0 (KJ (Zi (Zh (UX zO) zO) hc)) U6) (Oo r)) zO
theorem EX  (ha:WT a=a)(hb:WT b=b)(hc:WT c=c)(hx:WT x3=x3):∀(ds es:zS)(x4),es.length+ds.length<=1000000 ->
  ∃y,Xv (gN 4) (U2 zQ) (UW 4) ds [a,b,c,x3,x4] es=O (es++ds,[a,b,c,x3,y])
 |[],es,x4,_=>⟨x4,by rw[Xv,Jg]⟩
 |d::r,es,x4,h=>by
  rw[QU]at h;obtain⟨y,e⟩:=EX ha hb hc hx r (es++[d]) _ (by rw[Qi,Q0];lia);refine⟨y,?_⟩;rw[Xv];have h1:gN 4 d [a,b,c,x3,x4]=O [a,b,c,x3,pb d]:=U4 (Qa zO) zO;rw[h1];dsimp only[U2];rw[Qu zO];have h2:UW 4 [a,b,c,x3,pb d]=.ok d [a,b,c,x3,pb d]:=UX zO;rw[h2];dsimp only;rw[Qu (by lia)];have h3:KR [a,b,c,x3,pb d]=[a,b,c,x3,pb d]:=by unfold KR;simp only[QD,ha,hb,hc,hx];rfl
  rw[h3,e,Q5];rfl
theorem DB{a b:D}:∀(rs:List zT)(es:zS)(x3 x4:Option Sl),es.length+rs.flatten.length<=1000000 ->
  VA (gN 3) (U2 zQ) (K4 (UW 3)) (gN 4) (U2 zQ) (UW 4) (rs.map Yb) [pb a,pb b,zP,x3,x4] es=O (es++rs.flatten.map int)
 |[],es,_,_,_=>by rw[List.map_nil,VA];simp
 |r::rs,es,x3,x4,h=>by rw[JC,Qi]at h;rw[QD,VA];have h1:gN 3 (Yb r) [pb a,pb b,zP,x3,x4]=O [pb a,pb b,zP,pb (Yb r),x4]:=U4 (Qa zO) zO;rw[h1];dsimp only[U2];rw[Qu zO];have h2:K4 (UW 3) [pb a,pb b,zP,O _,x4]=.ok (r.map int) [pb a,pb b,zP,pb (Yb r),x4]:=Zh (UX zO) zO;rw[h2];dsimp only;have h3:KR [pb a,pb b,zP,pb (Yb r),x4]=[pb a,pb b,zP,O _,WT x4]:=rfl;rw[h3];obtain⟨y,e⟩:=EX (a:=O (.pub a)) (b:=O (.pub b)) (c:=zP) (x3:=O (.pub (Yb r))) zO zO zO zO (r.map int) es (WT x4) (by rw[Qb];lia);rw[e];dsimp only;have ih:=DB (a:=a) (b:=b) rs (es++r.map int) (O (.pub (Yb r))) y (by rw[Qi,Qb];lia);refine Eq.trans ih ?_;rw[JC,QC,Q5]
def Dw  (h:ns.Nodup):Ob ns=ns.length:=by
 have:∀i,i<=ns.length->(PyProof.Rows.firstMet (λi=>ns.getD i 0) i).length=i:=by
  intro i;induction i with
  |zero=>intro _;rfl
  |succ i ih=>
   intro hi;rw[PyProof.Rows.firstMet_succ]
   have hany:(PyProof.Rows.firstMet (λi=>ns.getD i 0) i).any (· == ns.getD i 0)=zR:=by
    rw[PyProof.Rows.firstMet_any,List.any_eq_false];intro x hx;obtain⟨j,hj,rfl⟩:=Qs.mp hx;have hj:=QE.mp hj;intro e;have e   :=by simpa using e
    have l1:j<ns.length:=by lia
    have l2:i<ns.length:=by lia
    simp only[Qe l1,Qe l2]at e;exact absurd ((List.getElem_inj h).mp e) (by lia)
   unfold PyProof.Rows.step_dedup;rw[hany];rw[QJ (by decide),Qi,ih (by lia)];rfl
 exact this ns.length (Qv _)
def yD{rs:List zT}{n:Nat}(g:SI n rs)(hn:n<=6)(hf:rs.flatten.length<=1000):TR [Zm rs,.int n]=O (.bool zQ):=by
 refine K3 (Z:=[pb (Zm rs),pb (.int n),zP]) zO ?_;unfold RN;have hlen:Kn [Zm rs]=O (.int rs.length):=by unfold Zm;rw[Zg,Qb]
 have h5:=g.few;have aZ:∀r∈rs,r.length<=1000:=λr hr=>QK (List.Sublist.length_le (List.sublist_flatten_of_mem hr)) hf;apply KW;apply KE
 case h1=>exact ZZ  (Yv (UX zO) zO) (Kf (Zu zO hlen) Ka zO)
 case h2=>intro hh;lia
 case h3=>
  intro _;refine K1 (KU ?_)
  have hc:Zf (gN 3) (U2 zQ) (U7 2 Vp (UZ (UW 3) (UZ (UW 1) (UY)))) (rs.map Yb) (KR [pb (Zm rs),pb (.int n),zP]++UI 1 zP) []=O (rs.map λ_=>.bool zQ):=by
   rw[W6 (λ_=>zQ) (λ_=>.bool zQ) (λZ=>∃x,Z=[pb (Zm rs),pb (.int n),zP,x])]
   .rw[QR.mpr (λ_ _=>rfl),Qw,QL];rfl
   .rintro d hm Z ⟨x,rfl⟩
    obtain⟨r,hr,rfl⟩:=Qs.mp hm;exact⟨_,U4 (Qa zO) zO,rfl,λ_=>Ko (U0 (UX zO) (U0 (UX zO) U6)) zO (wC (g.some r hr) (aZ r hr) (g.there r hr)),_,rfl⟩
   .exact⟨zP,rfl⟩
   .rw[Qb,Qm];lia
  apply KW;apply KE
  case h1=>exact Z9 (Yj (Zj (U0 (KJ (Zi (Zh (UX zO) zO) hc)) U6) (Oo rs)))
  case h2=>intro hh;cases hh
  case h3=>
   intro _;refine K1 (KU ?_);have h2:P5 (K4 (UW 0)) 2 (gN 3) (U2 zQ) (K4 (UW 3)) (gN 4) (U2 zQ) (UW 4) [pb (Zm rs),pb (.int n),zP]=.ok (rs.flatten.map int) [pb (Zm rs),pb (.int n),zP]:=by unfold P5;have e1:K4 (UW 0) [pb (Zm rs),pb (.int n),zP]=.ok (rs.map Yb) [pb (Zm rs),pb (.int n),zP]:=Zh (UX zO) zO;rw[e1];dsimp only;have e2:=DB (a:=Zm rs) (b:=.int n) rs [] zP zP (by rw[Qm];lia);have e3:VA (gN 3) (U2 zQ) (K4 (UW 3)) (gN 4) (U2 zQ) (UW 4) (rs.map Yb) (KR [pb (Zm rs),pb (.int n),zP]++UI 2 zP) []=O ([]++rs.flatten.map int):=e2;rw[e3];rfl
   refine Kq (Z8 h2 (Qa zO) zO) ?_;have hls:VR [.list (rs.flatten.map int)]=O (.int rs.flatten.length):=by unfold VR;dsimp only;rw[Pz];dsimp only;rw[Qu (by lia),Dw g.once]
   refine Kv (KJ (Kf (Zj (U0 (YC zO zO) U6) hls) (Zu zO Zg) Yk)) ?_;rw[Qb];simp
theorem Xo  : ∀{xs}{k i:Nat},(Yu k xs)[i]?=O d->∃x,xs[i]?=O x/\d=.tuple [.int ((k+i:Nat):Int),x]
 |[],k,i,h=>by cases h
 |x::r,k,0,h=>by cases h;exact⟨x,rfl,rfl⟩
 |x::r,k,i+1,h=>by obtain⟨y,e,q⟩:=Xo   (i:=i) h;exact⟨y,e,by rw[q];congr 4;lia⟩
theorem Pv:∀(n:Nat)(l:zT),l.Nodup->(∀x∈l,0<=x/\x<n)->l.length<=n
 |0,[],_,_=>Qv _
 |0,x::r,_,h=>by have:=h x Ql;lia
 |n+1,l,hn,h=>by
  by_cases hm:(n:Int)∈l
  .have:=Pv n (l.erase (n)) (hn.erase _) λx hx=>by
    have h1:=(List.Nodup.mem_erase_iff hn).mp hx;have h2:=h x h1.2
    lia
   simp_all
  .have:=Pv n l hn λx hx=>by
    have h2:=h x hx;have h3:x≠(n):=λe=>hm (e ▸ hx)
    lia
   lia
def Pu   (g:SI n rs):rs.flatten.length<=n:=Pv n _ g.once λx hx=>by obtain⟨r,hr,hxr⟩:=Uh.mp hx;exact g.there r hr x hxr
def ve{cs:zT}(h1:1<=cs.length)(h6:cs.length<=6)(h:∀c∈cs,0<=c/\c<8):TU [.list (cs.map int)]=O .none:=by
 refine Oa  rfl ?_;unfold RO;have hlen:Kn [.list (cs.map int)]=O (.int cs.length):=by rw[Zg,Qb]
 apply KW;apply KE
 case h1=>exact ZZ  (Yv (UX zO) zO) (Z9 (M9 Ka (Zu zO hlen) zO (λ_=>Ka) (λ_=>rfl)))
 case h2=>
  intro hh;have a1:(1:Int)<=(cs.length:Int):=by lia
  have a2:(cs.length:Int)<=6:=by lia
  simp[a1,a2]at hh
 case h3=>
  intro _;refine K1 (KU ?_);apply ZD (λ_ Z=>∃x1 x2,Z=[O _,x1,x2])
  case h1=>exact Y9 (U0 (UX zO) U6) Xa
  case h0=>exact⟨_,_,rfl⟩
  case hst=>
   rintro i d Z hi ⟨x1,x2,rfl⟩;obtain⟨x,hx,rfl⟩:=Xo hi;obtain⟨c,hc,rfl⟩:=Qs.mp (Qr hx);refine⟨_,Kr zO (U9 (U4 (Qa zO) zO) (U9 (U4 (Qa zO) zO) Ks)),?_⟩;unfold Gz;apply KE
   case h1=>exact Z9 (Yj (Ko (U0 (UX zO) (U0 (Kf Ka Ka Ze) U6)) zO (NG (h c hc).1 (by have:=(h c hc).2;lia))))
   case h2=>intro hh;cases hh
   case h3=>exact λ_=>K1 (Zd ⟨_,_,rfl⟩)
  case hend=>exact λZ ⟨x1,x2,e⟩=>⟨_,rfl⟩
def xn{ls:L3}{n:Nat}(hn:n<=6)(h1:1<=ls.length)(h7:ls.length<=7)(h:∀rs∈ls,SI n rs):TQ [.list (ls.map Zm),.int n]=O .none:=by
 refine Oa  rfl ?_;unfold RM;have hlen:Kn [.list (ls.map Zm)]=O (.int ls.length):=by rw[Zg,Qb]
 apply KW;apply KE
 case h1=>exact ZZ  (Yv (UX zO) zO) (Z9 (M9 Ka (Zu zO hlen) zO (λ_=>Ka) (λ_=>rfl)))
 case h2=>
  intro hh;have a1:(1:Int)<=(ls.length:Int):=by lia
  have a2:(ls.length:Int)<=7:=by lia
  simp[a1,a2]at hh
 case h3=>
  intro _;refine K1 (KU ?_);apply ZD (λ_ Z=>∃x2 x3,Z=[O _,pb (.int n),x2,x3])
  case h1=>exact Y9 (U0 (UX zO) U6) Xa
  case h0=>exact⟨_,_,rfl⟩
  case hst=>
   rintro i d Z hi ⟨x1,x2,rfl⟩;obtain⟨x,hx,rfl⟩:=Xo hi;obtain⟨rs,hrs,rfl⟩:=Qs.mp (Qr hx);refine⟨_,Kr zO (U9 (U4 (Qa zO) zO) (U9 (U4 (Qa zO) zO) Ks)),?_⟩;have hfl:=Pu (h rs hrs);apply KE
   case h1=>exact Z9 (Yj (Ko (U0 (UX zO) (U0 (UX zO) U6)) zO (yD (h rs hrs) hn (by lia))))
   case h2=>intro hh;cases hh
   case h3=>exact λ_=>K1 (Zd ⟨_,_,rfl⟩)
  case hend=>exact λZ ⟨x1,x2,e⟩=>⟨_,rfl⟩
def SH  {ls}(g:Good cs ls):Yi [Kz cs ls]=O .none:=by
 refine Oa  rfl ?_;apply KW;apply KE
 case h1=>exact ZZ  (Yv (UX zO) zO) (Kf (Zu zO zO) Ka Wg)
 case h2=>intro hh;cases hh
 case h3=>
  intro _;refine K1 (KU ?_);have hlen:Kn [.list (cs.map int)]=O (.int (cs.length:Nat)):=by rw[Zg,Qb]
  refine Kq (YD (UX zO) (Kr zO (U9 (U4 (Qa zO) zO) (U9 (U4 (Qa zO) zO) Ks)))) ?_;refine Kq (Wh (Ko (U0 (UX zO) U6) zO (ve g.c1 g.c6 g.c7))) ?_;exact Yp (Wh (Ko (U0 (UX zO) (U0 (Zu zO hlen) U6)) zO (xn g.c6 g.l1 g.l7 g.rk))) ⟨_,rfl⟩
theorem Ei:∀(xs ys:zT),PyData.eqvAll (xs.map int) (ys.map int)=decide (xs=ys)
 |[],[]=>rfl
 |[],y::ys=>by simp[PyData.eqvAll]
 |x::xs,[]=>by simp[PyData.eqvAll]
 |x::xs,y::ys=>by
  have ih:=Ei xs ys
  show(UP _ _&&PyData.eqvAll _ _)=_
  have:UP (.int x) (.int y)=decide _:=rfl;simp_all
def vd  : oNe (.list (xs.map int)) (.list [])=O (!decide (xs=[])):=by
 unfold oNe;have h1   :=Nt xs;have h3:(UJ (xs.map int)).depth<=60:=by have:=Nr xs;unfold Yb at this;lia
 rw[Qu ⟨h1,rfl,h3⟩]
 congr 2
 exact Ei xs []
def Mv{xs:zS}{x}(h:xs.getLast?=O x):oIx (.list xs) (.int (-1))=O x:=by
 have hl:xs≠[]:=by rintro rfl;cases h
 have hp   :=List.length_pos_iff.mpr hl;rw[List.getLast?_eq_getElem?]at h
 show(ixN xs.length _).bind _=_
 unfold ixN;rw[QJ (by decide),Qu (by lia)];have e2:(-1+(xs.length:Int)).toNat=xs.length-1:=by lia
 rw[e2];exact h
def Mu{xs:zT}{k}(h:k<xs.length):oIx (.list (xs.map int)) (.int k)=O (.int (xs.getD k 0)):=by refine Zv ?_;simp[List.getD,List.getElem?_eq_getElem h]
def LK(ns:zT)(k:Nat)(hl:ns.length<=1000):∃v,X6 [.list (ns.map int),.int k]=O (.int v):=by
 have hlen:Kn [.list (ns.map int)]=O (.int ns.length):=by rw[Zg,Qb]
 by_cases h:k<ns.length
 .refine⟨ns.getD k 0,K3  rfl ?_⟩
  apply KW;apply KE
  case h1=>exact ZO zO (Zu zO hlen) zO
  case h2=>exact λ_=>Kv (Kt zO (UX zO) (Mu h)) (ZP zO)
  case h3=>lia
 .refine⟨0,K3  rfl ?_⟩
  apply KW;apply KE
  case h1=>exact ZO zO (Zu zO hlen) zO
  case h2=>lia
  case h3=>exact λ_=>K1 (KU (Kv Ka zO))
noncomputable def tab:zT:=[1,1,2,0,3,7,1,4,5,6,1]
def HF  (h0:0<=z)(h1:z<11):oIx (.list (tab.map int)) (.int z)=O (.int (tab.getD z.toNat 0))/\0<=tab.getD z.toNat 0/\tab.getD z.toNat 0<8:=by
 have e:z=0∨z=1∨z=2∨z=3∨z=4∨z=5∨z=6∨z=7∨z=8∨z=9∨z=10:=by lia
 rcases e with rfl|rfl|rfl|rfl|rfl|rfl|rfl|rfl|rfl|rfl|rfl<;>exact⟨rfl,by decide,by decide⟩
structure Su(n:Nat)(pl:zT)(j:Nat)(rs:List zT):Prop where
 few:rs.length<=j
 some:∀r∈rs,r≠[]
 there:∀r∈rs,∀t∈r,(0<=t/\t<n)/\pl.getD t.toNat 0<1+(j:Int)
 once:rs.flatten.Nodup
noncomputable def RV(n:Nat)(pl:zT)(r:Int):zT:=((UH n).filter λk=>decide (pl.getD k 0=r)).map λk:Nat=>(k:Int)
def yC(n)(pl)(r):(RV n pl r).Nodup:=by refine List.Pairwise.map _ (λa b h e=>h (by lia)) ((List.nodup_range).filter _)
def EW    (h:t∈RV n pl r):(0<=t/\t<n)/\pl.getD t.toNat 0=r:=by obtain⟨k,hk,rfl⟩:=Qs.mp h;simp_all
def Su.add{n:Nat}{pl:zT}{j:Nat}{rs}{row}(g:Su n pl j rs)(hne:row≠[])(hm:∀t∈row,t∈RV n pl (1+(j:Int)))(hn:row.Nodup):Su n pl (j+1) (rs++[row]) where
 few:=by rw[Qi,Q0];have:=g.few;lia
 some:=λr hr=>by
  rcases Qz.mp hr with z|z
  .exact g.some r z
  .rw[Qt.mp z];exact hne
 there:=λr hr t ht=>by
  rcases Qz.mp hr with z|z
  .have:=g.there r z t ht;exact⟨this.1,by lia⟩
  .rw[Qt.mp z]at ht
   have:=EW (hm t ht);exact⟨this.1,by lia⟩
 once:=by
  rw[List.flatten_append,List.flatten_singleton];refine List.nodup_append.mpr ⟨g.once,hn,λa ha b hb e=>?_⟩;subst e;obtain⟨r,hr,har⟩:=Uh.mp ha;have h1:=(g.there r hr a har).2;have h2:=(EW (hm a hb)).2
  lia
noncomputable def Su.next    {rs}(g:Su n pl j rs):Su n pl (j+1) rs:=
 ⟨by have:=g.few;lia,g.some,λr hr t ht=>⟨(g.there r hr t ht).1,by have:=(g.there r hr t ht).2;lia⟩,g.once⟩
def O7{x:D}{m:Nat}(h:m<=1000):KB (.list [x]) (.int m)=O (.list (UI m x)):=by rw[DR ⟨by lia,by lia,by show 1*m<=_;lia⟩];simp_all
noncomputable def szG(T A:Nat):zT:=(T:Int)::(A:Int)::UI T 11
noncomputable def Xe(T R:Nat):zT:=UI T ((R:Int)+1)++[2]
def GH{T A:Nat}:(szG T A).length=T+2:=by unfold szG;simp
def F0{T R:Nat}:(Xe T R).length=T+1:=by unfold Xe;simp
def CZ  (h1:1<=T)(h2:T<=6)(h3:1<=A)(h4:A<=7):∀x∈szG T A,0<x/\x<18446744073709551616:=λx hx=>by
 unfold szG at hx
 grind
def Aw{T R}(h:R<=5):∀x∈Xe T R,0<x/\x<18446744073709551616:=λx hx=>by unfold Xe at hx;simp only[Qz,List.mem_singleton,List.mem_replicate]at hx;rcases hx with ⟨_,rfl⟩|rfl<;>lia
def vc{T R:Nat}:(Xe T R)[T]?=O 2:=by unfold Xe;simp
def CY{T A k}(h:k<T):(szG T A)[2+k]?=O 11:=by unfold szG;rw[show 2+k=k+1+1 by lia,J6,J6,QA,Qu h]
def NO(T A R:Nat)(S dz:D)(at_ n:Nat)(cs pl:zT)(ls:L3)(x9 au:Option Sl)(j:Nat)(Z:U5):Prop:=∃(rs:List zT)(ao aH:Option Sl),
 Z=[pb S,pb (.int at_),pb (.int (T:Nat)),pb (.int (A:Nat)),pb (.int (R:Nat)),pb dz,O (.own (cs.map int)),O (.own (ls.map Zm)),x9,au,pb (.list (pl.map int)),O (.own (rs.map Yb)),ao,aH]/\Su n pl j rs
def wB{T A R:Nat}{S dz:D}{at_ n:Nat}{cs pl:zT}{ls:L3}{v9 v10:D}{j:Nat}{d:D}{Z:U5}{Q:Out->Prop}(hcs:cs.length=n)(hT:T<=6)(hR:R<=5)(hn:n<=T)(hpl:pl.length=T+1)(ar:pl.getD T 0=0∨pl.getD T 0=1)
  (hj:(Ys 1 ((R:Int)+1))[j]?=O d) (h:NO T A R S dz at_ n cs pl ls (O (.pub v9)) (O (.pub v10)) j Z) :
  ∃Z2,gN 12 d Z=O Z2/\Ho Mx Z2 (R5 (NO T A R S dz at_ n cs pl ls (O (.pub v9)) (O (.pub v10)) (j+1)) Q):=by
 obtain⟨rs,ao,aH,rfl,g⟩:=h;obtain⟨rfl,hlt⟩:=XY hj;have hj5:j<R:=by lia
 refine⟨_,U4 (Qa zO) zO,?_⟩;unfold Mx
 have hrd:Ys 0 ((n:Nat):Int)=(UH n).map λk=>.int (k:Int):=by
  unfold Ys;have:((n:Int)-0).toNat=n:=by lia
  rw[this];apply List.map_congr_left;intro k _;rw[Jj]
 have hc:Zf (gN 14) (U1 oEq (U8 10 (UW 14)) (UW 12)) (UW 14) (Ys 0 ((n:Nat):Int)) (KR [pb S,pb (.int at_),pb (.int (T:Nat)),pb (.int (A:Nat)),pb (.int (R:Nat)),pb dz,O (.own (cs.map int)),O (.own (ls.map Zm)),pb v9,pb v10,pb (.list (pl.map int)),O (.own (rs.map Yb)),pb (.int (1+(j:Int))),aH]++UI 1 zP) []=O ((RV n pl (1+(j:Int))).map int):=by
  rw[hrd,W6 (λd=>match d with | .int k=>decide (pl.getD k.toNat 0=1+(j:Int))|_=>zR) (λd=>d) (λZ=>∃x,Z=[pb S,pb (.int at_),pb (.int (T:Nat)),pb (.int (A:Nat)),pb (.int (R:Nat)),pb dz,zP,zP,pb v9,pb v10,pb (.list (pl.map int)),zP,pb (.int (1+(j:Int))),WT aH,x])]
  .rw[Qw,List.map_id',List.filter_map]
   unfold RV;rw[QL];rfl
  .rintro d hm Z ⟨x,rfl⟩
   obtain⟨k,hk,rfl⟩:=Qs.mp hm;have hk:=QE.mp hk;refine⟨_,U4 (Qa zO) zO,Kf (Kt zO (UX zO) (Mu (by lia))) (UX zO) Yk,λ_=>UX zO,pb (.int k),?_⟩;unfold KR;cases aH with
   |none=>rfl
   |some sl=>cases sl<;>rfl
  .exact⟨zP,rfl⟩
  .rw[Qb,Qp,Qm];lia
 have hlen:(cs.map int).length=n:=by rw[Qb,hcs]
 refine Kq (Z8 (Zi (Y7 (U0 (qQ zO) U6) (by rw[hlen];exact Y8 (by lia) (by lia))) hc) (Qa zO) zO) ?_;generalize cf:RV n pl (1+(j:Int))=row;apply KE
 case h1=>exact M8 zO (ZN U6 (by decide)) zO vd
 case h2=>
  intro hh;have hne:row≠[]:=by simpa using hh
  have hlx:oIx (.list (pl.map int)) (.int (-1))=O (.int (pl.getD T 0)):=Mv (by rw[List.getLast?_eq_getElem?,Qb,hpl,Qd,Nat.add_sub_cancel];simp[List.getD,List.getElem?_eq_getElem (show T<pl.length by lia)])
  obtain⟨aP,hix,aQ⟩:∃aP:zT,oIx (.list [.list (row.map int),.list (row.map int).reverse]) (.int (pl.getD T 0))=O (Yb aP)/\(aP=row∨aP=row.reverse):=by
   rcases ar with e|e
   .rw[e];exact⟨row,rfl,.inl zO⟩
   .rw[e];exact⟨row.reverse,by show O (UJ (row.map int).reverse)=_;unfold Yb;rw[List.map_reverse],.inr zO⟩
  have aZ:(rs.map Yb).length<1000000:=by rw[Qb];have:=g.few;lia
  refine Yp (XT zO (Kf (ZN (U0 (YC zO zO) (U0 (HI (UX zO) Ka Ka (Xq (Sw Ka))) U6)) (Qa zO)) (Kt zO (Sw Ka) hlx) hix) zO aZ zO) ?_;refine Zd ⟨rs++[aP],pb (.int (1+(j:Int))),pb (.list (row.map int)),by rw[QC];rfl,g.add ?_ ?_ ?_⟩
  .rcases aQ with e|e<;>rw[e]
   .exact hne
   .exact λz=>hne (List.reverse_eq_nil_iff.mp z)
  .intro t ht
   rw[cf];rcases aQ with e|e<;>rw[e]at ht
   .exact ht
   .exact List.mem_reverse.mp ht
  .have hnd:=yC n pl (1+(j:Int))
   rw[cf]at hnd;rcases aQ with e|e<;>rw[e]
   .exact hnd
   .exact(List.reverse_perm row).nodup_iff.mpr hnd
 case h3=>exact λ_=>K1 (Zd ⟨rs,_,_,rfl,g.next⟩)
def NN(T A R:Nat)(S dz:D)(at_ n:Nat)(cs:zT)(i:Nat)(Z:U5):Prop:=∃(ls:L3)(x9 au aj av ao aH:Option Sl),
 Z=[pb S,pb (.int at_),pb (.int (T:Nat)),pb (.int (A:Nat)),pb (.int (R:Nat)),pb dz,O (.own (cs.map int)),O (.own (ls.map Zm)),x9,au,aj,av,ao,aH]/\ls.length=i/\∀rs∈ls,SI n rs/\rs.length<=R
def yB{T A R:Nat}{ns:zT}{dz:D}{at_ n:Nat}{cs:zT}{i:Nat}{m:Int}{d:D}{Z:U5}{Q:Out->Prop}(hns:ns.length<=1000)(hT:T<=6)(hR:R<=5)(hcs:cs.length=n)(hn:n<=T)(hm:m<=100)
  (hi:(Ys 0 m)[i]?=O d) (h:NN T A R (.list (ns.map int)) dz at_ n cs i Z) :
  ∃Z2,gN 8 d Z=O Z2/\Ho Mw Z2 (R5 (NN T A R (.list (ns.map int)) dz at_ n cs (i+1)) Q):=by
 obtain⟨ls,x9,au,aj,av,ao,aH,rfl,hl,hg⟩:=h;obtain⟨rfl,hlt⟩:=XY hi;refine⟨_,U4 (Qa zO) zO,?_⟩;unfold Mw;obtain⟨v,hv⟩:=LK ns (at_+1+i) hns;have ev:((at_:Int)+1+(0+(i:Int)))=((at_+1+i:Nat):Int):=by lia
 rw[←ev]at hv;refine Kq (KY (Ko (U0 (UX zO) (U0 (Kf (Kf (UX zO) Ka Ze) (UX zO) Ze) U6)) zO hv) (Qa zO) zO) ?_;obtain⟨r,hF,pl,rfl,hpl,hpb⟩:=NL v (11*(at_:Int)+3*(0+(i:Int))+1) (sizes:=Xe T R) (Aw hR) (by rw[F0];lia);have hpl7:pl.length=T+1:=by rw[hpl,F0]
 have hmul:KB (.list [.int ((R:Int)+1)]) (.int (T:Nat))=O _:=O7 (by lia);have hadd:Kg (.list (UI T (.int ((R:Int)+1)))) (.list [.int 2])=O (.list ((Xe T R).map int)):=by rw[Wj (by rw[QO];show T+1<=_;lia)];unfold Xe;rw[QC,JQ];rfl
 refine Kq (KY (Ko (U0 (UX zO) (U0 (Kf (Kf (Kf Ka (UX zO) (VJ (by decide) (by decide))) (Kf Ka (UX zO) (VJ (by decide) (by decide))) Ze) Ka Ze) (U0 (Kf (Kf (ZN (U0 (Kf (UX zO) Ka Ze) U6) (Qa zO)) (UX zO) hmul) (ZN (U0 Ka U6) (Qa zO)) hadd) U6))) zO hF) (Qa zO) zO) ?_;refine Kq (Z8 (W3 U6 (Qa zO)) (Qa zO) zO) ?_
 have ar:pl.getD T 0=0∨pl.getD T 0=1:=by
  have e:pl[T]?=O pl[T]:=Qe (by lia);have:=hpb T pl[T] 2 e vc;have e2:pl.getD T 0=pl[T]:=by simp[List.getD,e]
  rw[e2];lia
 apply KW;apply ZD (NO T A R (.list (ns.map int)) dz at_ n cs pl ls (O (.pub (.int (0+(i:Int))))) (O (.pub (.int v))))
 case h1=>exact qP (U0 Ka (U0 (Kf (UX zO) Ka Ze) U6)) (kX (by lia) (by lia) (by decide) (by decide))
 case h0=>exact⟨[],ao,aH,rfl,⟨Qv _,λ_ h=>(by cases h),λ_ h=>(by cases h),List.nodup_nil⟩⟩
 case hst=>exact λj d Z e h=>wB hcs hT hR hn hpl7 ar e h
 case hend=>
  rintro Z ⟨rs,y13,y14,rfl,g⟩;refine KU ?_;have hl5:(Ys 1 ((R:Int)+1)).length=R:=by rw[YZ];lia
  rw[hl5]at g;have al:(ls.map Zm).length<1000000:=by rw[Qb];lia
  refine Yp (XT zO (YC zO zO) zO al zO) ?_;refine Zd ⟨ls++[rs],pb (.int (0+(i:Int))),pb (.int v),pb (.list (pl.map int)),pb (.list (rs.map Yb)),y13,y14,by rw[QC];rfl,by rw[Qi,hl];rfl,λx hx=>?_⟩;rcases Qz.mp hx with z|z
  .exact hg x z
  .rw[Qt.mp z];exact⟨⟨by have:=g.few;lia,g.some,λr hr t ht=>(g.there r hr t ht).1,g.once⟩,g.few⟩
def zo(T A R:Nat){ns:zT}(hns:ns.length<=1000)(at_:Nat)(hT1:1<=T:=by decide)(hT:T<=6:=by decide)(hA1:1<=A:=by decide)(hA:A<=7:=by decide)(hR:R<=5:=by decide):∃r,Th [.list (ns.map int),.int at_,.int (T:Nat),.int (A:Nat),.int (R:Nat)]=O r/\∃cs ls,r=Kz cs ls/\Good cs ls/\cs.length<=T/\ls.length<=A/\∀rs∈ls,rs.length<=R:=by
 obtain⟨v,hv⟩:=LK ns at_ hns;obtain⟨r,hF,ds,rfl,hl,hd⟩:=NL v at_ (sizes:=szG T A) (CZ hT1 hT hA1 hA) (by rw[GH];lia);have hl8:ds.length=T+2:=by rw[hl,GH]
 have at':∀(j:Nat)(k z:Int),k=j->(szG T A)[j]?=O z->∃d,oIx (.list (ds.map int)) (.int k)=O (.int d)/\ds[j]?=O d/\0<=d/\d<z:=λj k z hk hz=>by
  subst hk;have hj:j<ds.length:=by rw[hl];exact(Qg.mp hz).1
  have e:ds[j]?=O ds[j]:=Qe hj;obtain⟨p0,p1⟩:=hd j ds[j] z e hz;exact⟨ds[j],Zv (by rw[Qd,e];rfl),e,p0,p1⟩
 obtain⟨d0,x0,e0,p0,q0⟩:=at' 0 0 T zO zO;obtain⟨d1,x1,e1,p1,q1⟩:=at' 1 1 A zO zO;have hmul:KB (.list [.int 11]) (.int (T:Nat))=O (.list (UI T (.int 11))):=O7 (by lia);have hadd:Kg (.list [.int (T:Nat),.int (A:Nat)]) (.list (UI T (.int 11)))=O (.list ((szG T A).map int)):=by rw[Wj (by rw[QO];show 2+T<=_;lia)];unfold szG;rw[QD,QD,JQ];rfl
 obtain⟨n,hn⟩:∃n:Nat,1+d0=n:=⟨(1+d0).toNat,by lia⟩
 refine W2  rfl ?_;unfold Rc;refine Kq (KY (Ko (U0 (Ko (U0 (UX zO) (U0 (UX zO) U6)) zO hv) (U0 (UX zO) (U0 (Kf (ZN (U0 (UX zO) (U0 (UX zO) U6)) (Qa zO)) (Kf (ZN (U0 Ka U6) (Qa zO)) (UX zO) hmul) hadd) U6))) zO hF) (Qa zO) zO) ?_
 have aB:DL.cutD (ds.map int) (O 2) (O (3+d0))=((ds.drop 2).take n).map int:=by
  rw[M6 (by decide) (by lia) (by lia)];have:(3+d0).toNat-(2:Int).toNat=n:=by lia
  rw[this];rfl
 have bo:((ds.drop 2).take n).length=n:=by rw[QY,Q8,hl8];lia
 have each:∀z∈(ds.drop 2).take n,0<=z/\z<11:=λz hz=>by
  have hz:=JL hz;obtain⟨k,hk,e⟩:=List.getElem_of_mem hz;rw[Q8,hl8]at hk;rw[List.getElem_drop]at e;have e2:ds[2+k]?=O z:=by rw[←e];exact Qe _
  refine hd (2+k) z 11 e2 (CY ?_)
  lia
 let cs:zT:=((ds.drop 2).take n).map λz=>tab.getD z.toNat 0
 have hcl:cs.length=n:=by show(List.map _ _).length=n;rw[Qb,bo]
 have hc:∀xs:List (Option Sl),KR xs=xs->xs.length=14->Zf (gN 14) (U2 zQ) (U1 oIx (KS (UZ (U2 (.int 1)) (UZ (U2 (.int 1)) (UZ (U2 (.int 2)) (UZ (U2 (.int 0)) (UZ (U2 (.int 3)) (UZ (U2 (.int 7)) (UZ (U2 (.int 1)) (UZ (U2 (.int 4)) (UZ (U2 (.int 5)) (UZ (U2 (.int 6)) (UZ (U2 (.int 1)) (UY))))))))))))) (UW 14)) (((ds.drop 2).take n).map int) (KR xs++UI 1 zP) []=O (cs.map int):=by
  intro xs hx hxl;rw[hx,W6 (λ_=>zQ) (λd=>match d with | .int z=>.int (tab.getD z.toNat 0)|_=>.none) (λZ=>∃x,Z=xs++[x])]
  .rw[QR.mpr (λ_ _=>rfl),Qw,QL]
   show _=O ((((ds.drop 2).take n).map λz=>tab.getD z.toNat 0).map int);rw[QL];rfl
  .rintro d hm Z ⟨x,rfl⟩
   obtain⟨z,hz,rfl⟩:=Qs.mp hm;have ht:=HF (each z hz).1 (each z hz).2;have hset:(xs++[x]).set 14 (O (Sl.pub (.int z)))=xs++[pb (.int z)]:=by rw[List.set_append_right _ _ (by lia),hxl];rfl
   have hget:(xs++[O (Sl.pub (.int z))])[14]?=O (O (Sl.pub (.int z))):=by rw[QI (by lia),hxl];rfl
   refine⟨_,U4 (by rw[Qi,hxl];exact Qa zO) hset,rfl,λ_=>?_,pb (.int z),?_⟩
   .exact Kf (ZN (U0 Ka (U0 Ka (U0 Ka (U0 Ka (U0 Ka (U0 Ka (U0 Ka (U0 Ka (U0 Ka (U0 Ka (U0 Ka U6))))))))))) (Qa zO)) (UX hget) ht.1
   .unfold KR at hx⊢
    rw[QC,hx];rfl
  .exact⟨zP,rfl⟩
  .rw[Qb,bo,Qm];lia
 refine Kq (Z8 (Zi (Zh (W1 (UX zO) (Xq Ka) (Xq (Kf Ka (Kt zO Ka x0) Ze)) (by rw[W5,aB])) Zt) (hc _ zO zO)) (Qa zO) zO) ?_;refine Kq (Z8 (W3 U6 (Qa zO)) (Qa zO) zO) ?_;apply KW;apply ZD (NN T A R (.list (ns.map int)) (.list (ds.map int)) at_ n cs)
 case h1=>exact Y7 (U0 (Kf Ka (Kt zO Ka x1) Ze) U6) (Y8 (by lia) (by lia))
 case h0=>exact⟨[],_,_,_,_,_,_,rfl,rfl,λ_ h=>by cases h⟩
 case hst=>exact λi d Z e h=>yB hns hT hR hcl (by lia) (by lia) e h
 case hend=>rintro Z ⟨ls,y9,y10,y11,y12,y13,y14,rfl,al,hg⟩;rw[YZ]at al;refine KU (Kv (ZU (U0 (YC rfl rfl) (U0 (YC rfl rfl) U6)) (Qa rfl)) ⟨_,rfl,cs,ls,rfl,⟨?_,by lia,by lia,λrs hrs=>(hg rs hrs).2⟩⟩);exact⟨by lia,by lia,λc hc=>by obtain⟨z,hz,rfl⟩:=Qs.mp hc;exact(HF (each z hz).1 (each z hz).2).2,by lia,by lia,λrs hrs=>by rw[hcl];exact(hg rs hrs).1⟩
noncomputable def ZC(t:Int)(rs:List zT):Nat:=if rs.findIdx (λr=>r.contains t)<rs.length then rs.findIdx (λr=>r.contains t)+1 else 0
def Mt(t)(r):oIn (.int t) (Yb r)=O (r.contains t):=by
 have h1:UN (r.map int)=zQ:=by
  induction r with
  |nil=>rfl
  |cons x r ih=>rw[QD];unfold UN;rw[ih];rfl
 unfold oIn Yb;dsimp only;rw[Qu ⟨rfl,h1,JX _⟩]
 congr 1
 rw[Ui];clear h1;induction r with
 |nil=>rfl
 |cons x r ih=>
  rw[List.any_cons]
  congr 1
  exact Bool.eq_iff_iff.2 ⟨λh=>beq_iff_eq.2 (beq_iff_eq.1 h).symm,λh=>beq_iff_eq.2 (beq_iff_eq.1 h).symm⟩
def Dk  {rs}{i}{r}(hr:rs[i]?=O r)(h:r.contains t=zQ)(hb:∀j r,j<i->rs[j]?=O r->r.contains t=zR):ZC t rs=1+i:=by obtain⟨hi,e⟩:=List.getElem?_eq_some_iff.1 hr;have hf   :=(List.findIdx_eq hi).2 ⟨by rw[e];exact h,λj hj=>hb j _ hj (Qe _)⟩;unfold ZC;rw[hf,Qu hi,Nat.add_comm]
def Dj  {rs}(hb:∀j r,j<rs.length->rs[j]?=O r->r.contains t=zR):ZC t rs=0:=by
 have hf   :=List.findIdx_eq_length.2 λr hr=>by obtain⟨j,hj,e⟩:=List.mem_iff_getElem.1 hr;exact hb j r hj (by simp_all)
 unfold ZC;rw[hf,QJ (Jp _)]
def Dv(t:Int)(rs):WO [Zm rs,.int t]=O (.int (ZC t rs:Nat)):=by
 refine K3  rfl ?_;apply KW;apply ZD (λi Z=>(∃x2 x3,Z=[O _,pb (.int t),x2,x3])/\∀j r,j<i->rs[j]?=O r->r.contains t=zR)
 case h1=>exact kW (U0 (UX zO) U6) vM
 case h0=>exact⟨⟨_,_,rfl⟩,λj r h=>absurd h (Jq _)⟩
 case hst=>
  rintro i d Z hi ⟨⟨x2,x3,rfl⟩,hb⟩;obtain⟨x,hx,rfl⟩:=Xo hi;rw[Qd]at hx;cases hr:rs[i]? with
  |none=>rw[hr]at hx;cases hx
  |some r=>
   rw[hr]at hx;cases hx;refine⟨_,Kr zO (U9 (U4 (Qa zO) zO) (U9 (U4 (Qa zO) zO) Ks)),?_⟩;apply KE
   case h1=>exact ZO zO (UX zO) (Mt t r)
   case h2=>intro hh;refine Kv (UX zO) (VI ?_);rw[Dk hr hh hb];exact⟨rfl⟩
   case h3=>
    intro hh;refine K1 (Zd ⟨⟨_,_,rfl⟩,λj r' hj hr'=>?_⟩);rcases Nat.lt_succ_iff_lt_or_eq.1 hj with h|rfl
    .exact hb j r' h hr'
    .rw[hr]at hr';cases hr';exact hh
 case hend=>rintro Z ⟨⟨x2,x3,rfl⟩,hb⟩;rw[YH,Qb]at hb;refine KU ?_;rw[Dj hb];exact Kv Ka rfl
noncomputable def Ky:zZ->D
 |none=>.none
 |some t=>.int t
noncomputable def Kp(ws:LO):D:=.list (ws.map Ky)
def yA{ws:LO}(hl:ws.length<=1000):Vo [Kp ws,.int ws.length]=O (.bool zQ):=by
 refine K3 (Z:=[pb (Kp ws),pb (.int ws.length)]) zO ?_;unfold V5;apply KW;have hlen:Kn [Kp ws]=O (.int ws.length):=by unfold Kp;rw[Zg,Qb]
 apply KE
 case h1=>exact ZZ (Z1:=[pb (Kp ws),pb (.int ws.length)]) (Yv (UX zO) zO) (Kf (Zu zO hlen) (UX zO) Wg)
 case h2=>intro hh;simp at hh
 case h3=>
  intro _;refine K1 (KU ?_)
  have hc:Zf (gN 2) (U2 zQ) (Xf (Kb (λd=>.bool (isNon d)) (UW 2)) (U7 1 Yr (UZ (UW 2) (UY)))) (ws.map Ky) (KR [pb (Kp ws),pb (.int ws.length)]++UI 1 zP) []=O (ws.map λ_=>.bool zQ):=by
   rw[W6 (λ_=>zQ) (λ_=>.bool zQ) (λZ=>∃x,Z=[pb (Kp ws),pb (.int ws.length),x])]
   .rw[QR.mpr (λ_ _=>rfl),Qw,QL];rfl
   .rintro d hm Z ⟨x,rfl⟩
    obtain⟨t,ht,rfl⟩:=Qs.mp hm;refine⟨_,U4 (Qa zO) zO,rfl,λ_=>?_,_,rfl⟩;cases t with
    |none=>exact Sv (t:=zQ) (u:=zQ) (KJ (k:=λd=>UK (isNon d)) (x:=.none) (UX zO)) (λh=>nomatch h)
    |some t=>exact Sv (t:=zR) (u:=zQ) (KJ (k:=λd=>UK (isNon d)) (x:=.int t) (UX zO)) (λ_=>Ko (U0 (UX zO) U6) zO (EY t))
   .exact⟨zP,rfl⟩
   .rw[Qb,Qm];omega
  exact Kv (Zj (U0 (KJ (Zi (Zh (UX zO) zO) hc)) U6) (Oo ws)) zO
structure Deal(cs:zT)(ls:L3)(ws:LO):Prop where
 len:ws.length=ls.length
 wish:∀(i:Nat) t rs,ws[i]?=O (O t)->ls[i]?=O rs->t∈rs.flatten
 cop:∀(k:Nat) c,cs[k]?=O c->((ws.count (O (k:Int)):Nat):Int)<=c
def Lw   (h:t∈rs.flatten):ZC t rs≠0:=by unfold ZC;simp_all
def Ow(ws:LO):UN (ws.map Ky)=zQ:=VW λx hx=>by obtain⟨y,_,rfl⟩:=Qs.mp hx;cases y<;>rfl
def Ms(a b):UP (Ky a) (Ky b)=decide (a=b):=by rw[JU];cases a<;>cases b<;>simp[Ky,UP]
def Oz   : VQ (Kp ws) (.int k)=O (.int (ws.count (O k):Nat)):=by
 unfold Kp VQ;dsimp only;rw[if_pos ⟨rfl,Ow ws,by simp[UO]⟩]
 congr 3
 induction ws with
 |nil=>rfl
 |cons w r ih=>rw[QD,List.countP_cons,Up,ih];have:=Ms w (O k);have e:Ky (O k)=.int k:=rfl;simp_all
def FZ   {s}{t}{g}{Z Z1}{ds es}(h1:f Z=.ok ds Z1)(h2:Zf s t g ds (Yt Z1++UI k zP) []=O es)(h3:es.all flat=zQ):Pj f k s t g Z=.ok es Z1:=by unfold Pj;rw[h1];dsimp only;rw[h2];dsimp only;rw[if_pos h3]
def Ll  {ls}{rs}{i:Nat}(hi:ls[i]?=O rs)(hl:rs.flatten.length<64):XE [Kz cs ls,.int i]=O (.list ((Xm rs.flatten).map int)):=by
 refine K3  rfl ?_;have i1:oIx (Kz cs ls) (.int 1)=O _:=Zv (j:=1) zO;have i2:oIx (.list (ls.map Zm)) (.int i)=O (Zm rs):=Zv (by rw[Qd,hi];rfl)
 have hs:R6 [Zm rs,.list []]=O (.list (rs.flatten.map int)):=by
  have e:Zm rs=.list ((rs.map λr=>r.map int).map UJ):=by unfold Zm;rw[QL];rfl
  have e2:(rs.map λr=>r.map int).flatten=rs.flatten.map int:=by rw[List.map_flatten]
  rw[e];unfold R6;dsimp only;rw[yn];dsimp only;rw[e2,Qu (by rw[Qb];lia)]
 exact Kv (Zj (U0 (Zj (U0 (Kf (Kt zO Ka i1) (UX zO) i2) (U0 (ZN U6 (Qa zO)) U6)) hs) U6) (DN hl)) zO
def HE{os:LO}{k:Nat}(h):oIx (.list (os.map Ky)) (.int k)=O (Ky os[k]):=Zv (by simp_all)
def FY(ws):(Kp ws).depth<=2:=Oe (PD λx hx=>by obtain⟨y,_,rfl⟩:=Qs.mp hx;cases y<;>simp[Ky,UO])
theorem XX    (I:U5->Prop):∀(ds qs:zS)(Z:U5)(es:zS),qs.length=ds.length ->
  (∀(i:Nat) d e,ds[i]?=O d->qs[i]?=O e->∀Z,I Z->∃Z1,s d Z=O Z1/\t Z1=.ok zQ Z1/\g Z1=.ok e Z1/\I (KR Z1))->I Z->es.length+ds.length<=1000000->Zf s t g ds Z es=O (es++qs)
 |[],[],Z,es,_,_,_,_=>by rw[Zf,Jg]
 |d::r,e::q,Z,es,hl,st,h0,hz=>by obtain⟨Z1,e1,e2,e3,h1⟩:=st 0 d e zO zO Z h0;rw[QU]at hz;rw[Zf,e1];dsimp only;rw[e2];dsimp only;rw[Qu zO,e3];dsimp only;rw[if_pos (by lia),XX I r q _ _ (by simpa using hl) (λi d' e' x y=>st (i+1) d' e' (by simpa using x) (by simpa using y)) h1 (by rw[List.length_append,List.length_singleton];lia),List.append_assoc];rfl
def lng(ls:L3):Nat:=(most (ls.map λrs=>(rs.length:Int))).toNat
noncomputable def YQ(cs:zT)(ws:LO):zT:=(UH cs.length).map λk:Nat=>cs.getD k 0-((ws.count (O (k:Int)):Nat):Int)
def Mr  (h:1<=ls.length):most (ls.map λrs=>(rs.length:Int))=(lng ls:Nat):=by
 have hm:most _∈ls.map λrs=>(rs.length):=Nu (by rw[Qb];lia)
 obtain⟨rs,_,e⟩:=Qs.mp hm;unfold lng
 lia
def HD   (h:rs∈ls):rs.length<=lng ls:=by
 have h1:(_)<=most (ls.map λrs=>(rs.length)):=MN (Qs.mpr ⟨rs,h,rfl⟩);have h2:=Mr  (List.length_pos_of_mem h)
 lia
def Md   (h1:1<=ls.length)(h:∀rs∈ls,rs.length<=n):lng ls<=n:=by
 have hm:most _∈ls.map λrs=>(rs.length):=Nu (by rw[Qb];lia)
 obtain⟨rs,hr,e⟩:=Qs.mp hm;have:=h rs hr;unfold lng
 lia
def Lk(t:Int)(rs:List zT):ZC t rs<=rs.length:=by
 unfold ZC
 split<;>lia
section
variable{cs:zT}{ls:L3}{ws:LO}
def Wl:oIx (Kz cs ls) (.int 0)=O (.list (cs.map int)):=Zv (j:=0) zO
def XS:oIx (Kz cs ls) (.int 1)=O (.list (ls.map Zm)):=Zv (j:=1) zO
def NM{i:Nat}{rs}(h:ls[i]?=O rs):oIx (.list (ls.map Zm)) (.int i)=O (Zm rs):=Zv (by simp_all)
def Di(rs):Kn [Zm rs]=O (.int rs.length):=by unfold Zm;rw[Zg,Qb]
def Du(g:Good cs ls):WN [Kz cs ls]=O (.int (lng ls:Nat)):=by
 refine K3  rfl ?_;have hw:=SH g
 have hc:Zf (gN 1) (U2 zQ) (Zk 1) (ls.map Zm) (KR [pb (Kz cs ls)]++UI 1 zP) []=O ((ls.map λrs=>(rs.length)).map int):=by
  refine XX (λZ=>∃x,Z=[O _,x]) _ _ _ _ (by rw[Qb,Qb,Qb]) ?_ ⟨zP,rfl⟩ (by rw[Qb,Qm];have:=g.l7;lia);rintro i d e hd he Z ⟨x,rfl⟩;rw[Qd]at hd;rw[Qd,Qd]at he;cases hl:ls[i]? with
  |none=>rw[hl]at hd;cases hd
  |some rs=>
  rw[hl]at hd he;cases hd;cases he;exact⟨_,U4 (Qa zO) zO,rfl,Zu zO (Di rs),_,rfl⟩
 refine Kq (Wh (Ko (U0 (UX zO) U6) zO hw)) ?_;refine Kv (Zj (U0 (KJ (Zi (Zh (Kt zO Ka XS) Zt) hc)) U6) (Ea (by rw[Qb];have:=g.l1;lia))) ?_;rw[Mr g.l1]
def wA{xs:zT}{k}:VQ (.list (xs.map int)) (.int k)=O (.int (xs.count k:Nat)):=by
 have:=Oz (ws:=xs.map O) (k:=k);unfold Kp at this;rw[QL]at this
 have e:(xs.map O).count (O k)=xs.count k:=by
  rw[List.count,List.countP_map]
  congr 1
 rw[e]at this;exact this
def D4(g:Good cs ls):WM [Kz cs ls,Kp ws]=O (.list ((YQ cs ws).map int)):=by
 refine K3  rfl ?_;have hw:=SH g
 have hc:Zf (gT 2 (gNC (gN 2) (gNC (gN 3) (gN0)))) (U2 zQ) (U1 Zl (UW 3) (Vy (UW 1) (UZ (UW 2) (UY)))) (Yu 0 (cs.map int)) (KR [pb (Kz cs ls),pb (Kp ws)]++UI 2 zP) []=O ((YQ cs ws).map int):=by
  refine XX (λZ=>∃x y,Z=[O _,pb (Kp ws),x,y]) _ _ _ _ (by unfold YQ;rw[Qb,Qb,Qp,YH,Qb]) ?_ ⟨zP,zP,rfl⟩ (by rw[YH,Qb,Qm];have:=g.c6;lia);rintro i d e hd he Z ⟨x,y,rfl⟩;obtain⟨z,hz,rfl⟩:=Xo hd;rw[Qd]at hz;cases hci:cs[i]? with
  |none=>rw[hci]at hz;cases hz
  |some c=>
  rw[hci]at hz;cases hz;have ak:i<cs.length:=(Qg.mp hci).1;unfold YQ at he;rw[Qd,Qd,Qe (by rw[Qp];exact ak),List.getElem_range]at he;cases he;rw[QX];have e:cs.getD i 0=c:=by simp[List.getD,hci]
  dsimp only;rw[e];exact⟨_,Kr zO (U9 (U4 (Qa zO) zO) (U9 (U4 (Qa zO) zO) Ks)),rfl,Kf (UX zO) (Oq (UX zO) (U0 (UX zO) U6) Oz) Xp,_,_,rfl⟩
 refine Kq (Wh (Ko (U0 (UX zO) U6) zO hw)) ?_;exact Kv (KJ (Zi (Y9 (U0 (Kt zO Ka Wl) U6) Xa) hc)) zO
end
def Fe  (h1:d.canLay0=zQ)(h2:d.depth<=60):oNe d d=O zR:=by unfold oNe;rw[Qu ⟨h1,h1,h2⟩,Ej _ h1];rfl
def Pb  : oEq (Ky a) (Ky b)=O (decide (a=b)):=by unfold oEq;rw[if_pos ⟨by cases a<;>rfl,by cases b<;>rfl,by cases a<;>simp[Ky,UO]⟩,Ms]
def CW  : oNe (Ky a) (Ky b)=O (!decide (a=b)):=by unfold oNe;rw[if_pos ⟨by cases a<;>rfl,by cases b<;>rfl,by cases a<;>simp[Ky,UO]⟩,Ms]
section
variable{cs:zT}{ls:L3}{ws:LO}{a:Nat}{o had:zZ}{rs:List zT}{t:Int}
def wz(h:ZC t rs≠0):t∈rs.flatten:=by
 unfold ZC at h;split at h
 .rename_i hl
  have:=List.findIdx_getElem (w:=hl);exact List.mem_flatten.mpr ⟨_,List.getElem_mem hl,by simpa using this⟩
 .exact absurd zO h
end
def CV  {a:Nat}(h:a<=xs.length):DL.cutD xs zP (O (a:Int))=xs.take a:=by
 unfold DL.cutD HT.sIx;dsimp only;rw[QJ (by lia),QQ];have:min a xs.length=a:=by lia
 rw[this];simp
def xm  {a:Nat}(h:a<=xs.length):DL.cutD xs (O (a:Int)) zP=xs.drop a:=by
 unfold DL.cutD HT.sIx;dsimp only;rw[QJ (by lia),QQ];have:min a xs.length=a:=by lia
 rw[this,List.take_of_length_le (by simp_all)]
theorem Dt    (I:U5->Prop):∀(ds qs:zS)(Z:U5)(es:zS),qs.length=ds.length ->
  (∀(i:Nat) d e,ds[i]?=O d->qs[i]?=O e->∀Z,I Z->∃Z1,s d Z=O Z1/\t Z1=.ok zQ Z1/\g Z1=.ok e Z1/\I (KR Z1))->I Z->es.length+ds.length<=1000000->∃Z',Xv s t g ds Z es=O (es++qs,Z')/\I Z'
 |[],[],Z,es,_,_,h0,_=>⟨Z,by rw[Xv,Jg],h0⟩
 |d::r,e::q,Z,es,hl,st,h0,hz=>by obtain⟨Z1,e1,e2,e3,h1⟩:=st 0 d e zO zO Z h0;rw[QU]at hz;obtain⟨Z',e',h'⟩:=Dt I r q _ (es++[e]) (by simpa using hl) (λi d' e' x y=>st (i+1) d' e' (by simpa using x) (by simpa using y)) h1 (by rw[List.length_append,List.length_singleton];lia);refine⟨Z',?_,h'⟩;rw[Xv,e1];dsimp only;rw[e2];dsimp only;rw[Qu zO,e3];dsimp only;rw[Qu (by lia),e',Q5];rfl
theorem LH    {Rd}(I:U5->Prop):∀(ds:zS)(qs:List zS)(Z:U5)(es:zS),qs.length=ds.length ->
  (∀(i:Nat) d q,ds[i]?=O d->qs[i]?=O q->∀Z es,I Z->es.length+q.length<=1000000->∃Z1 xs Z2 Z3,s d Z=O Z1/\t Z1=.ok zQ Z1/\f Z1=.ok xs Z2/\Rd xs (KR Z2) es=O (es++q,Z3)/\I Z3)->I Z->es.length+qs.flatten.length<=1000000->∃Z',We s t f Rd ds Z es=O (es++qs.flatten,Z')/\I Z'
 |[],[],Z,es,_,_,h0,_=>⟨Z,by rw[We,List.flatten_nil,Jg],h0⟩
 |d::r,q::qr,Z,es,hl,st,h0,hz=>by rw[JC,Qi]at hz;obtain⟨Z1,xs,Z2,Z3,e1,e2,e3,e4,h1⟩:=st 0 d q zO zO Z es h0 (by lia);obtain⟨Z',e',h'⟩:=LH I r qr Z3 (es++q) (by simpa using hl) (λi d' e' x y=>st (i+1) d' e' (by simpa using x) (by simpa using y)) h1 (by rw[List.length_append];lia);refine⟨Z',?_,h'⟩;rw[We,e1];dsimp only;rw[e2];dsimp only;rw[Qu zO,e3];dsimp only;rw[e4];dsimp only;rw[e',JC,Q5]
noncomputable def Vu(i:Nat)(rs:List zT):LP:=rs.flatten.map λt=>((i:Int),t)
noncomputable def Yy(k:Nat):L3->LP
 |[]=>[]
 |rs::ls=>Vu k rs++Yy (k+1) ls
def Ke(k:Nat):L3->LP
 |[]=>[]
 |rs::ls=>(Xm rs.flatten).map (λt=>((k:Int),t))++Ke (k+1) ls
theorem SG:∀(ls)(k),(Ke k ls).Perm (Yy k ls)
 |[],_=>.nil
 |rs::ls,k=>((W4 rs.flatten).map _).append (SG ls _)
theorem MX:∀(ls)(k),∀q∈Ke k ls,(k:Int)<=q.1
 |[],_,q,h=>by cases h
 |rs::ls,k,q,h=>by
  rcases Qz.mp h with h|h
  .obtain⟨t,_,rfl⟩:=Qs.mp h;exact Jd _
  .have:=MX ls _ q h;lia
theorem Sf:∀{ls}{k}{q},q∈Ke k ls->∃i rs,ls[i]?=O rs/\q.1=((k+i:Nat):Int)/\q.2∈rs.flatten
 |[],_,q,h=>by cases h
 |rs::ls,k,q,h=>by
  rcases Qz.mp h with h|h
  .obtain⟨t,ht,rfl⟩:=Qs.mp h
   exact⟨0,rs,rfl,rfl,(W4 _).mem_iff.mp ht⟩
  .obtain⟨i,rs',h1,h2,h3⟩:=Sf h
   exact⟨i+1,rs',by simpa using h1,by rw[h2];congr 1;lia,h3⟩
theorem Nq:∀{ls}{k i}{rs}{t},ls[i]?=O rs->t∈rs.flatten->(((k+i:Nat):Int),t)∈Ke k ls
 |rs::ls,k,0,rs',t,h,ht=>by cases h;exact Q4 _ (Qs.mpr ⟨t,(W4 _).mem_iff.mpr ht,rfl⟩)
 |rs::ls,k,i+1,rs',t,h,ht=>by have:=Nq  (k:=k+1)  (by simpa using h) ht;rw[show k+1+i=k+(i+1)by lia]at this;exact QN _ this
theorem FX{n:Nat}(hn:n<=6):∀(ls:L3)(k),(∀rs∈ls,∀t∈rs.flatten,0<=t/\t<n)->(Ke k ls).Pairwise λx y=>K8 x<=K8 y
 |[],_,_=>.nil
 |rs::ls,k,h=>by
  refine List.pairwise_append.mpr ⟨?_,FX hn ls _ λrs' hr=>h rs' (Qk _ hr),λx hx y hy=>?_⟩
  .rw[List.pairwise_map]
   refine(Dc rs.flatten).imp λ{a b} hab=>?_
   unfold K8;simp_all
  .obtain⟨t,ht,rfl⟩:=Qs.mp hx
   have h1:=MX ls _ y hy;have h2:=h rs Ql t ((W4 _).mem_iff.mp ht);obtain⟨i,rs',g1,g2,g3⟩:=Sf hy;have h3:=h rs' (Qk _ (Qr g1)) y.2 g3;unfold K8
   lia
noncomputable def SI.flat   (g:SI n rs):∀t∈rs.flatten,0<=t/\t<n:=λt ht=>by obtain⟨r,h1,h2⟩:=Uh.mp ht;exact g.there r h1 t h2
section
variable{cs:zT}{ls:L3}
theorem MW(n):∀(ls)(k),(∀rs∈ls,rs.flatten.length<=n)->(Yy k ls).length<=ls.length*n
 |[],_,_=>by simp[Yy]
 |rs::ls,k,h=>by
  have h1:=MW n ls (k+1) λr hr=>h r (Qk _ hr);have h2:=h rs Ql
  show(Vu k rs++Yy _ ls).length<=_
  rw[Qi,QU];unfold Vu;rw[Qb]
  lia
def wy(g:Good cs ls):VL (Yy 0 ls)=Ke 0 ls:=by
 have hf   :=λrs hr=>(g.rk rs hr).flat
 have ok:∀q∈Ke 0 ls,okP q:=λq hq=>by obtain⟨i,rs,h1,h2,h3⟩:=Sf hq;have:=hf rs (Qr h1) q.2 h3;have:=g.c6;exact⟨by lia,by lia⟩
 exact(M0 ok ((SG ls 0).trans (DO _).symm) (FX g.c6 ls 0 hf) (E6 _)).symm
def CU(g:Good cs ls):∀q∈Yy 0 ls,okP q:=λq hq=>by obtain⟨i,rs,h1,h2,h3⟩:=Sf ((SG ls 0).mem_iff.mpr hq);have:=(g.rk rs (Qr h1)).flat q.2 h3;have:=g.c6;exact⟨by lia,by lia⟩
def Od(g:Good cs ls):(Yy 0 ls).length<=42:=by
 have h:=MW 6 ls 0 λrs hr=>QK (Pu (g.rk rs hr)) g.c6
 have:=g.l7
 lia
theorem Mq:∀(ls)(k),((ls.zipIdx k).map λp=>(Vu p.2 p.1).map Kx).flatten=(Yy k ls).map Kx
 |[],_=>rfl
 |rs::ls,k=>by rw[List.zipIdx_cons,QD,JC,Mq ls _];show _=(Vu k rs++Yy _ ls).map Kx;simp_all
def zr(g:Good cs ls):TN [Kz cs ls]=O (.list ((Ke 0 ls).map Kx)):=by
 refine K3 (Z:=[pb (Kz cs ls)]) zO ?_;unfold RL;refine Kq (Wh (Ko (U0 (UX zO) U6) zO (SH g))) ?_
 have hc:∃Z',We (gT 2 (gNC (gN 1) (gNC (gN 2) (gN0)))) (U2 zQ) (K4 (UW 2)) (We (gN 3) (U2 zQ) (K4 (UW 3)) (Xv (gN 4) (U2 zQ) (KN (UZ (UW 1) (UZ (UW 4) (UY)))))) (Yu 0 (ls.map Zm)) (KR [pb (Kz cs ls)]++UI 4 zP) []=O ((Yy 0 ls).map Kx,Z'):=by
  have key:=LH (s:=gT 2 (gNC (gN 1) (gNC (gN 2) (gN0)))) (t:=U2 zQ) (f:=K4 (UW 2)) (Rd:=We (gN 3) (U2 zQ) (K4 (UW 3)) (Xv (gN 4) (U2 zQ) (KN (UZ (UW 1) (UZ (UW 4) (UY))))))
   (λZ=>∃x1 x2 x3 x4,Z=[pb (Kz cs ls),x1,x2,x3,x4]) (Yu 0 (ls.map Zm)) ((ls.zipIdx 0).map λp=>(Vu p.2 p.1).map Kx) (KR [pb (Kz cs ls)]++UI 4 zP) [] (by rw[Qb,List.length_zipIdx,YH,Qb]) ?_ ⟨zP,zP,zP,zP,rfl⟩ (by rw[Mq,Qb,Qm];have:=Od g;lia)
  .obtain⟨Z',e,_⟩:=key
   rw[Mq,Qw]at e;exact⟨Z',e⟩
  rintro i d q hd hq Z es ⟨x1,x2,x3,x4,rfl⟩ hlen;obtain⟨z,hz,rfl⟩:=Xo hd;rw[Qd]at hz;rw[Qd,List.getElem?_zipIdx]at hq;cases hls:ls[i]? with
  |none=>rw[hls]at hz;cases hz
  |some rs=>
  rw[hls]at hz hq;cases hz;cases hq;rw[QX]at *;dsimp only at hlen⊢
  have inner:=LH (s:=gN 3) (t:=U2 zQ) (f:=K4 (UW 3)) (Rd:=Xv (gN 4) (U2 zQ) (KN (UZ (UW 1) (UZ (UW 4) (UY)))))
   (λZ=>∃x3 x4,Z=[pb (Kz cs ls),pb (.int i),pb (Zm rs),x3,x4]) (rs.map Yb) (rs.map λr=>r.map λt=>Kx ((i:Int),t)) _ es (by rw[Qb,Qb]) ?_ ⟨WT x3,WT x4,rfl⟩ ?_
  .obtain⟨Z3,e3,y3,y4,h3⟩:=inner
   have ef:(rs.map λr=>r.map λt=>Kx ((i:Int),t)).flatten=(Vu i rs).map Kx:=by unfold Vu;rw[QL,List.map_flatten];rfl
   rw[ef]at e3;exact⟨_,_,_,Z3,Kr zO (U9 (U4 (Qa zO) zO) (U9 (U4 (Qa zO) zO) Ks)),rfl,Zh (UX zO) zO,e3,_,_,_,_,h3⟩
  .rintro j d q hd hq Z es' ⟨y3,y4,rfl⟩ bq
   rw[Qd]at hd hq;cases hr:rs[j]? with
   |none=>rw[hr]at hd;cases hd
   |some r=>
   rw[hr]at hd hq;cases hd;cases hq
   obtain⟨Z3,e3,z4,h3⟩:=Dt (s:=gN 4) (t:=U2 zQ) (g:=KN (UZ (UW 1) (UZ (UW 4) (UY)))) (λZ=>∃x4,Z=[pb (Kz cs ls),pb (.int i),pb (Zm rs),pb (Yb r),x4]) (r.map int) (r.map λt=>Kx ((i:Int),t)) _ es' (by rw[Qb,Qb]) (by
    rintro m d e hd he Z ⟨x4,rfl⟩;rw[Qd]at hd he;cases hm:r[m]? with
    |none=>rw[hm]at hd;cases hd
    |some t=>
    rw[hm]at hd he;cases hd;cases he;exact⟨_,U4 (Qa zO) zO,rfl,ZU (U0 (UX zO) (U0 (UX zO) U6)) (Qa zO),_,rfl⟩) ⟨WT y4,rfl⟩ (by rw[Qb]at bq⊢;exact bq)
   exact⟨_,_,_,Z3,U4 (Qa zO) zO,rfl,Zh (UX zO) zO,e3,_,_,h3⟩
  .have ef:(rs.map λr=>r.map λt=>Kx ((i:Int),t)).flatten=(Vu i rs).map Kx:=by
    unfold Vu;rw[QL,List.map_flatten];rfl
   rw[ef];exact hlen
 obtain⟨Z',hc⟩:=hc;have hs:=v6 (qs:=Yy 0 ls) (by have:=Od g;lia) (CU g);rw[wy g]at hs;exact Kv (Zj (U0 (KJ (j9 (Y9 (U0 (Kt zO Ka XS) U6) Xa) hc)) U6) hs) zO
end
inductive Ord where|firsts|full|lasts
noncomputable def Ord.tx:Ord->Str
 |.firsts=> "firsts" | .full=> "full" | .lasts=> "lasts"
noncomputable def Ord.isF:Ord->Bool
 |.firsts=>zQ|_=>zR
noncomputable def Ord.isU:Ord->Bool
 |.full=>zQ|_=>zR
def CT(o:Ord):oEq (.str o.tx) (.str "firsts")=O o.isF:=by cases o<;>decide +kernel
def HC(o:Ord):oEq (.str o.tx) (.str "full")=O o.isU:=by cases o<;>decide +kernel
def zq(o:Ord):TM [.str o.tx]=O (.bool zQ):=by
 refine K3  rfl ?_;have h:oIn (.str o.tx) (.tuple ((["firsts", "full", "lasts"]:List Str).map UL))=O zQ:=by cases o<;>decide +kernel
 exact Kv (Wi (KJ  (UX zO)) (λ_=>KJ (ZO zO Ka h))) zO
def vo(o:Ord):TL [.str o.tx]=O .none:=by
 refine Oa  rfl ?_;apply KE
 case h1=>exact Z9 (Yj (Ko (U0 (UX zO) U6) zO (zq o)))
 case h2=>simp_all
 case h3=>exact λ_=>K1 ⟨_,rfl⟩
noncomputable def Wv:ae->D
 |none=>.none
 |some ws=>Kp ws
def KI(o:Ord)(old:ae)(ts:zT):D:=.tuple [.str o.tx,Wv old,.list (ts.map int)]
structure Yo(n m:Nat)(old:ae)(ts:zT):Prop where
 len:∀ws,old=O ws->ws.length=m
 old:∀ws t,old=O ws->O t∈ws->0<=t/\t<n
 once:ts.Nodup
 there:∀a∈ts,0<=a/\a<m
def Yo.few  {old}{ts}(g:Yo n m old ts):ts.length<=m:=Pv m ts g.once g.there
def vj{n m:Nat}{old:ae}(h1:∀ws,old=O ws->ws.length=m)(h2:∀ws t,old=O ws->O t∈ws->0<=t/\t<n)(hm:m<=1000):TK [Wv old,.int m,.int n]=O (.bool zQ):=by
 refine K3  rfl ?_;unfold RJ;apply KW;cases old with
 |none=>
  apply KE
  case h1=>exact KJ (UX zO)
  case h2=>exact λ_=>Kv Ka (ZP zO)
  case h3=>intro hh;cases hh
 |some ws=>
  have hl:=h1 ws zO;have hlen:Kn [Kp ws]=O (.int m):=by unfold Kp;rw[Zg,Qb,hl]
  apply KE
  case h1=>exact KJ (UX zO)
  case h2=>intro hh;cases hh
  case h3=>
   intro _;refine K1 (KU ?_);apply KW;apply KE
   case h1=>exact ZZ  (Yv (UX zO) zO) (Kf (Zu zO hlen) (UX zO) Wg)
   case h2=>intro hh;simp at hh
   case h3=>
    intro _;refine K1 (KU ?_)
    have hc:Zf (gN 3) (U2 zQ) (Xf (Kb (λd=>.bool (isNon d)) (UW 3)) (U7 2 Yq (UZ (UW 3) (UZ (UW 2) (UY))))) (ws.map Ky) (KR [pb (Kp ws),pb (.int m),pb (.int n)]++UI 1 zP) []=O (ws.map λ_=>.bool zQ):=by
     refine XX (λZ=>∃x,Z=[pb (Kp ws),pb (.int m),pb (.int n),x]) _ _ _ _ (by simp only[Qb]) ?_ ⟨zP,rfl⟩ (by rw[Qb,Qm];lia);rintro i d e hd he Z ⟨x,rfl⟩;rw[Qd]at hd he;cases hw:ws[i]? with
     |none=>rw[hw]at hd;cases hd
     |some o=>
     rw[hw]at hd he;cases hd;cases he;refine⟨_,U4 (Qa zO) zO,rfl,?_,_,rfl⟩;cases o with
     |none=>exact Sv (t:=zQ) (u:=zQ) (KJ  (x:=.none) (UX zO)) (λh=>nomatch h)
     |some t=>have hb:=h2 ws t zO (Qr hw);exact Sv (t:=zR) (u:=zQ) (KJ (k:=λd=>UK (isNon d)) (x:=.int t) (UX zO)) (λ_=>Ko (U0 (UX zO) (U0 (UX zO) U6)) zO (NG hb.1 hb.2))
    exact Kv (Zj (U0 (KJ (Zi (Zh (UX zO) zO) hc)) U6) (Oo ws)) zO
def yz{m:Nat}{ts:zT}(h1:ts.Nodup)(h2:∀a∈ts,0<=a/\a<m)(hm:m<=1000):TJ [.list (ts.map int),.int m]=O (.bool zQ):=by
 refine K3  rfl ?_;unfold RI;have hl:=Pv m ts h1 h2;apply KW
 have hc:Zf (gN 2) (U2 zQ) (U7 2 Yq (UZ (UW 2) (UZ (UW 1) (UY)))) (ts.map int) (KR [pb (.list (ts.map int)),pb (.int m)]++UI 1 zP) []=O (ts.map λ_=>.bool zQ):=by
  refine XX (λZ=>∃x,Z=[O _,pb (.int m),x]) _ _ _ _ (by simp only[Qb]) ?_ ⟨zP,rfl⟩ (by rw[Qb,Qm];lia);rintro i d e hd he Z ⟨x,rfl⟩;rw[Qd]at hd he;cases hw:ts[i]? with
  |none=>rw[hw]at hd;cases hd
  |some t=>
  rw[hw]at hd he;cases hd;cases he;have hb:=h2 t (Qr hw);exact⟨_,U4 (Qa zO) zO,rfl,Ko (U0 (UX zO) (U0 (UX zO) U6)) zO (NG hb.1 hb.2),_,rfl⟩
 apply KE
 case h1=>exact ZZ  (Yv (UX zO) zO) (Z9 (Yj (Zj (U0 (KJ (Zi (Zh (UX zO) Zt) hc)) U6) (Oo ts))))
 case h2=>intro hh;cases hh
 case h3=>
  intro _;refine K1 (KU ?_);have hs:VR [.list (ts.map int)]=O (.int ts.length):=by unfold VR;dsimp only;rw[Pz];dsimp only;rw[Qu (by lia),Dw h1]
  have hlen:Kn [.list (ts.map int)]=O (.int ts.length):=by rw[Zg,Qb]
  refine Kv (KJ (Kf (Zj (U0 (UX zO) U6) hs) (Zu zO hlen) Yk)) ?_;simp
section
variable{cs:zT}{ls:L3}{o:Ord}{old:ae}{ts:zT}
def OP(g:Good cs ls)(ga:Yo cs.length ls.length old ts):Y6 [Kz cs ls,KI o old ts]=O .none:=by
 refine Oa  rfl ?_;unfold RH;have l7:=g.l7;have c6:=g.c6;have al:Kn [.list (ls.map Zm)]=O (.int ls.length):=by rw[Zg,Qb]
 have aw:Kn [.list (cs.map int)]=O (.int cs.length):=by rw[Zg,Qb]
 refine Kq (Wh (Ko (U0 (UX zO) U6) zO (SH g))) ?_;apply KW;apply KE
 case h1=>exact ZZ  (Yv (UX zO) zO) (Kf (Zu zO (show Kn [KI o old ts]=O (.int 3)from rfl)) Ka Wg)
 case h2=>intro hh;simp at hh
 case h3=>
  intro _;refine K1 (KU ?_);refine Kq (YD (UX zO) (Kr zO (U9 (U4 (Qa zO) zO) (U9 (U4 (Qa zO) zO) Ks)))) ?_;refine Kq (YD (UX zO) (Kr zO (U9 (U4 (Qa zO) zO) (U9 (U4 (Qa zO) zO) (U9 (U4 (Qa zO) zO) Ks))))) ?_;refine Kq (Wh (Ko (U0 (UX zO) U6) zO (vo o))) ?_;apply KW;apply KE
  case h1=>exact Z9 (Yj (Ko (U0 (UX zO) (U0 (Zu zO al) (U0 (Zu zO aw) U6))) zO (vj ga.len ga.old (by lia))))
  case h2=>intro hh;cases hh
  case h3=>
   intro _;refine K1 (KU ?_);apply KE
   case h1=>exact Z9 (Yj (Ko (U0 (UX zO) (U0 (Zu zO al) U6)) zO (yz ga.once ga.there (by lia))))
   case h2=>intro hh;cases hh
   case h3=>exact λ_=>K1 ⟨_,rfl⟩
end
def Nh{t:Int}{r:zT}:oIn (.int t) (.list (r.map int))=O (r.contains t):=Mt t r
theorem Dh:∀(a b:zT),a.Nodup->(∀x∈a,x∈b)->a.length<=b.length
 |[],_,_,_=>JX _
 |x::a,b,hn,h=>by
  have hx:=h x Ql;have hn':=Um.mp hn
  have:=Dh a _ hn'.2 λy hy=>by
   have hne:y≠x:=λe=>hn'.1 (e ▸ hy)
   exact(List.mem_erase_of_ne hne).mpr (h y (Qk _ hy))
  rw[List.length_erase_of_mem hx]at this;have hp:=List.length_pos_of_mem hx;rw[QU]
  lia
def wx{m:Nat}{T:zT}(d:Nat)(hl:T.length<m)(hn:T.Nodup):∃k,k<m/\(∀j,j<k->(((d+j) % m:Nat):Int)∈T)/\(((d+k) % m:Nat):Int)∉T:=by
 have ex:∃k,k<m/\(((d+k) % m:Nat):Int)∉T:=by
  refine Classical.byContradiction λhno=>?_;have all   :=λk hk=>Classical.byContradiction λz=>hno ⟨k,hk,z⟩
  have hsub   :=λx hx=>by
   have h1:=all ((x+m-d % m) % m) (Nat.mod_lt _ (by lia));have e:(d+(x+m-d % m) % m) % m=x:=by have hdm:d % m<m:=Nat.mod_lt _ (by lia);rw[Nat.add_mod_mod,←Nat.mod_add_mod];rw[show d % m+(x+m-d % m)=x+m by lia,Nat.add_mod_right,Nat.mod_eq_of_lt hx]
   rw[e]at h1;exact h1
  have:=Dh _ T (List.Pairwise.map _ (λa b h e=>h (by lia)) List.nodup_range) (λt ht=>by obtain⟨x,hx,rfl⟩:=Qs.mp ht;exact hsub x (QE.mp hx));rw[Qb,Qp]at this
  lia
 obtain⟨k,hk,hkn⟩:=ex;induction k using Nat.strongRecOn with
 |_ k ih=>
  by_cases h:∀j,j<k->(((d+j) % m:Nat):Int)∈T
  .exact⟨k,hk,h,hkn⟩
  .obtain⟨j,hj⟩:=Classical.not_forall.mp h
   obtain⟨hj1,hj2⟩:=Classical.not_imp.mp hj;exact ih j hj1 (by lia) hj2
def HB{x:D}{m:Nat}(h:m<=1000):KB (.list [x]) (.int m)=O (.list (UI m x)):=by rw[DR ⟨by lia,by lia,by show 1*_<=_;lia⟩];simp_all
noncomputable def szA(n m:Nat):zT:=[3,2,(m:Int)+1]++UI m ((n:Int)+1)++UI m (m:Int)
def Fd(n m):(szA n m).length=3+m+m:=by unfold szA;rw[Qi,Qi,QO,QO];rfl
def Av{n m j}(h:j<m):(szA n m)[3+j]?=O ((n:Int)+1):=by unfold szA;rw[List.getElem?_append_left (by rw[List.length_append,List.length_replicate];show 3+j<3+m;lia),List.getElem?_append_right (by simp_all)];show _[3+j-3]?=_;rw[Nat.add_sub_cancel_left,QA,Qu h]
def xk{n m j}(h:j<m):(szA n m)[3+m+j]?=O (m:Int):=by
 unfold szA;have e:([3,2,(m:Int)+1]++UI m ((n:Int)+1)).length=3+m:=by rw[Qi,QO];rfl
 rw[List.getElem?_append_right (by simp_all),e,Nat.add_sub_cancel_left,List.getElem?_replicate,if_pos h]
section
variable{cs:zT}{ls:L3}
noncomputable def PQ(d:Int):zZ:=if 0<d then O (d-1)else zP
def xj(d):oIx (.list [.none,.int (d-1)]) (.int (if decide (0<d)=zQ then 1 else 0))=O (Ky (PQ d)):=by
 unfold PQ;by_cases h:0<d
 .rw[QB h,Qu h];exact Zv  rfl
 .rw[QG h,QJ h];exact Zv  rfl
end
def Au  {j}{f}{Z Z1 Z':U5}{a b}{d}(h0:Z[j]?=O (O (.pub (.int a))))(h1:f Z=.ok (.int b) Z1)(h2:op a b=O d)(h3:j<Z1.length)(h4:Z1.set j (O (.pub d))=Z'):Ws op j f Z=.nx Z':=by unfold Ws;dsimp only[sB];simp_all
def mulN{i j}(h : -1000<j/\j<1000):X0 i j=O (.int (i*j)):=by exact Qu (.inr ⟨by lia,by lia⟩)
def Ov{b n:Int}(hb : -1000<b/\b<1000)(hn : -1000<=n/\n<=1000):ZY [.int b,.int n]=O (.int (b ^ n.toNat)):=by
 refine K3  rfl ?_;refine Kq (KY Ka (Qa zO) zO) ?_;apply KW;apply ZD (λi Z=>∃x3,Z=[O _,O _,pb (.int (b ^ i)),x3])
 case h1=>exact Y7 (U0 (UX zO) U6) (Y8 (by lia) (by lia))
 case h0=>exact⟨_,by rw[Int.pow_zero];rfl⟩
 case hst=>rintro i d Z hi ⟨x3,rfl⟩;refine⟨_,U4 (Qa zO) zO,?_⟩;refine Yp (Au zO (UX zO) (mulN hb) (Qa zO) zO) ?_;exact Zd ⟨_,by rw[Int.pow_succ];rfl⟩
 case hend=>
  rintro Z ⟨x3,rfl⟩;refine KU (Kv (UX rfl) ?_);rw[YZ]
  lia
noncomputable def Yd:Ord->Int->Int->Int->Int
 |.firsts,b,M,r=>b ^ (M-r).toNat
 |.full,b,M,r=>b ^ M.toNat+b ^ (M-r).toNat
 |.lasts,b,M,r=>b ^ M.toNat-b ^ (r-1).toNat
def yy(o:Ord){b M r:Int}(hb : -1000<b/\b<1000)(hM:0<=M/\M<=100)(hr:0<=r/\r<=100):TH [.str o.tx,.int b,.int M,.int r]=O (.int (Yd o b M r)):=by
 refine K3  rfl ?_;unfold RG;have p1:ZY [.int b,.int (M-r)]=O (.int (b ^ (M-r).toNat)):=Ov hb ⟨by lia,by lia⟩;have p2:ZY [.int b,.int M]=O (.int (b ^ M.toNat)):=Ov hb ⟨by lia,by lia⟩;have p3:ZY [.int b,.int (r-1)]=O _:=Ov hb ⟨by lia,by lia⟩;apply KW;apply KE
 case h1=>exact ZO zO Ka (CT o)
 case h2=>
  intro h;cases o with
  |firsts=>exact Kv (Ko (U0 (UX zO) (U0 (Kf (UX zO) (UX zO) Xp) U6)) zO p1) (ZP zO)
  |full=>cases h
  |lasts=>cases h
 case h3=>
  intro h;refine K1 (KU ?_);apply KW;apply KE
  case h1=>exact ZO zO Ka (HC o)
  case h2=>
   intro h';cases o with
   |full=>exact Kv (Kf (Ko (U0 (UX zO) (U0 (UX zO) U6)) zO p2) (Ko (U0 (UX zO) (U0 (Kf (UX zO) (UX zO) Xp) U6)) zO p1) Ze) (ZP zO)
   |firsts=>cases h
   |lasts=>cases h'
  case h3=>
   intro h';refine K1 (KU ?_);cases o with
   |firsts=>cases h
   |full=>cases h'
   |lasts=>exact Kv (Kf (Ko (U0 (UX zO) (U0 (UX zO) U6)) zO p2) (Ko (U0 (UX zO) (U0 (Kf (UX zO) Ka Xp) U6)) zO p3) Xp) zO
noncomputable def Wc(ts:zT)(b i r:Int):Int:=if i∈ts then(b-r)*b ^ (ts.length-1-ts.idxOf i)else 0
theorem DZ  : ∀{xs:zS},(∀x∈xs,PyData.weight x<=n)->PyData.weightAll xs<=xs.length*(n+1)
 |[],_=>by simp[PyData.weightAll]
 |x::xs,h=>by
  have h1:=h x Ql;have h2:=DZ  λy hy=>h y (Qk _ hy);rw[PyData.weightAll,QU]
  lia
def ww  (h:0<=i/\i<1000):(int i).weight<=10:=by
 simp only[PyData.weight];split
 .lia
 .have h0:i.natAbs≠0:=by simp_all
  have:=(Nat.log2_lt h0 (k:=10)).mpr (by lia)
  lia
def zn{ts:zT}(h:∀a∈ts,0<=a/\a<1000)(hl:ts.length<=1000):PyData.layable0 (.list (ts.map int))=zQ:=by
 unfold PyData.layable0;have h1:(UJ (ts.map int)).canLay0=zQ:=VW λx hx=>by obtain⟨y,_,rfl⟩:=Qs.mp hx;rfl
 have h2:(UJ (ts.map int)).depth<=64:=QK (Oe (n:=1) (PD λx hx=>by obtain⟨y,_,rfl⟩:=Qs.mp hx;exact GI y)) (by decide)
 have h3:(UJ (ts.map int)).weight<=2 ^ 20:=by
  have:=DZ  (xs:=ts.map int) λx hx=>by obtain⟨y,hy,rfl⟩:=Qs.mp hx;exact ww (h y hy)
  rw[Qb]at this;simp only[PyData.weight]
  lia
 rw[h1,QB h2,QB h3];rfl
def xi{ts:zT}{k}(hb:∀a∈ts,0<=a/\a<1000)(hl:ts.length<=1000)(h:k∈ts):Pk (.list (ts.map int)) [.int k]=O (.int (ts.idxOf k:Nat)):=by unfold Pk;dsimp only;rw[Pz];exact Qu ⟨zn hb hl,h⟩
def xg  {r:zT}:Y1 (.int t) (.list (r.map int))=O (!r.contains t):=by unfold Y1;rw[Nh];rfl
def yx  {b i r:Int}(hb : -1000<b/\b<1000)(hr : -1000<r/\r<1000)(hl:ts.length<=100)(ht:∀a∈ts,0<=a/\a<1000):TF [.list (ts.map int),.int b,.int i,.int r]=O (.int (Wc ts b i r)):=by
 refine K3  rfl ?_;unfold RF Wc;apply KW;apply KE
 case h1=>exact ZO zO (UX zO) xg
 case h2=>
  intro h;have:¬i∈ts:=by simpa using h
  rw[QJ this];exact Kv Ka (ZP zO)
 case h3=>
  intro h;have hm:i∈ts:=by simpa using h
  rw[Qu hm];refine K1 (KU ?_);have hi:=List.idxOf_lt_length_of_mem hm;have hlen:Kn [.list (ts.map int)]=O (.int ts.length):=by rw[Zg,Qb]
  refine Kq (KY (Kf (Kf (Zu zO hlen) Ka Xp) (kT (UX zO) (U0 (UX zO) U6) (xi ht (by lia) hm)) Xp) (Qa zO) zO) ?_;have hp:=Ov (b:=b) (n:=(ts.length:Int)-1-(ts.idxOf i:Nat)) hb ⟨by lia,by lia⟩;have e:((ts.length:Int)-1-(ts.idxOf i:Nat)).toNat=ts.length-1-ts.idxOf i:=by lia
  rw[e]at hp;exact Kv (Kf (Kf (UX zO) (UX zO) Xp) (Ko (U0 (UX zO) (U0 (UX zO) U6)) zO hp) (VJ (by lia) (by lia))) zO
noncomputable def XM(old:ae)(i:Nat)(t:Int):Int:=match old with
 |none=>0
 |some ws=>if ws[i]?=O (O t)then 1 else 0
section
variable{cs:zT}{ls:L3}{o:Ord}{old:ae}{ts:zT}
def Zz(ls:L3)(o:Ord)(old:ae)(ts:zT)(i:Nat)(rs:List zT)(t:Int):Int:=
 (Yd o (ls.length+1) (lng ls) (ZC t rs)*(ls.length+1)+XM old i t)*((lng ls:Int)+1) ^ ts.length+Wc ts (lng ls+1) i (ZC t rs)
noncomputable def Dg{b:Int}(h0:0<=b)(h:b<=8):∀{n k},n<=k->b ^ n<=8 ^ k:=λ{n k} hk=>by
 have e:b=((b.toNat)):=by lia
 rw[e];have h1:b.toNat ^ n<=8 ^ n:=Nat.pow_le_pow_left (by lia) n;have h2:8 ^ n<=8 ^ k:=Nat.pow_le_pow_right (by lia) hk
 lia
def Df(g:Good cs ls)(ga:Yo cs.length ls.length old ts){i:Nat}{rs:List zT}(hi:ls[i]?=O rs)(t:Int):XG [Kz cs ls,KI o old ts,.int (lng ls:Nat),.int i,.int t]=O (.int (Zz ls o old ts i rs t)):=by
 have l7:=g.l7;have l1:=g.l1;have hL:lng ls<=5:=Md l1 λrs h=>(g.rk rs h).few;have hrk:ZC t rs<=5:=by have:=Lk t rs;have:=(g.rk rs (Qr hi)).few;lia
 have htl:=ga.few;have hlt:i<ls.length:=(Qg.mp hi).1;refine K3 (Z:=[pb (Kz cs ls),pb (KI o old ts),pb (.int (lng ls:Nat)),pb (.int i),pb (.int t),zP,zP,zP,zP,zP,zP,zP,zP]) zO ?_;unfold RE Zz;refine Kq (YD (UX zO) (Kr zO (U9 (U4 (Qa zO) zO) (U9 (U4 (Qa zO) zO) (U9 (U4 (Qa zO) zO) Ks))))) ?_;refine Kq (KY (Kt zO Ka XS) (Qa zO) zO) ?_;refine Kq (KY (Ko (U0 (Kt zO (UX zO) (NM hi)) (U0 (UX zO) U6)) zO (Dv t rs)) (Qa zO) zO) ?_;have al:Kn [.list (ls.map Zm)]=O (.int ls.length):=by rw[Zg,Qb]
 have htl':Kn [.list (ts.map int)]=O (.int ts.length):=by rw[Zg,Qb]
 refine Kq (KY (Kf (Zu zO al) Ka Ze) (Qa zO) zO) ?_
 have hk:∀Z:U5,Z[6]?=O (O (.pub (Wv old)))->Z[3]?=O (O (.pub (.int i)))->Z[4]?=O (O (.pub (.int t))) ->
   mIf (Zw (Kb (λd=>!isNon d) (UW 6)) (U1 oEq (U8 6 (UW 3)) (UW 4))) (U2 (int 1)) (U2 (.int 0)) Z=.ok (.int (XM old i t)) Z:=λZ r6 r3 r4=>by
  cases old with
  |none=>exact Mg (Pl (KJ (UX r6))) Ka
  |some ws=>
   have hw:ws.length=ls.length:=ga.len ws zO;have hwi:ws[i]?=O ws[i]:=Qe (by lia);have hx:oIx (.list (ws.map Ky)) (.int i)=O (Ky ws[i]):=HE (by lia)
   have ht:(Zw (Kb (λd=>!isNon d) (UW 6)) (U1 oEq (U8 6 (UW 3)) (UW 4))) Z=.ok (decide (ws[i]=O t)) Z:=
    Sa (KJ (UX r6)) (Kf (Kt r6 (UX r3) hx) (UX r4) (Pb (b:=O t)))
   rw[Cs ht Ka Ka]
   congr 1
   unfold XM;dsimp only;rw[hwi];by_cases h:ws[i]=O t
   .rw[QB h,Qu zO,Qu (by rw[h])]
   .rw[QG h,QJ (by decide),QJ (λe=>h (Ja e))]
 refine Kq (KY (hk _ zO zO zO) (Qa zO) zO) ?_;have h1:=yy o (b:=(ls.length:Int)+1) (M:=(lng ls:Nat)) (r:=(ZC t rs:Nat)) ⟨by lia,by lia⟩ ⟨by lia,by lia⟩ ⟨by lia,by lia⟩;have h2:=Ov (b:=(lng ls:Int)+1) (n:=(ts.length:Nat)) ⟨by lia,by lia⟩ ⟨by lia,by lia⟩;have h3:=yx (ts:=ts) (b:=(lng ls:Int)+1) (i:=i) (r:=(ZC t rs:Nat)) ⟨by lia,by lia⟩ ⟨by lia,by lia⟩ (by lia) (λa ha=>by have:=ga.there a ha;lia);rw[QQ]at h2;refine Kq (KY (Kf (Kf (Ko (U0 (UX zO) (U0 (UX zO) (U0 (UX zO) (U0 (UX zO) U6)))) zO h1) (UX zO) (Xb (by lia) (by lia))) (UX zO) Ze) (Qa zO) zO) ?_;have hp:((lng ls:Int)+1) ^ ts.length<=8 ^ 7:=Dg (by lia) (by lia) (by lia);exact Kv (Kf (Kf (UX zO) (Ko (U0 (Kf (UX zO) Ka Ze) (U0 (Zu zO htl') U6)) zO h2) (Xb (by lia) (by lia))) (Ko (U0 (UX zO) (U0 (Kf (UX zO) Ka Ze) (U0 (UX zO) (U0 (UX zO) U6)))) zO h3) Ze) zO
end
theorem Nn   {g:M D}(I:U5->Prop):∀(ds:zS)(qs:List zU)(Z:U5)(es:zS),qs.length=ds.length ->
  (∀(i:Nat) d e,ds[i]?=O d->qs[i]?=O e->∀Z,I Z->∃Z1,s d Z=O Z1/\t Z1=.ok e.isSome Z1/\(∀x,e=O x->g Z1=.ok x Z1)/\I (KR Z1))->I Z->es.length+ds.length<=1000000->Zf s t g ds Z es=O (es++qs.filterMap id)
 |[],[],Z,es,_,_,_,_=>by rw[Zf];simp
 |d::r,e::q,Z,es,hl,st,h0,hz=>by
  obtain⟨Z1,e1,e2,e3,h1⟩:=st 0 d e zO zO Z h0;rw[QU]at hz;have ih:=λes' hz'=>Nn I r q (KR Z1) es' (by simpa using hl) (λi d' e' x y=>st (i+1) d' e' (by simpa using x) (by simpa using y)) h1 hz'
  rw[Zf,e1];dsimp only;rw[e2];dsimp only;cases e with
  |none=>rw[ih es (by lia)];rfl
  |some x=>rw[Qu (show(O x).isSome=zQ from rfl),e3 x zO];dsimp only;rw[Qu (by lia),ih (es++[x]) (by rw[Qi,Q0];lia),Q5];rfl
noncomputable def YM(W:Nat->List zT->Int->Int):Nat->L3->LO->LO
 |k,rs::ls,o::r=>(o.map (W k rs))::YM W (k+1) ls r
 |_,_,_=>[]
theorem Li  : ∀{k}{ls}{ws},ws.length=ls.length->(YM W k ls ws).length=ws.length
 |_,[],[],_=>rfl
 |_,_::_,_::_,h=>by rw[YM,List.length_cons,Li (by simpa using h),List.length_cons]
theorem Lh  : ∀{k i:Nat}{ls}{ws}{rs}{o},ls[i]?=O rs->ws[i]?=O o->(YM W k ls ws)[i]?=O (o.map (W (k+i) rs))
 |k,0,r::ls,o::ws,_,_,h1,h2=>by cases h1;cases h2;rfl
 |k,i+1,r::ls,o::ws,rs,o',h1,h2=>by rw[YM,List.getElem?_cons_succ,Lh    (by simpa using h1) (by simpa using h2),Nat.add_right_comm,Nat.add_assoc]
noncomputable def ZQ(l:LO):Int:=(l.filterMap id).sum
def De   : ZQ (o::l)=o.getD 0+ZQ l:=by
 cases o with
 |none=>show ZQ l=0+ZQ l;lia
 |some x=>rfl
def yw  : ZQ (a++b)=ZQ a+ZQ b:=by unfold ZQ;simp_all
def xf(l:LO):(l.map (Option.map int)).filterMap id=(l.filterMap id).map int:=by
 induction l with
 |nil=>rfl
 |cons o r ih=>cases o with
  |none=>exact ih
  |some x=>show int x::_=int x::_;rw[ih]
section
variable{cs:zT}{ls:L3}{o:Ord}{old:ae}{ts:zT}{ws:LO}
def yv(g:Good cs ls)(ga:Yo cs.length ls.length old ts)(hl:ws.length=ls.length):TD [Kz cs ls,KI o old ts,Kp ws]=O (.int (ZQ (YM (Zz ls o old ts) 0 ls ws))):=by
 refine K3 (Z:=[pb (Kz cs ls),pb (KI o old ts),pb (Kp ws),zP]) zO ?_;unfold RC;refine Kq (Wh (Ko (U0 (UX zO) (U0 (UX zO) U6)) zO (OP g ga))) ?_;refine Kq (KY (Ko (U0 (UX zO) U6) zO (Du g)) (Qa zO) zO) ?_;have l7:=g.l7
 have hc:Zf (gT 2 (gNC (gN 4) (gNC (gN 5) (gN0)))) (Kb (λd=>!isNon d) (UW 5)) (U7 5 XG (UZ (UW 0) (UZ (UW 1) (UZ (UW 3) (UZ (UW 4) (UZ (UW 5) (UY))))))) (Yu 0 (ws.map Ky)) (KR [pb (Kz cs ls),pb (KI o old ts),pb (Kp ws),pb (.int (lng ls:Nat))]++UI 2 zP) []=O (((YM (Zz ls o old ts) 0 ls ws).filterMap id).map int):=by
  rw[←xf];refine Nn (λZ=>∃x y,Z=[pb (Kz cs ls),pb (KI o old ts),pb (Kp ws),pb (.int (lng ls:Nat)),x,y]) _ _ _ _ (by rw[Qb,Li hl,YH,Qb]) ?_ ⟨zP,zP,rfl⟩ (by rw[YH,Qb,Qm];omega);rintro i d e hd he Z ⟨x,y,rfl⟩;obtain⟨z,hz,rfl⟩:=Xo hd;rw[Qd]at hz;cases hwi:ws[i]? with
  |none=>rw[hwi]at hz;cases hz
  |some w=>
  rw[hwi]at hz;cases hz;have ak:i<ls.length:=by have:=(Qg.mp hwi).1;omega
  have hls:ls[i]?=O ls[i]:=Qe ak;rw[Qd,Lh hls hwi]at he;cases he;rw[QX];refine⟨_,Kr zO (U9 (U4 (Qa zO) zO) (U9 (U4 (Qa zO) zO) Ks)),?_,?_,_,_,rfl⟩
  .cases w with
   |none=>exact KJ (k:=λd=>!isNon d) (x:=PyData.none) (UX zO)
   |some t=>exact KJ (k:=λd=>!isNon d) (x:=int t) (UX zO)
  .intro v hv
   cases w with
   |none=>cases hv
   |some t=>cases hv;exact Ko (U0 (UX zO) (U0 (UX zO) (U0 (UX zO) (U0 (UX zO) (U0 (UX zO) U6))))) zO (Df g ga hls t)
 exact Kv (Zj (U0 (KJ (Zi (Y9 (U0 (UX zO) U6) Xa) hc)) U6) Ox) zO
def Km(ls:L3)(o:Ord)(old:ae)(ts:zT)(a t:Int):Int:=Zz ls o old ts a.toNat (ls.getD a.toNat []) t
noncomputable def ZM(V:Int->Int->Int)(q:Int×Int):D:=.tuple [.int q.1,.int q.2,.int (V q.1 q.2)]
def NK(g:Good cs ls)(ga:Yo cs.length ls.length old ts):Y5 [Kz cs ls,KI o old ts]=O (.list ((Ke 0 ls).map (ZM (Km ls o old ts)))):=by
 refine K3  rfl ?_;unfold RD;refine Kq (Wh (Ko (U0 (UX zO) (U0 (UX zO) U6)) zO (OP g ga))) ?_;refine Kq (KY (Ko (U0 (UX zO) U6) zO (Du g)) (Qa zO) zO) ?_;have few:(Ke 0 ls).length<=42:=by rw[(SG ls 0).length_eq];exact Od g
 have hc:Zf (gT 2 (gNC (gN 3) (gNC (gN 4) (gN0)))) (U2 zQ) (KN (UZ (UW 3) (UZ (UW 4) (UZ (U7 5 XG (UZ (UW 0) (UZ (UW 1) (UZ (UW 2) (UZ (UW 3) (UZ (UW 4) (UY))))))) (UY))))) ((Ke 0 ls).map Kx) (KR [pb (Kz cs ls),pb (KI o old ts),pb (.int (lng ls:Nat))]++UI 2 zP) []=O ((Ke 0 ls).map (ZM (Km ls o old ts))):=by
  refine XX (λZ=>∃x y,Z=[pb (Kz cs ls),pb (KI o old ts),pb (.int (lng ls:Nat)),x,y]) _ _ _ _ (by simp only[Qb]) ?_ ⟨zP,zP,rfl⟩ (by rw[Qb,Qm];lia);rintro i d e hd he Z ⟨x,y,rfl⟩;rw[Qd]at hd he;cases hw:(Ke 0 ls)[i]? with
  |none=>rw[hw]at hd;cases hd
  |some q=>
  rw[hw]at hd he;cases hd;cases he;obtain⟨a,t⟩:=q;obtain⟨j,rs,hj,ha,ht⟩:=Sf (Qr hw);have ha:a=(j:Int):=by rw[QX]at ha;exact ha
  subst ha;have hv:Km ls o old ts j t=Zz ls o old ts j rs t:=by unfold Km;rw[QQ,Qn,hj];rfl
  refine⟨_,Kr zO (U9 (U4 (Qa zO) zO) (U9 (U4 (Qa zO) zO) Ks)),rfl,?_,_,_,rfl⟩;unfold ZM;dsimp only;rw[hv];exact ZU (U0 (UX zO) (U0 (UX zO) (U0 (Ko (U0 (UX zO) (U0 (UX zO) (U0 (UX zO) (U0 (UX zO) (U0 (UX zO) U6))))) zO (Df g ga hj t)) U6))) (Qa zO)
 exact Kv (KJ (Zi (Zh (Ko (U0 (UX zO) U6) zO (zr g)) Zt) hc)) zO
end
theorem DA{c s w dg x6:Option Sl}{m:Nat}{T:zT}(hm:0<m):∀(k fuel d:Nat),(∀j,j<k->(((d+j) % m:Nat):Int)∈T)->(((d+k) % m:Nat):Int)∉T->d<m->k<fuel ->
  Wo (RZ oIn (UW 7) 6) My fuel [w,c,s,pb (.int m),dg,x6,O (.own (T.map int)),pb (.int d)]=.nx [w,c,s,pb (.int m),dg,x6,O (.own (T.map int)),pb (.int (((d+k) % m:Nat):Int))]
 |0,fuel+1,d,_,hn,hd,_=>by
  have e0:(d+0) % m=d:=by rw[Nat.add_zero];exact Nat.mod_eq_of_lt hd
  rw[e0]at hn⊢;have e:(T.contains (d:Int))=zR:=by simpa using hn
  rw[Wo,MZ (r:=zR) (UX zO) zO (by rw[Nh,e])];rfl
 |k+1,fuel+1,d,hj,hn,hd,hf=>by
  have h0:=hj 0 (by lia);rw[Nat.add_zero,Nat.mod_eq_of_lt hd]at h0;have e:(T.contains (d:Int))=zQ:=by simpa using h0
  rw[Wo,MZ (r:=zQ) (UX zO) zO (by rw[Nh,e])];dsimp only;rw[Qu zO]
  have hst:My [w,c,s,pb (.int m),dg,x6,O (.own (T.map int)),pb (.int d)]=.nx [w,c,s,pb (.int m),dg,x6,O (.own (T.map int)),pb (.int (((d+1) % m:Nat):Int))]:=by
   refine KY (Kf (Kf (UX zO) Ka Ze) (UX zO) (Sb (by lia))) (Qa zO) ?_;have e1:((d+1:Nat):Int)=(d:Int)+1:=by lia
   have:((d:Int)+1) % (m:Int)=(((d+1) % m:Nat):Int):=by rw[Int.natCast_emod,e1]
   rw[this];rfl
  rw[hst];dsimp only;have e2:∀j,((d+1) % m+j) % m=(d+(j+1)) % m:=λj=>by rw[Nat.mod_add_mod];congr 1;lia
  have:=DA (c:=c) (s:=s) (w:=w) (dg:=dg) (x6:=x6) (T:=T) hm k fuel ((d+1) % m) (λj hjk=>by rw[e2];exact hj (j+1) (by lia)) (by rw[e2];exact hn) (Nat.mod_lt _ hm) (by lia);rw[e2]at this;exact this
section
variable{cs:zT}{ls:L3}
def vi(g:Good cs ls)(c s:Int):∃r,Tg [Kz cs ls,.int c,.int s]=O r/\∃o old ts,r=KI o old ts/\Yo cs.length ls.length old ts:=by
 refine W2 (Z:=[pb (Kz cs ls),pb (.int c),pb (.int s),zP,zP,zP,zP,zP]) zO ?_;unfold Rb;have l7:=g.l7;have l1:=g.l1;have c6:=g.c6;have c1:=g.c1;have al:Kn [.list (ls.map Zm)]=O (.int ls.length):=by rw[Zg,Qb]
 have aw:Kn [.list (cs.map int)]=O (.int cs.length):=by rw[Zg,Qb]
 generalize hm:ls.length=m at *;generalize hn:cs.length=n at *;refine Kq (KY (Zj (U0 (Kt zO Ka XS) U6) al) (Qa zO) zO) ?_;have s1:Kg (.list [.int 3,.int 2,.int ((m:Int)+1)]) (.list (UI m (.int ((n:Int)+1))))=O (.list (([3,2,(m:Int)+1]++UI m ((n:Int)+1)).map int)):=by rw[Wj (by rw[QO];show 3+m<=_;lia),QC,JQ];rfl
 have s2:Kg (.list (([3,2,(m:Int)+1]++UI m ((n:Int)+1)).map int)) (.list (UI m (.int (m:Int))))=O (.list ((szA n m).map int)):=by rw[Wj (by rw[Qb,Qi,QO,QO];show 3+m+m<=_;lia)];unfold szA;rw[QC (l₂:=UI m (m:Int)),JQ (n:=m) (a:=(m:Int))]
 obtain⟨r,hF,dg,rfl,hdl,hdb⟩:=NL c s (sizes:=szA n m) (λx hx=>by
  unfold szA at hx;rcases Qz.mp hx with hx|hx
  .rcases Qz.mp hx with hx|hx
   .have hx:x=3∨x=2∨x=(m:Int)+1:=by simpa using hx
    lia
   .rw[(List.mem_replicate.mp hx).2];lia
  .rw[(List.mem_replicate.mp hx).2];lia) (by rw[Fd];lia)
 rw[Fd]at hdl;refine Kq (KY (Ko (U0 (UX zO) (U0 (UX zO) (U0 (Kf (Kf (ZN (U0 Ka (U0 Ka (U0 (Kf (UX zO) Ka Ze) U6))) (Qa zO)) (Kf (ZN (U0 (Kf (Zj (U0 (Kt zO Ka Wl) U6) aw) Ka Ze) U6) (Qa zO)) (UX zO) (HB (by lia))) s1) (Kf (ZN (U0 (UX zO) U6) (Qa zO)) (UX zO) (HB (by lia))) s2) U6))) zO hF) (Qa zO) zO) ?_;have get:∀j,j<3+m+m->∃d,dg[j]?=O d:=λj hj=>⟨dg[j]'(by lia),Qe _⟩
 obtain⟨d0,e0⟩:=get 0 (by lia);obtain⟨d1,e1⟩:=get 1 (by lia);obtain⟨d2,e2⟩:=get 2 (by lia);have b0:=hdb 0 d0 3 e0 zO;have b1:=hdb 1 d1 2 e1 zO;have b2:=hdb 2 d2 ((m:Int)+1) e2 zO;have i0:oIx (.list (dg.map int)) (.int 0)=O (.int d0):=Zv (j:=0) (by rw[Qd,e0];rfl);have i1:oIx (.list (dg.map int)) (.int 1)=O (.int d1):=Zv (j:=1) (by rw[Qd,e1];rfl);have i2:oIx (.list (dg.map int)) (.int 2)=O (.int d2):=Zv (j:=2) (by rw[Qd,e2];rfl);refine Kq (KY Ka (Qa zO) zO) ?_
 let ol:zT:=(dg.drop 3).take m
 have oll:ol.length=m:=by show((dg.drop 3).take m).length=m;rw[QY,Q8];lia
 have olb:∀d∈ol,0<=d/\d<(n:Int)+1:=λd hd=>by
  obtain⟨j,hj,e⟩:=List.mem_iff_getElem.mp hd;have hjm:j<m:=by lia
  refine hdb (3+j) d _ ?_ (Av hjm);have:ol[j]?=O d:=by rw[Qe hj,e]
  show dg[3+j]?=_;rw[←this];show _=((dg.drop 3).take m)[j]?;rw[List.getElem?_take,Qu hjm,List.getElem?_drop]
 have aB:DL.cutD (dg.map int) (O 3) (O (3+(m:Int)))=ol.map int:=by
  rw[M6 (by decide) (by lia) (by lia)];have t1:(3:Int).toNat=3:=rfl;have t2:(3+(m:Int)).toNat-(3:Int).toNat=m:=by lia
  rw[t2,t1]
 have step:Ho (sIf (U1 oEq (U8 4 (U2 (.int 1))) (U2 (.int 1))) (Zn 5 (Za (K4 (Yg (UW 4) (Ku (U2 (.int 3)) λx=>Kw (YT x)) (Ku (U1 Kg (U2 (.int 3)) (UW 3)) λx=>Kw (YT x)))) 1 (gN 8) (U2 zQ) (U1 oIx (KS (UZ (U2 .none) (UZ (U1 Zl (UW 8) (U2 (.int 1))) (UY)))) (Zb PZ (UZ (Kb UK (Zp (oIB λi j=>decide (j<i)) 8 (U2 (.int 0)))) (UY)))))) (sNx))
   [pb (Kz cs ls),pb (.int c),pb (.int s),pb (.int m),pb (.list (dg.map int)),O (.pub .none),zP,zP]
   (λr=>∃old x6,r=.nx [pb (Kz cs ls),pb (.int c),pb (.int s),pb (.int m),pb (.list (dg.map int)),x6,zP,zP] /\
    (x6=O (.pub (Wv old)) ∨ ∃ws,old=O ws/\x6=O (.own (ws.map Ky)))/\(∀ws,old=O ws->ws.length=m)/\∀ws t,old=O ws->O t∈ws->0<=t/\t<n):=by
  have hc:∀a b:Option Sl,Zf (gN 8) (U2 zQ) (U1 oIx (KS (UZ (U2 .none) (UZ (U1 Zl (UW 8) (U2 (.int 1))) (UY)))) (Zb PZ (UZ (Kb UK (Zp (oIB λi j=>decide (j<i)) 8 (U2 (.int 0)))) (UY)))) (ol.map int) (KR [pb (Kz cs ls),pb (.int c),pb (.int s),pb (.int m),pb (.list (dg.map int)),O (.pub .none),zP,zP]++UI 1 zP) []=O ((ol.map PQ).map Ky):=λ_ _=>by
   refine XX (λZ=>∃x,Z=[pb (Kz cs ls),pb (.int c),pb (.int s),pb (.int m),pb (.list (dg.map int)),O (.pub .none),zP,zP,x]) _ _ _ _ (by simp only[Qb]) ?_ ⟨zP,rfl⟩ (by rw[Qb,Qm];lia);rintro i d e hd he Z ⟨x,rfl⟩;rw[Qd]at hd;rw[Qd,Qd]at he;cases hw:ol[i]? with
   |none=>rw[hw]at hd;cases hd
   |some z=>
   rw[hw]at hd he;cases hd;cases he;exact⟨_,U4 (Qa zO) zO,rfl,Kf (ZN (U0 Ka (U0 (Kf (UX zO) Ka Xp) U6)) (Qa zO)) (Zj (U0 (KJ (ZO zO Ka zO)) U6) zO) (xj z),_,rfl⟩
  apply KE
  case h1=>exact Kf (Kt zO Ka i1) Ka Yk
  case h2=>
   intro _;refine Yp (Z8 (Zi (Zh (W1 (UX zO) (Xq Ka) (Xq (Kf Ka (UX zO) Ze)) (by rw[W5,aB])) Zt) (hc zP zP)) (Qa zO) zO) ?_;refine⟨O (ol.map PQ),_,rfl,.inr ⟨_,rfl,rfl⟩,λws e=>?_,λws t e ht=>?_⟩
   .cases e;rw[Qb];exact oll
   .cases e
    obtain⟨d,hd,e⟩:=Qs.mp ht;have:=olb d hd;unfold PQ at e;split at e
    .cases e;lia
    .cases e
  case h3=>exact λ_=>K1 ⟨zP,_,rfl,.inl zO,(λws e=>by cases e),(λws t e=>by cases e)⟩
 refine KW (Fj step λr hr=>?_);obtain⟨old,x6,rfl,hx6,hol,hob⟩:=hr;refine KU ?_;refine Kq (Z8 (W3 U6 (Qa zO)) (Qa zO) zO) ?_;obtain⟨k2,rfl⟩:∃k:Nat,d2=k:=⟨d2.toNat,by lia⟩
 let tl:zT:=(dg.drop (3+m)).take k2
 have tll:tl.length=k2:=by show((dg.drop (3+m)).take k2).length=k2;rw[QY,Q8];lia
 have tlb:∀j d,tl[j]?=O d->0<=d/\d<(m:Int):=λj d hj=>by
  have aF:j<k2:=by have:=(Qg.mp hj).1;lia
  refine hdb (3+m+j) d _ ?_ (xk (by lia));rw[←hj];show _=((dg.drop (3+m)).take k2)[j]?;rw[List.getElem?_take,Qu aF,List.getElem?_drop]
 have cA:DL.cutD (dg.map int) (O (3+(m:Int))) (O (3+(m:Int)+(k2:Int)))=tl.map int:=by
  rw[M6 (by lia) (by lia) (by lia)];have t1:(3+(m:Int)).toNat=3+m:=by lia
  have t2:(3+(m:Int)+(k2:Int)).toNat-(3+(m:Int)).toNat=k2:=by lia
  rw[t2,t1]
 apply KW;apply ZD (λi Z=>∃(T:zT)(x8:Option Sl),Z=[pb (Kz cs ls),pb (.int c),pb (.int s),pb (.int m),pb (.list (dg.map int)),x6,O (.own (T.map int)),x8]/\T.length=i/\T.Nodup/\∀a∈T,0<=a/\a<(m:Int))
 case h1=>exact Zh (W1 (UX zO) (Xq (Kf Ka (UX zO) Ze)) (Xq (Kf (Kf Ka (UX zO) Ze) (Kt zO Ka i2) Ze)) (by rw[W5,cA])) Zt
 case h0=>exact⟨[],_,rfl,rfl,List.nodup_nil,λ_ h=>by cases h⟩
 case hst=>
  rintro i d Z hi ⟨T,x8,rfl,hT,hTn,hTb⟩;rw[Qd]at hi;cases hw:tl[i]? with
  |none=>rw[hw]at hi;cases hi
  |some z=>
  rw[hw]at hi;cases hi;have hz:=tlb i z hw;have ak:i<k2:=by have:=(Qg.mp hw).1;lia
  obtain⟨zz,rfl⟩:∃k:Nat,z=k:=⟨z.toNat,by lia⟩
  refine⟨_,U4 (Qa zO) zO,?_⟩;unfold GL;obtain⟨k,hk,hk1,hk2⟩:=wx (m:=m) (T:=T) zz (by lia) hTn;refine Kq (DA (by lia) k 1000 zz hk1 hk2 (by lia) (by lia)) ?_;refine Yp (XT zO (UX zO) zO (by rw[Qb];lia) zO) ?_;refine Zd ⟨T++[(((zz+k) % m:Nat):Int)],_,by rw[QC (l₁:=T) (f:=int)];rfl,by rw[Qi,hT];rfl,?_,λa ha=>?_⟩
  .refine List.nodup_append.mpr ⟨hTn,List.nodup_cons.mpr ⟨(by simp),List.nodup_nil⟩,λa ha b hb e=>?_⟩
   rw[Qt.mp hb]at e;exact hk2 (e ▸ ha)
  .rcases Qz.mp ha with h|h
   .exact hTb a h
   .rw[Qt.mp h]
    have:=Nat.mod_lt (zz+k) (show 0<m by lia);exact⟨by lia,by lia⟩
 case hend=>
  rintro Z ⟨T,x8,rfl,hT,hTn,hTb⟩;refine KU ?_
  obtain⟨o,ho⟩:∃o:Ord,oIx (.list [.str "firsts", .str "full", .str "lasts"]) (.int d0)=O (.str o.tx):=by
   have:d0=0∨d0=1∨d0=2:=by lia
   rcases this with rfl|rfl|rfl
   .exact⟨.firsts,Zv (j:=0) zO⟩
   .exact⟨.full,Zv (j:=1) zO⟩
   .exact⟨.lasts,Zv (j:=2) zO⟩
  have ga:Yo n m old T:=⟨hol,hob,hTn,hTb⟩;rcases hx6 with rfl|⟨ws,rfl,rfl⟩
  .exact Kv (ZU (U0 (Kf (ZN (U0 Ka (U0 Ka (U0 Ka U6))) (Qa zO)) (Kt zO Ka i0) ho) (U0 (UX zO) (U0 (YC zO zO) U6))) (Qa zO)) ⟨_,rfl,o,_,T,rfl,ga⟩
  .exact Kv (ZU (U0 (Kf (ZN (U0 Ka (U0 Ka (U0 Ka U6))) (Qa zO)) (Kt zO Ka i0) ho) (U0 (YC zO zO) (U0 (YC zO zO) U6))) (Qa zO)) ⟨_,rfl,o,O ws,T,rfl,ga⟩
end
section
variable{cs:zT}{ls:L3}{ws:LO}
def zC(g:Good cs ls):Te [Kz cs ls]=O (.int (lng ls:Nat)):=by
 refine K3  rfl ?_
 have hc:Zf (gN 1) (U2 zQ) (Zk 1) (ls.map Zm) (KR [pb (Kz cs ls)]++UI 1 zP) []=O ((ls.map λrs=>(rs.length)).map int):=by
  refine XX (λZ=>∃x,Z=[O _,x]) _ _ _ _ (by rw[Qb,Qb,Qb]) ?_ ⟨zP,rfl⟩ (by rw[Qb,Qm];have:=g.l7;lia);rintro i d e hd he Z ⟨x,rfl⟩;rw[Qd]at hd;rw[Qd,Qd]at he;cases hl:ls[i]? with
  |none=>rw[hl]at hd;cases hd
  |some rs=>
  rw[hl]at hd he;cases hd;cases he;exact⟨_,U4 (Qa zO) zO,rfl,Zu zO (Di rs),_,rfl⟩
 refine Kv (Zj (U0 (KJ (Zi (Zh (Kt zO Ka XS) Zt) hc)) U6) (Ea (by rw[Qb];have:=g.l1;lia))) ?_;rw[Mr g.l1]
def yu{i:Nat}{rs:List zT}(h:ls[i]?=O rs)(t:Int):Tf [Kz cs ls,.int i,.int t]=O (.int (ZC t rs:Nat)):=by
 refine K3  rfl ?_;apply KW;apply ZD (λi' Z=>(∃x2 x3,Z=[pb (Kz cs ls),pb (.int i),pb (.int t),x2,x3])/\∀j r,j<i'->rs[j]?=O r->r.contains t=zR)
 case h1=>exact Y9 (U0 (Kf (Kt zO Ka XS) (UX zO) (NM h)) U6) Xa
 case h0=>exact⟨⟨_,_,rfl⟩,λj r h=>absurd h (Jq _)⟩
 case hst=>
  rintro k d Z hi ⟨⟨x2,x3,rfl⟩,hb⟩;obtain⟨x,hx,rfl⟩:=Xo hi;rw[Qd]at hx;cases hr:rs[k]? with
  |none=>rw[hr]at hx;cases hx
  |some r=>
   rw[hr]at hx;cases hx;refine⟨_,Kr zO (U9 (U4 (Qa zO) zO) (U9 (U4 (Qa zO) zO) Ks)),?_⟩;apply KE
   case h1=>exact ZO zO (UX zO) (Mt t r)
   case h2=>
    intro hh;refine Kv (Kf (UX zO) Ka Ze) (VI ?_);rw[Dk hr hh hb];refine⟨?_⟩
    congr 2
    lia
   case h3=>
    intro hh;refine K1 (Zd ⟨⟨_,_,rfl⟩,λj r' hj e=>?_⟩);rcases J4.mp hj with hj|rfl
    .exact hb j r' hj e
    .rw[hr]at e;cases e;exact hh
 case hend=>rintro Z ⟨⟨x2,x3,rfl⟩,hb⟩;refine KU (Kv Ka ?_);rw[Dj (λj r hj e=>hb j r (by rw[YH,Qb];exact hj) e)];rfl
end
noncomputable def whB:D->Bool
 |.int _=>zQ
 |_=>zR
noncomputable def whI:D->zZ
 |.int i=>O i
 |_=>zP
noncomputable def itI:D->zT
 |.list xs=>xs.filterMap whI
 |_=>[]
def On(d):Yr [d]=O (.bool (whB d)):=by
 cases d with
 |dict kvs=>exact K3  rfl (Kv (Wi  (u:=zR) (Mc (UX zO)) λz=>by cases z) zO)
 |_=>rfl
def vh  (xs:zS):ZK [.list (xs.map λd=>.bool (q d))]=O (.bool (xs.all q)):=by
 have:(xs.map λd=>UK (q d))=(xs.map q).map UK:=by rw[QL];rfl
 rw[this,VP];simp_all
def Fc   {t u}(h1:f Z=.ok t Z)(h2:t=zQ->g Z=.ok u Z)(h3:t=zR->u=zR):Zw f g Z=.ok u Z:=by
 have:=OS h1 h2;cases t with
 |true=>exact this
 |false=>rw[h3 zO];exact this
theorem FW:∀(a b)(k),Ke k (a++b)=Ke k a++Ke (k+a.length) b
 |[],b,k=>rfl
 |rs::a,b,k=>by show _++Ke _ (a++b)=_;rw[FW a b _];show _=(_++Ke _ a)++Ke (k+(a.length+1)) b;rw[Q5,show k+1+a.length=k+(a.length+1)by lia]
def xc  (ls)(k)(h:∀rs∈ls,rs.flatten.length<=n):(Ke k ls).length<=ls.length*n:=by rw[(SG ls k).length_eq];exact MW n ls k h
section
variable{cs:zT}{ls:L3}{o:Ord}{old:ae}{ts:zT}
def Ds  {b a r x:Int}(hn:(ts++[x]).Nodup):Wc (ts++[x]) b a r=Wc ts b a r*b+if x=a then b-r else 0:=by
 have hx   :=λz=>(List.nodup_append.mp hn).2.2 x z x (Qt.mpr zO) zO;unfold Wc
 by_cases h:a∈ts
 .have hxa:¬x=a:=λe=>hx (e ▸ h)
  have hlt:=List.idxOf_lt_length_of_mem h;rw[Qu (Q4 _ h),Qu h,QJ hxa,List.idxOf_append,Qu h,Qi,Q0,show ts.length+1-1-ts.idxOf a=(ts.length-1-ts.idxOf a)+1 by lia,Int.pow_succ,Int.add_zero,Int.mul_assoc]
 .rw[QJ h,Int.zero_mul,Jj]
  by_cases e:x=a
  .subst e
   rw[if_pos (by simp),if_pos zO,List.idxOf_append,if_neg h,List.length_append,List.length_singleton,List.idxOf_cons_self,show ts.length+1-1-_=0 by lia,Int.pow_zero,Int.mul_one]
  .rw[if_neg (by simp[h];exact λz=>e z.symm),if_neg e]
noncomputable def pwL(b:Int)(n:Nat):zT:=(UH (n+1)).map λj:Nat=>b ^ j
def Fb  {n j}(h:j<=n):(pwL b n)[j]?=O (b ^ j):=by unfold pwL;rw[Qd,QT (by lia)];rfl
def Ga   : (pwL b n).length=n+1:=by unfold pwL;simp_all
def xb   : pwL b (n+1)=pwL b n++[b ^ n*b]:=by unfold pwL;rw[Uq,QC,←Int.pow_succ];rfl
def N7  {n:Nat}{k:Int}(h0:0<=k)(h:k<=n):oIx (.list ((pwL b n).map int)) (.int k)=O (.int (b ^ k.toNat)):=by
 have e:k=((k.toNat)):=by lia
 rw[e];refine Zv ?_;rw[Qd,Fb (by lia)];rfl
def xa{ws:LO}{i:Nat}{t}(h):oEq (Ky ws[i]) (.int t)=O (decide (ws[i]=O t)):=Pb (b:=O t)
noncomputable def Ord.isL:Ord->Bool
 |.lasts=>zQ
 |_=>zR
def CS(o:Ord):oEq (.str o.tx) (.str "lasts")=O o.isL:=by cases o<;>decide +kernel
def LJ(g:Good cs ls)(ga:Yo cs.length ls.length old ts){i:Nat}{rs:List zT}(hi:ls[i]?=O rs){t:Int}(ht:t∈rs.flatten):XB [Kz cs ls,KI o old ts,.int i,.int t]=O (.int (Zz ls o old ts i rs t)):=by
 have l7:=g.l7;have l1:=g.l1;have hL:lng ls<=5:=Md l1 λrs h=>(g.rk rs h).few;have hrs:rs∈ls:=Qr hi;have aZ:=HD hrs;have hrk:ZC t rs<=lng ls:=by have:=Lk t rs;lia
 have hrp:1<=ZC t rs:=by have:=Lw ht;lia
 have htl:=ga.few;have hlt:i<ls.length:=(Qg.mp hi).1;refine K3 (Z:=[pb (Kz cs ls),pb (KI o old ts),pb (.int i),pb (.int t),zP,zP,zP,zP,zP,zP,zP,zP,zP,zP,zP]) zO ?_;unfold Ra;refine Kq (YD (UX zO) (Kr zO (U9 (U4 (Qa zO) zO) (U9 (U4 (Qa zO) zO) (U9 (U4 (Qa zO) zO) Ks))))) ?_;have al:Kn [.list (ls.map Zm)]=O (.int ls.length):=by rw[Zg,Qb]
 refine Kq (KY (Kf (Zj (U0 (Kt zO Ka XS) U6) al) Ka Ze) (Qa zO) zO) ?_;refine Kq (KY (Ko (U0 (UX zO) U6) zO (zC g)) (Qa zO) zO) ?_;refine Kq (KY (Ko (U0 (UX zO) (U0 (UX zO) (U0 (UX zO) U6))) zO (yu hi t)) (Qa zO) zO) ?_;refine Kq (Z8 (W3 (U0 Ka U6) (Qa zO)) (Qa zO) zO) ?_
 let S0:Option Sl:=O (.pub (Kz cs ls))
 let S1:Option Sl:=O (.pub (KI o old ts))
 let S2:Option Sl:=O (.pub (.int i))
 let S3:Option Sl:=O (.pub (.int t))
 let S4:Option Sl:=O (.pub (.str o.tx))
 let S5:Option Sl:=O (.pub (Wv old))
 let S6:Option Sl:=O (.pub (.list (ts.map int)))
 let b:Int:=(ls.length:Int)+1
 let M:Nat:=lng ls
 let r:Nat:=ZC t rs
 let S7:Option Sl:=O (.pub (.int b))
 let S8:Option Sl:=O (.pub (.int (M:Int)))
 let S9:Option Sl:=O (.pub (.int (r:Int)))
 apply KW;apply ZD (λj Z=>∃aj,Z=[S0,S1,S2,S3,S4,S5,S6,S7,S8,S9,O (.own ((pwL b j).map int)),aj,zP,zP,zP])
 case h1=>exact Y7 (U0 (UX zO) U6) (Y8 (by lia) (by lia))
 case h0=>exact⟨_,rfl⟩
 case hst=>
  rintro j d Z hj ⟨aj,rfl⟩;refine⟨_,U4 (Qa zO) zO,?_⟩;unfold Gw;obtain⟨_,aF⟩:=XY hj
  have ar:oIx (.list ((pwL b j).map int)) (.int (-1))=O (.int (b ^ j)):=Mv (by
   rw[List.getLast?_eq_getElem?,Qb,Ga,Qd,Nat.add_sub_cancel,Fb (Qv j)]
   rfl)
  refine Yp (XT zO (Kf (T6 zO (Sw Ka) zO ar) (UX zO) (Xb (by lia) (by lia))) zO (by rw[Qb,Ga];lia) zO) (Zd ⟨O (.pub d),?_⟩);rw[xb,QC];rfl
 case hend=>
  rintro Z ⟨aj,rfl⟩;have er:(Ys 0 (M:Int)).length=M:=by rw[YZ];lia
  rw[er];refine KU ?_
  let S10:Option Sl:=O (.own ((pwL b M).map int))
  have e1:((M:Int)-(r:Int)).toNat=M-r:=by lia
  have p1:oIx (.list ((pwL b M).map int)) (.int ((M:Int)-(r:Int)))=O (.int (b ^ (M-r))):=by rw[N7 (by lia) (by lia),e1]
  have p2:oIx (.list ((pwL b M).map int)) (.int (M:Int))=O (.int (b ^ M)):=by rw[N7 (by lia) (by lia)];rfl
  have p3:oIx (.list ((pwL b M).map int)) (.int ((r:Int)-1))=O (.int (b ^ (r-1))):=by rw[N7 (by lia) (by lia),show((r:Int)-1).toNat=r-1 by lia]
  refine Kq (Z1:=[S0,S1,S2,S3,S4,S5,S6,S7,S8,S9,S10,aj,pb (.int (b ^ (M-r))),zP,zP]) (KY (T6 zO (Kf (UX zO) (UX zO) Xp) zO p1) (Qa zO) zO) ?_
  have eo:Yd o b M r=match o with | .firsts=>b ^ (M-r) | .full=>b ^ (M-r)+b ^ M | .lasts=>b ^ M-b ^ (r-1):=by
   cases o with
   |firsts=>show b ^ ((M:Int)-(r:Int)).toNat=_;rw[e1]
   |full=>show b ^ ((M:Int)).toNat+b ^ ((M:Int)-(r:Int)).toNat=_;rw[e1,Int.add_comm];rfl
   |lasts=>show b ^ ((M:Int)).toNat-b ^ ((r:Int)-1).toNat=_;rw[show((r:Int)-1).toNat=r-1 by lia];rfl
  have done:∀w:Int,w=Yd o b M r->Ho (U3 (Kj 12 (U1 KB (UW 12) (UW 7)))
    (U3 (sIf (Zw (Kb (λd=>!isNon d) (UW 5)) (U1 oEq (U8 5 (UW 2)) (UW 3)))
    (Kj 12 (U1 Kg (UW 12) (U2 (.int 1))))
    (sNx))
    (U3 (Kj 13 (U2 (.int 0)))
    (U3 (KH (K4 (UW 6)) (gN 14) O9)
    (Kc (U1 Kg (UW 12) (UW 13))))))) [S0,S1,S2,S3,S4,S5,S6,S7,S8,S9,S10,aj,pb (.int w),zP,zP] (λo'=>o'=.rt (.int (Zz ls o old ts i rs t))):=by
   rintro w rfl;refine Kq (Z1:=[S0,S1,S2,S3,S4,S5,S6,S7,S8,S9,S10,aj,pb (.int (Yd o b M r*b)),zP,zP]) (KY (Kf (UX rfl) (UX rfl) (Xb (by lia) (by lia))) (Qa rfl) rfl) ?_
   have rest:∀v:Int,v=Yd o b M r*b+XM old i t->Ho (U3 (Kj 13 (U2 (.int 0)))
    (U3 (KH (K4 (UW 6)) (gN 14) O9)
    (Kc (U1 Kg (UW 12) (UW 13))))) [S0,S1,S2,S3,S4,S5,S6,S7,S8,S9,S10,aj,pb (.int v),zP,zP] (λo'=>o'=.rt (.int (Zz ls o old ts i rs t))):=by
    intro v hv;refine Kq (KY Ka (Qa zO) zO) ?_;apply KW;apply ZD (λj Z=>∃aH,Z=[S0,S1,S2,S3,S4,S5,S6,S7,S8,S9,S10,aj,pb (.int (v*((M:Int)+1) ^ j)),pb (.int (Wc (ts.take j) ((M:Int)+1) i r)),aH])
    case h1=>exact Zh (UX zO) Zt
    case h0=>exact⟨zP,by rw[Int.pow_zero,Int.mul_one];rfl⟩
    case hst=>
     rintro j d Z hj ⟨aH,rfl⟩;rw[Qd]at hj;cases hz:ts[j]? with
     |none=>rw[hz]at hj;cases hj
     |some a=>
     rw[hz]at hj;cases hj;have aF:j<ts.length:=(Qg.mp hz).1;have ha:ts[j]=a:=(Qg.mp hz).2;have hts:ts.take (j+1)=ts.take j++[a]:=by rw[List.take_succ_eq_append_getElem aF,ha]
     have hnd:(ts.take j++[a]).Nodup:=by rw[←hts];exact List.Nodup.sublist (List.take_sublist _ _) ga.once
     refine⟨_,U4 (Qa zO) zO,?_⟩;unfold O9;refine Kq (Z1:=[S0,S1,S2,S3,S4,S5,S6,S7,S8,S9,S10,aj,pb (.int (v*((M:Int)+1) ^ (j+1))),pb (.int (Wc (ts.take j) ((M:Int)+1) i r)),pb (.int a)]) (KY (Kf (UX zO) (Kf (UX zO) Ka Ze) (Xb (by lia) (by lia))) (Qa zO) (by rw[Int.mul_assoc,←Int.pow_succ];rfl)) ?_;refine Kq (Z1:=[S0,S1,S2,S3,S4,S5,S6,S7,S8,S9,S10,aj,pb (.int (v*((M:Int)+1) ^ (j+1))),pb (.int (Wc (ts.take j) ((M:Int)+1) i r*((M:Int)+1))),pb (.int a)]) (KY (Kf (UX zO) (Kf (UX zO) Ka Ze) (Xb (by lia) (by lia))) (Qa zO) zO) ?_;refine KE (ZO zO (UX zO) Yk) (λhh=>?_) (λhh=>?_)
     .have e:a=(i:Int):=by simpa using hh
      refine Yp (KY (Kf (Kf (Kf (UX zO) (UX zO) Ze) Ka Ze) (UX zO) Xp) (Qa zO) zO) (Zd ⟨O (.pub (.int a)),?_⟩);rw[hts,Ds hnd,Qu e];have:Wc (ts.take j) ((M:Int)+1) i r*((M:Int)+1)+(M:Int)+1-(r:Int)=Wc (ts.take j) ((M:Int)+1) i r*((M:Int)+1)+((M:Int)+1-(r:Int)):=by lia
      rw[←this];rfl
     .have e:¬a=(i:Int):=by simpa using hh
      refine K1 (Zd ⟨O (.pub (.int a)),?_⟩);rw[hts,Ds hnd,QJ e,Int.add_zero]
    case hend=>rintro Z ⟨aH,rfl⟩;refine KU (Kv (Kf (UX rfl) (UX rfl) Ze) ?_);rw[Qb,Je,hv];rfl
   have hkk:Zw (Kb (λd=>!isNon d) (UW 5)) (U1 oEq (U8 5 (UW 2)) (UW 3)) [S0,S1,S2,S3,S4,S5,S6,S7,S8,S9,S10,aj,pb (.int (Yd o b M r*b)),zP,zP]=.ok (decide (XM old i t=1)) [S0,S1,S2,S3,S4,S5,S6,S7,S8,S9,S10,aj,pb (.int (Yd o b M r*b)),zP,zP]:=by
    cases old with
    |none=>exact Pl (KJ (k:=λd=>!isNon d) (x:=PyData.none) (UX zO))
    |some ws=>
     have hw:ws.length=ls.length:=ga.len ws zO;have hwi:ws[i]?=O ws[i]:=Qe (by lia);have hx:oIx (.list (ws.map Ky)) (.int i)=O (Ky ws[i]):=HE (by lia)
     have e:decide (XM (O ws) i t=1)=decide (ws[i]=O t):=by
      refine Js.mpr ?_
      show(if ws[i]?=O (O t)then(1:Int)else 0)=1 ↔ _
      rw[hwi];by_cases z:ws[i]=O t
      .rw[if_pos (by rw[z])];simp[z]
      .rw[if_neg (λy=>z (Option.some.inj y))];simp[z]
     rw[e];exact Sa (KJ (k:=λd=>!isNon d) (x:=Wv (O ws)) (UX zO)) (Kf (Kt zO (UX zO) hx) (UX zO) (xa (by lia)))
   apply KW;refine KE hkk (λhh=>?_) (λhh=>?_)
   .have e:XM old i t=1:=by simpa using hh
    exact Yp (KY (Kf (UX zO) Ka Ze) (Qa zO) zO) (KU (rest _ (by rw[e])))
   .have e:XM old i t=0:=by
     have hn:¬XM old i t=1:=by simpa using hh
     unfold XM at hn⊢;split at hn
     .rfl
     .split at hn
      .exact absurd zO hn
      .rename_i hz;rw[QJ hz]
    exact K1 (KU (rest _ (by rw[e,Int.add_zero])))
  have f2:=CS o;apply KW;refine KE (ZO zO Ka (HC o)) (λhh=>?_) (λhh=>?_)
  .cases o with
   |full=>refine Yp (KY (Kf (UX zO) (T6 zO (UX zO) zO p2) Ze) (Qa zO) zO) (KU ?_);apply KW;exact KE (b:=zR) (ZO zO Ka f2) (λz=>by cases z) λ_=>K1 (KU (done _ eo.symm))
   |firsts=>cases hh
   |lasts=>cases hh
  .refine K1 (KU ?_)
   apply KW;refine KE (ZO zO Ka f2) (λh2=>?_) (λh2=>?_)
   .cases o with
    |lasts=>exact Yp (KY (Kf (T6 zO (UX zO) zO p2) (T6 zO (Kf (UX zO) Ka Xp) zO p3) Xp) (Qa zO) zO) (KU (done _ eo.symm))
    |firsts=>cases h2
    |full=>cases h2
   .cases o with
    |firsts=>exact K1 (KU (done _ eo.symm))
    |full=>cases hh
    |lasts=>cases h2
end
def Dr{α β:Type}{f:α->β}(hf:∀a b,f a=f b->a=b){l:List α}(h:l.Nodup):(l.map f).Nodup:=by unfold List.Nodup at h⊢;rw[List.pairwise_map];exact h.imp λhne e=>hne (hf _ _ e)
theorem Dq:∀(ls)(k),(∀rs∈ls,rs.flatten.Nodup)->(Ke k ls).Nodup
 |[],_,_=>List.nodup_nil
 |rs::ls,k,h=>by
  show((Xm rs.flatten).map _++Ke _ ls).Nodup
  rw[List.nodup_append];refine⟨?_,Dq ls _ λr hr=>h r (Qk _ hr),λa ha b hb e=>?_⟩
  .exact Dr (λx y e=>(Prod.mk.inj e).2) ((W4 _).nodup_iff.mpr (h rs Ql))
  .subst e
   obtain⟨t,_,rfl⟩:=Qs.mp ha;have:=MX ls _ _ hb;simp at this
   lia
section
variable{cs:zT}{ls:L3}{o:Ord}{old:ae}{ts:zT}
def Sz(g:Good cs ls):(Ke 0 ls).length<=42:=by rw[(SG ls 0).length_eq];exact Od g
end
def xC(l:zT):(l.map int).all flat=zQ:=by rw[Q2];intro x hx;obtain⟨y,_,rfl⟩:=Qs.mp hx;rfl
noncomputable def KG(tm:Int)(as ps:zT):D:=.tuple [.int tm,.list (as.map int),.list (ps.map int)]
noncomputable def XJ(ps cs:zT):zT:=(ps.zip cs).map λp=>p.1*p.2
theorem Dp:∀(ps cs),XJ ps cs=XJ cs ps
 |[],cs=>by cases cs<;>rfl
 |_::_,[]=>rfl
 |p::ps,c::cs=>by have ih:=Dp ps cs;unfold XJ at ih⊢;rw[Q6,Q6,QD,QD,ih,Int.mul_comm]
noncomputable def ZT(cs as ps:zT):Int:=as.sum+(XJ ps cs).sum
section
variable{cs:zT}{ls:L3}{tm:Int}{as ps:zT}
def Vt:oIx (KG tm as ps) (.int 0)=O (.int tm):=Zv (j:=0) zO
def WS:oIx (KG tm as ps) (.int 1)=O (.list (as.map int)):=Zv (j:=1) zO
def Vs:oIx (KG tm as ps) (.int 2)=O (.list (ps.map int)):=Zv (j:=2) zO
def LR(g:Good cs ls):X9 [Kz cs ls,KG tm as ps]=O (.int (ZT cs as ps)):=by
 refine K3  rfl ?_;refine Kq (Wh (Ko (U0 (UX zO) U6) zO (SH g))) ?_;refine Kq (YD (UX zO) (Kr zO (U9 (U4 (Qa zO) zO) (U9 (U4 (Qa zO) zO) (U9 (U4 (Qa zO) zO) Ks))))) ?_;have c6:=g.c6
 let S2:Option Sl:=O (.pub (.int tm))
 let S3:Option Sl:=O (.pub (.list (as.map int)))
 let S4:Option Sl:=O (.pub (.list (ps.map int)))
 have hc:Zf (gT 2 (gNC (gN 5) (gNC (gN 6) (gN0)))) (U2 zQ) (U1 KB (UW 5) (UW 6)) (YE (ps.map int) (cs.map int)) (KR [pb (Kz cs ls),pb (KG tm as ps),S2,S3,S4]++UI 2 zP) []=O ((XJ ps cs).map int):=by
  rw[Lm,W6 (λ_=>zQ) (λd=>match d with | .tuple [.int a,.int b]=>.int (a*b)|_=>.none) (λZ=>∃x y,Z=[pb (Kz cs ls),pb (KG tm as ps),S2,S3,S4,x,y])]
  .rw[QR.mpr (λ_ _=>rfl),Qw,QL]
   unfold XJ;rw[QL];rfl
  .rintro d hm Z ⟨x,y,rfl⟩
   obtain⟨p,hp,rfl⟩:=Qs.mp hm;have:=g.c7 p.2 (JT hp).2;exact⟨_,Kr zO (U9 (U4 (Qa zO) zO) (U9 (U4 (Qa zO) zO) Ks)),rfl,λ_=>Kf (UX zO) (UX zO) (Xb (by lia) (by lia)),_,_,rfl⟩
  .exact⟨zP,zP,rfl⟩
  .rw[Qb,Qm,JG];lia
 exact Kv (Kf (Zj (U0 (UX zO) U6) Ox) (Zj (U0 (KJ (Zi (OR (U0 (UX zO) (U0 (Kt zO Ka Wl) U6)) zO) hc)) U6) Ox) Ze) zO
end
def HZ   (g:Good cs ls):∀q∈Ke 0 ls,(0<=q.1/\q.1<ls.length)/\0<=q.2/\q.2<cs.length:=λq hq=>by
 obtain⟨i,rs,h1,h2,h3⟩:=Sf hq;have:=(g.rk rs (Qr h1)).flat q.2 h3;have:=(Qg.mp h1).1
 lia
noncomputable def Y3:D->Bool
 |.int i=>decide (0<=i)
 |_=>zR
noncomputable def nlB(n:Nat):D->Bool
 |.list xs=>decide (xs.length=n)&&xs.all Y3
 |_=>zR
noncomputable def V2:D->Bool
 |.int i=>decide (1<=i)
 |_=>zR
noncomputable def YL(n m:Nat):D->Bool
 |.tuple [t,a,p]=>V2 t&&(nlB m a&&nlB n p)
 |_=>zR
noncomputable def V4(d:D)(k:Int):Int:=(itI d).getD k.toNat 0
noncomputable def D9(V:Int->Int->Int)(qs:LP):D->Bool
 |.tuple [.int tm,a,p]=>qs.all λq=>decide (tm*V q.1 q.2<=V4 a q.1+V4 p q.2)
 |_=>zR
noncomputable def Xx(n m:Nat)(V:Int->Int->Int)(qs:LP)(d:D):Bool:=YL n m d&&D9 V qs d
def ShP(d:D):Prop:=∀t a p,d=.tuple [t,a,p]->(∀xs,a=.list xs->xs.length<=1000)/\∀xs,p=.list xs->xs.length<=1000
def HA  {f}{Z Z1}{d}{t}(h:f Z=.ok d Z1)(ht:K2 d c=t):Kb (λd=>UK (K2 d c)) f Z=.ok (.bool t) Z1:=by subst ht;exact KJ  h
def At   {b}(h:f Z=.ok (.bool b) Z1)(hb:b=zR):KF (Zq f) Z=.ok zQ Z1:=by subst hb;exact Z9 (Yj h)
def wv(d):Vq [d]=O (.bool (Y3 d)):=by
 refine K3  rfl ?_;cases d with
 |int i=>exact Kv (Wi   (Ko (U0 (UX zO) U6) zO (On _)) (λ_=>KJ (ZO zO Ka zO))) zO
 |_=>exact Kv (Wi (t:=zR) (u:=zR) (Ko (U0 (UX zO) U6) zO (On _)) (λz=>by cases z)) zO
def yt{xs:zS}{n}(hl:xs.length<=1000):TV [.list xs,.int n]=O (.bool (decide ((xs.length:Int)=n)&&xs.all Y3)):=by
 refine K3  rfl ?_
 have hc:Zf (gN 2) (U2 zQ) (U7 1 Vq (UZ (UW 2) (UY))) xs (KR [pb (.list xs),pb (.int n)]++UI 1 zP) []=O (xs.map λd=>.bool (Y3 d)):=by
  rw[W6 _ _ (λZ=>∃x,Z=[pb (.list xs),pb (.int n),x])]
  .rw[QR.mpr (λ_ _=>rfl),Qw]
  .rintro d hm Z ⟨x,rfl⟩
   exact⟨_,U4 (Qa zO) zO,rfl,λ_=>Ko (U0 (UX zO) U6) zO (wv d),_,rfl⟩
  .exact⟨zP,rfl⟩
  .rw[Qm];lia
 exact Kv (Wi (KJ (Kf (Zu zO Zg) (UX zO) Yk)) (λ_=>Zj (U0 (KJ (Zi (Zh (UX zO) Zt) hc)) U6) (vh xs))) zO
def D2{d:D}{n:Nat}(hl:∀xs,d=.list xs->xs.length<=1000):Wa [d,.int n]=O (.bool (nlB n d)):=by
 refine K3  rfl ?_;cases d with
 |list xs=>refine Kv (Wi (t:=zQ) (HA (UX zO) zO) (λ_=>Ko (U0 (UX zO) (U0 (UX zO) U6)) zO (yt (hl xs zO)))) ?_;show Out.rt _=Out.rt (.bool (decide _&&xs.all Y3));rw[Bool.true_and,show decide _=decide (xs.length=n)from Js.mpr (by lia)]
 |dict kvs=>exact Kv (Wi  (u:=zR) (Mc (UX zO)) λz=>by cases z) zO
 |_=>exact Kv (Wi (t:=zR) (u:=zR) (HA (UX zO) zO) λz=>by cases z) zO
def jI{xs:zS}(h:xs.length=3):∃a b c,xs=[a,b,c]:=by
 match xs,h with
 |[a,b,c],_=>exact⟨a,b,c,rfl⟩
def jH  {xs:zS}(h:¬xs.length=3):YL n m (.tuple xs)=zR:=by
 unfold YL;split
 .simp_all
 .rfl
def jG  (h:V2 d=zQ):∃i,d=.int i/\1<=i:=by
 cases d with
 |int i=>exact⟨i,rfl,Qa h⟩
 |_=>cases h
theorem FV:∀{xs:zS},xs.all Y3=zQ->∃ns:zT,xs=ns.map int/\∀i∈ns,0<=i
 |[],_=>⟨[],rfl,λ_ h=>by cases h⟩
 |x::r,h=>by
  rw[Uv,QM]at h;obtain⟨ns,rfl,hn⟩:=FV h.2;cases x with
  |int i=>exact⟨i::ns,rfl,λj hj=>by
    rcases Qx.mp hj with rfl|hj
    .exact Qa h.1
    simp_all⟩
  |_=>have z:=h.1;cases z
def HY   (h:nlB n d=zQ):∃ns:zT,d=.list (ns.map int)/\ns.length=n/\∀i∈ns,0<=i:=by
 cases d with
 |list xs=>have h:(decide _&&xs.all Y3)=zQ:=h;rw[QM]at h;obtain⟨ns,rfl,hn⟩:=FV h.2;exact⟨ns,rfl,by have:=Qa h.1;rw[Qb]at this;exact this,hn⟩
 |_=>cases h
def FT   (h:YL n m d=zQ):∃tm as ps,d=KG tm as ps/\1<=tm/\(as.length=m/\∀i∈as,0<=i)/\ps.length=n/\∀i∈ps,0<=i:=by
 unfold YL at h;split at h
 .rw[QM,QM]at h
  obtain⟨i,rfl,hi⟩:=jG h.1;obtain⟨as,rfl,h1⟩:=HY h.2.1;obtain⟨ps,rfl,h2⟩:=HY h.2.2;exact⟨i,as,ps,rfl,hi,h1,h2⟩
 simp_all
def jF(ns):itI (.list (ns.map int))=ns:=by
 show(ns.map int).filterMap whI=ns
 rw[List.filterMap_map];show ns.filterMap (λi=>O i)=ns;simp
def Lj{ns:zT}{k}:V4 (.list (ns.map int)) k=ns.getD k.toNat 0:=by unfold V4;rw[jF]
def Xs{ns:zT}{k:Int}(h0:0<=k)(h1:k<ns.length):oIx (.list (ns.map int)) (.int k)=O (.int (ns.getD k.toNat 0)):=by
 obtain⟨j,rfl⟩:∃j:Nat,k=j:=⟨k.toNat,by lia⟩
 exact Mu (by lia)
section
variable{cs:zT}{ls:L3}{o:Ord}{old:ae}{ts:zT}
def jE{d:D}(hs:ShP d):TC [Kz cs ls,d]=O (.bool (YL cs.length ls.length d)):=by
 refine K3 (Z:=[pb (Kz cs ls),pb d,zP,zP,zP,zP,zP]) zO ?_;unfold RB;apply KW;cases d with
 |tuple xs=>
  refine KE (b:=!decide (xs.length=3)) (Z1:=[pb (Kz cs ls),pb (.tuple xs),zP,zP,zP,zP,zP]) ?_ (λhh=>?_) (λhh=>?_)
  .refine(ZZ (Yv (UX zO) zO) (Kf (Zu zO Oy) Ka Wg)).trans ?_
   rw[show decide ((xs.length:Int)=3)=decide (xs.length=3)from Js.mpr (by lia)]
  .have h3:¬xs.length=3:=by simpa using hh
   refine Kv Ka (ZP ?_);rw[jH h3]
  .have h3:xs.length=3:=by simpa using hh
   obtain⟨t,a,p,rfl⟩:=jI h3;obtain⟨ha,hp⟩:=hs t a p zO;refine K1 (KU ?_);refine Kq (YD (UX zO) (Kr zO (U9 (U4 (Qa zO) zO) (U9 (U4 (Qa zO) zO) Ks)))) ?_;refine Kq (YD (UX zO) (Kr zO (U9 (U4 (Qa zO) zO) (U9 (U4 (Qa zO) zO) (U9 (U4 (Qa zO) zO) Ks))))) ?_;have aS:V2 t=zQ->Ho (Kc (Wm (U7 2 Wa (UZ (UW 5) (UZ (Zk 3) (UY)))) (U7 2 Wa (UZ (UW 6) (UZ (Zk 2) (UY)))))) [pb (Kz cs ls),pb (.tuple [t,a,p]),pb (.list (cs.map int)),pb (.list (ls.map Zm)),pb t,pb a,pb p] (λo'=>o'=.rt (.bool (YL cs.length ls.length (.tuple [t,a,p])))):=by intro h1;have h5:=D2 (n:=ls.length) ha;have h6:=D2 (n:=cs.length) hp;refine Kv (Wi (Ko (U0 (UX zO) (U0 (Zu zO (by rw[Zg,Qb])) U6)) zO h5) (λ_=>Ko (U0 (UX zO) (U0 (Zu zO (by rw[Zg,Qb])) U6)) zO h6)) ?_;show _=Out.rt (.bool (V2 t&&_));rw[h1];rfl
   apply KW;cases t with
   |int i=>
    refine KE (b:=decide (i<1)) (ZZ (Z9 (Yj (Ko (U0 (UX zO) U6) zO (On (.int i))))) (ZO zO Ka zO)) (λhh=>?_) (λhh=>?_)
    .have:i<1:=Qa hh
     refine Kv Ka (ZP ?_);show _=Out.rt (.bool (decide (1<=i)&&_));rw[QG (by lia)];rfl
    .exact K1 (KU (aS (QB (by lia))))
   |_=>exact KE (b:=zQ) (Vx (At (Ko (U0 (UX zO) U6) zO (On _)) zO)) (λ_=>Kv Ka (ZP zO)) (λz=>by cases z)
 |dict kvs=>exact KE (b:=zQ) (Vx (Nd (UX zO))) (λ_=>Kv Ka (ZP zO)) (λz=>by cases z)
 |_=>exact KE (b:=zQ) (Vx (Yv (UX zO) zO)) (λ_=>Kv Ka (ZP zO)) (λz=>by cases z)
def LG(g:Good cs ls)(ga:Yo cs.length ls.length old ts){q:Int×Int}(hq:q∈Ke 0 ls):0<=Km ls o old ts q.1 q.2/\Km ls o old ts q.1 q.2<2199023255552:=by
 obtain⟨i,rs,h1,h2,h3⟩:=Sf hq;have l7:=g.l7;have l1:=g.l1;have hL:lng ls<=5:=Md l1 λrs h=>(g.rk rs h).few;have aZ:=HD (Qr h1);have hr1:1<=ZC q.2 rs:=by have:=Lw h3;lia
 have aL:ZC q.2 rs<=lng ls:=by have:=Lk q.2 rs;lia
 have htl:=ga.few
 have e:Km ls o old ts q.1 q.2=Zz ls o old ts i rs q.2:=by
  unfold Km;rw[h2,QX,QQ]
  congr 1
  simp[List.getD,h1]
 rw[e];unfold Zz;have pw:∀{b:Int}{n k:Nat},1<=b->b<=8->n<=k->1<=b ^ n/\b ^ n<=8 ^ k:=λ{b n k} h0 h8 hk=>⟨Int.pow_pos h0,Dg (by lia) h8 hk⟩
 have hb1:(1:Int)<=(ls.length:Int)+1:=by lia
 have cE:(ls.length:Int)+1<=8:=by lia
 have hM1:(1:Int)<=(lng ls:Int)+1:=by lia
 have hM8:(lng ls:Int)+1<=8:=by lia
 have a1:=pw hb1 cE (n:=lng ls) (k:=5) hL;have a2:=pw hb1 cE (n:=((lng ls:Int)-(ZC q.2 rs:Nat)).toNat) (k:=5) (by lia);have a3:=pw hb1 cE (n:=((ZC q.2 rs:Nat)-1:Int).toNat) (k:=5) (by lia)
 have a4:((ls.length:Int)+1) ^ ((ZC q.2 rs:Nat)-1:Int).toNat<=((ls.length:Int)+1) ^ lng ls:=by
  have:((ZC q.2 rs:Nat)-1:Int).toNat<=lng ls:=by lia
  obtain⟨k,hk⟩:=Nat.exists_eq_add_of_le this;rw[hk,Int.pow_add];have:=(pw hb1 cE (n:=k) (k:=5) (by lia)).1;have hm:=Jv this (show 0<=((ls.length:Int)+1) ^ ((ZC q.2 rs:Nat)-1:Int).toNat by lia);rw[Int.mul_one]at hm;exact hm
 have b1:0<=Yd o (ls.length+1) (lng ls) (ZC q.2 rs)/\Yd o (ls.length+1) (lng ls) (ZC q.2 rs)<=65536:=by
  cases o with
  |firsts=>show 0<=_ ^ _/\_ ^ _<=65536;lia
  |full=>show 0<=_ ^ ((lng ls:Int)).toNat+_ ^ _/\_ ^ ((lng ls:Int)).toNat+_ ^ _<=65536;rw[QQ];lia
  |lasts=>show 0<=_ ^ ((lng ls:Int)).toNat-_ ^ _/\_ ^ ((lng ls:Int)).toNat-_ ^ _<=65536;rw[QQ];lia
 have b2:0<=XM old i q.2/\XM old i q.2<=1:=by
  unfold XM;split
  .lia
  .split<;>lia
 have b3:=pw hM1 hM8 (n:=ts.length) (k:=7) (by lia)
 have b4:0<=Wc ts ((lng ls:Int)+1) i (ZC q.2 rs)/\Wc ts ((lng ls:Int)+1) i (ZC q.2 rs)<=8*8 ^ 7:=by
  unfold Wc;split
  .have b5:=pw hM1 hM8 (n:=ts.length-1-ts.idxOf (i:Int)) (k:=7) (by lia)
   refine⟨JR (by lia) (by lia),?_⟩;exact Int.mul_le_mul (by lia) b5.2 (by lia) (by decide)
  .exact⟨by lia,by decide⟩
 have c1:0<=Yd o (ls.length+1) (lng ls) (ZC q.2 rs)*(ls.length+1)+XM old i q.2/\Yd o (ls.length+1) (lng ls) (ZC q.2 rs)*(ls.length+1)+XM old i q.2<=600000:=by
  have d1:0<=Yd o (ls.length+1) (lng ls) (ZC q.2 rs)*((ls.length:Int)+1):=JR b1.1 (by lia);have d2   :=Int.mul_le_mul b1.2 cE (by lia) (by decide)
  lia
 have d3:0<=(Yd o (ls.length+1) (lng ls) (ZC q.2 rs)*(ls.length+1)+XM old i q.2)*((lng ls:Int)+1) ^ ts.length:=JR c1.1 (by lia);have d4   :=Int.mul_le_mul c1.2 b3.2 (by lia) (by decide)
 lia
def Pt(g:Good cs ls)(ga:Yo cs.length ls.length old ts){q:Int×Int}(hq:q∈Ke 0 ls):0<=Km ls o old ts q.1 q.2/\Km ls o old ts q.1 q.2<18446744073709551616:=
 let ⟨a,b⟩:=LG (o:=o) g ga hq;⟨a,Int.lt_trans b (by decide)⟩
def jD(g:Good cs ls)(ga:Yo cs.length ls.length old ts){d:D}(hs:ShP d):Vm [Kz cs ls,KI o old ts,d]=O (.bool (Xx cs.length ls.length (Km ls o old ts) (Ke 0 ls) d)):=by
 refine K3  rfl ?_;unfold RA;refine Kq (KY (Ko (U0 (UX zO) (U0 (UX zO) U6)) zO (NK g ga)) (Qa zO) zO) ?_;apply KW;refine KE (b:=!YL cs.length ls.length d) (Z9 (Yj (Ko (U0 (UX zO) (U0 (UX zO) U6)) zO (jE hs)))) (λhh=>?_) (λhh=>?_)
 .have e:YL cs.length ls.length d=zR:=by simpa using hh
  refine Kv Ka (ZP ?_);unfold Xx;rw[e];rfl
 .have e:YL cs.length ls.length d=zQ:=by simpa using hh
  obtain⟨tm,as,ps,rfl,h1,⟨h2,h2'⟩,h3,h3'⟩:=FT e;refine K1 (KU ?_);refine Kq (YD (UX zO) (Kr zO (U9 (U4 (Qa zO) zO) (U9 (U4 (Qa zO) zO) (U9 (U4 (Qa zO) zO) Ks))))) ?_
  let S0:Option Sl:=O (.pub (Kz cs ls))
  let S1:Option Sl:=O (.pub (KI o old ts))
  let S2:Option Sl:=O (.pub (KG tm as ps))
  let S3:Option Sl:=O (.pub (.list ((Ke 0 ls).map (ZM (Km ls o old ts)))))
  let S4:Option Sl:=O (.pub (.int tm))
  let S5:Option Sl:=O (.pub (.list (as.map int)))
  let S6:Option Sl:=O (.pub (.list (ps.map int)))
  let tq:Int×Int->Bool:=λq=>decide (tm*Km ls o old ts q.1 q.2<=as.getD q.1.toNat 0+ps.getD q.2.toNat 0)
  have aV:=Sz g
  have hc:Zf (gT 3 (gNC (gN 7) (gNC (gN 8) (gNC (gN 9) (gN0))))) (U2 zQ) (Kb UK (U1 (oIB λi j=>decide (j<=i)) (U1 Kg (U8 5 (UW 7)) (U8 6 (UW 8))) (U1 KB (UW 4) (UW 9)))) ((Ke 0 ls).map (ZM (Km ls o old ts))) (KR [S0,S1,S2,S3,S4,S5,S6]++UI 3 zP) []=O (((Ke 0 ls).map tq).map UK):=by
   refine(XX (λZ=>∃x y z,Z=[S0,S1,S2,S3,S4,S5,S6,x,y,z]) _ (((Ke 0 ls).map tq).map UK) _ _ (by rw[Qb,Qb,Qb]) ?_ ⟨zP,zP,zP,rfl⟩ (by rw[Qb,Qm];lia)).trans (by rw[Qw]);rintro j d e hd he Z ⟨x,y,z,rfl⟩;rw[Qd]at hd he;rw[Qd]at he;cases hz:(Ke 0 ls)[j]? with
   |none=>rw[hz]at hd;cases hd
   |some q=>rw[hz]at hd he;cases hd;cases he;have hq:=Qr hz;have hin:=HZ g q hq;have hb:=Pt (o:=o) g ga hq;exact⟨_,Kr zO (U9 (U4 (Qa zO) zO) (U9 (U4 (Qa zO) zO) (U9 (U4 (Qa zO) zO) Ks))),rfl,KJ (Kf (Kf (Kt zO (UX zO) (Xs hin.1.1 (by lia))) (Kt zO (UX zO) (Xs hin.2.1 (by lia))) Ze) (Kf (UX zO) (UX zO) (Xb (by lia) (by lia))) zO),_,_,_,rfl⟩
  refine Kv (Zj (U0 (KJ (Zi (Zh (UX zO) Zt) hc)) U6) VP) ?_;unfold Xx;rw[e,Bool.true_and];rw[Ua]
  congr 3
  funext q;rw[Lj,Lj];rfl
end
def FS(ns:zT):(ns.map int).all Y3=ns.all λi=>decide (0<=i):=by rw[Ua];rfl
def As{b:Bool}:oNe (.bool b) (.bool b)=O zR:=Fe zO (by simp[UO])
structure OkP(n m:Nat)(V:Int->Int->Int)(qs:LP)(tm:Int)(as ps:zT):Prop where
 t0:0<=tm
 la:as.length=m
 lp:ps.length=n
 aa:∀a∈as,0<=a
 pp:∀p∈ps,0<=p
 le:∀q∈qs,tm*V q.1 q.2<=as.getD q.1.toNat 0+ps.getD q.2.toNat 0
def HX  {V}{qs}{tm}{as ps}:Xx n m V qs (KG tm as ps)=zQ ↔ 1<=tm/\OkP n m V qs tm as ps:=by
 have e:Xx n m V qs (KG tm as ps)=((decide _&&((decide _&&(as.map int).all Y3)&&(decide _&&(ps.map int).all Y3)))&&qs.all λq=>decide _):=rfl;rw[e,FS,FS,Qb,Qb];simp only[QM,Jl,Q2,Lj];constructor
 .rintro⟨⟨h1,⟨h2,h3⟩,h4,h5⟩,h6⟩
  exact⟨h1,⟨by lia,h2,h4,h3,h5,h6⟩⟩
 .rintro⟨h1,h⟩
  exact⟨⟨h1,⟨h.la,h.aa⟩,h.lp,h.pp⟩,h.le⟩
def zm{cs:zT}{ls}{tm:Int}{as ps:zT}(g:Good cs ls):Tb [Kz cs ls,KG tm as ps]=O (.int (ZT cs as ps)):=by
 refine K3  rfl ?_;have c6:=g.c6
 have hc:Zf (gT 2 (gNC (gN 2) (gNC (gN 3) (gN0)))) (U2 zQ) (U1 KB (UW 2) (UW 3)) (YE (cs.map int) (ps.map int)) (KR [pb (Kz cs ls),pb (KG tm as ps)]++UI 2 zP) []=O ((XJ cs ps).map int):=by
  rw[Lm,W6 (λ_=>zQ) (λd=>match d with | .tuple [.int a,.int b]=>.int (a*b)|_=>.none) (λZ=>∃x y,Z=[pb (Kz cs ls),pb (KG tm as ps),x,y])]
  .rw[QR.mpr (λ_ _=>rfl),Qw,QL]
   unfold XJ;rw[QL];rfl
  .rintro d hm Z ⟨x,y,rfl⟩
   obtain⟨p,hp,rfl⟩:=Qs.mp hm;have:=g.c7 p.1 (JT hp).1;exact⟨_,Kr zO (U9 (U4 (Qa zO) zO) (U9 (U4 (Qa zO) zO) Ks)),rfl,λ_=>Kf (UX zO) (UX zO) (VJ (by lia) (by lia)),_,_,rfl⟩
  .exact⟨zP,zP,rfl⟩
  .rw[Qb,Qm,JG];lia
 refine Kv (Kf (Zj (U0 (Kt zO Ka WS) U6) Ox) (Zj (U0 (KJ (Zi (OR (U0 (Kt zO Ka Wl) (U0 (Kt zO Ka Vs) U6)) zO) hc)) U6) Ox) Ze) ?_;unfold ZT;rw[Dp]
noncomputable def pz(ps:zT)(ws:LO):Int:=(ws.map λo=>match o with|some t=>ps.getD t.toNat 0|none=>0).sum
noncomputable def ZB(n:Nat)(f:Nat->Int):Int:=((UH n).map f).sum
def V1   : ZB (n+1) f=ZB n f+f n:=by unfold ZB;rw[Uq];simp
theorem FR  : ∀(n),ZB n (λk=>f k+h k)=ZB n f+ZB n h
 |0=>rfl
 |n+1=>by rw[V1,V1,V1,FR n];lia
theorem Pq  : ∀(n),(∀k,k<n->f k<=h k)->ZB n f<=ZB n h
 |0,_=>Jd _
 |n+1,e=>by
  have h1:=Pq n λk hk=>e k (by lia)
  have h2:=e n (by lia);rw[V1,V1]
  lia
theorem Lv:∀(n)(f),(∀k,k<n->f k=0)->ZB n f=0
 |0,_,_=>rfl
 |n+1,f,e=>by rw[V1,Lv n f λk hk=>e k (by lia),e n (by lia)];rfl
theorem FQ{p:Nat->Int}{j}:∀(n),j<n->ZB n (λk=>if k=j then p k else 0)=p j
 |n+1,h=>by
  rw[V1];by_cases e:n=j
  .subst e
   rw[Qu zO,Lv n _ λk hk=>QJ (by lia)]
   lia
  .rw[QJ e,FQ n (by lia)]
   lia
def LF  {n}(e:∀k,k<n->f k=h k):ZB n f=ZB n h:=Int.le_antisymm (Pq n λk hk=>by rw[e k hk];exact Int.le_refl _) (Pq n λk hk=>by simp_all)
theorem Nm  {n:Nat}:∀(ws:LO),(∀t,O t∈ws->0<=t/\t<n)->pz ps ws=ZB n λk=>((ws.count (O (k:Int)):Nat):Int)*ps.getD k 0
 |[],_=>by rw[Lv n _ λk _=>by simp];rfl
 |o::ws,h=>by
  have ih:=Nm (ps:=ps) ws λt ht=>h t (Qk _ ht)
  cases o with
  |none=>
   show((0:Int)::_).sum=_
   rw[List.sum_cons];unfold pz at ih;rw[ih,Jj];exact LF λk _=>by simp
  |some t=>
   have ht:=h t Ql
   show(ps.getD t.toNat 0::_).sum=_
   rw[List.sum_cons];unfold pz at ih;rw[ih,←FQ (p:=λk=>ps.getD k 0) (j:=t.toNat) n (by lia),←FR];refine LF λk _=>?_;rw[Up]
   by_cases e:k=t.toNat
   .subst e
    have:(O t==O ((t.toNat:Nat):Int))=zQ:=by simp;lia
    rw[Qu zO,Qu this,Int.natCast_add,Int.add_mul]
    lia
   .have:¬(O t==O ((k:Nat):Int))=zQ:=by simp;lia
    rw[QJ e,QJ this,Jj,Nat.add_zero]
def LD:∀(ps cs),ps.length=cs.length->(XJ ps cs).sum=ZB cs.length λk=>cs.getD k 0*ps.getD k 0
 |ps,cs,h=>by
  unfold ZB XJ
  congr 1
  apply J0;intro i;rw[Qd,Qd];by_cases hi:i<cs.length
  .rw[QT hi]
   have h1:ps[i]?=O ps[i]:=Qe (by lia);have h2   :=Qe hi;have hz:_[i]?=O (ps[i],cs[i]):=List.getElem?_zip_eq_some.mpr ⟨h1,h2⟩;rw[hz];simp only[Option.map_some,Qn,h1,h2,Option.getD_some,Int.mul_comm]
  .rw[Jx  (by rw[JG];lia),Jx  (by rw[Qp];lia)]
   rfl
theorem Lu  : ∀{xs:zS},(∀x∈xs,x.depth<=k)->PyData.depthAll xs<=k
 |[],_=>by simp[PyData.depthAll]
 |x::r,h=>by
  have h1:=h x Ql;have h2:=Lu  λy hy=>h y (Qk _ hy);simp only[PyData.depthAll]
  lia
structure Stp where
 a:Nat
 b:Nat
 g:Int
 w:Option Nat
abbrev Tab:=List (Int×List Stp)
noncomputable def ent(T:Tab)(p:Nat):Int×List Stp:=T.getD p (0,[])
def Xl(W T:Tab)(s:Stp):Tab:=if(ent T s.b).1<(ent W s.a).1+s.g then T.set s.b ((ent W s.a).1+s.g,(ent W s.a).2++[s])else T
def OO(W:Tab)(S:List Stp):Tab:=S.foldl (Xl W) W
def Zo(n:Nat)(S:List Stp):Nat->Tab
 |0=>UI n (0,[])
 |t+1=>OO (Zo n S t) S
def yJ{T:Tab}{p}{x}(h:p<T.length):ent (T.set p x) p=x:=by unfold ent;rw[Qn,QW h];rfl
def LC  {p q}{x}(h:p≠q):ent (T.set p x) q=ent T q:=by unfold ent;simp_all
def xB(W T)(s):(Xl W T s).length=T.length:=by
 unfold Xl;split
 .simp_all
 .rfl
structure Pa(W T:Tab)(S:List Stp):Prop where
 len:T.length=W.length
 up:∀p,(ent W p).1<=(ent T p).1
 how:∀p,ent T p=ent W p ∨ ∃s∈S,s.b=p/\ent T p=((ent W s.a).1+s.g,(ent W s.a).2++[s])/\(ent W p).1<(ent T p).1
def yI{W T:Tab}{S:List Stp}{s:Stp}(hs:s∈S)(hb:s.b<W.length)(k:Pa W T S):Pa W (Xl W T s) S/\(∀p,(ent T p).1<=(ent (Xl W T s) p).1)/\(ent W s.a).1+s.g<=(ent (Xl W T s) s.b).1:=by
 have hbT:s.b<T.length:=by rw[k.len];exact hb
 unfold Xl;split
 .have self:=yJ (x:=((ent W s.a).1+s.g,(ent W s.a).2++[s])) hbT
  refine⟨⟨by rw[Jf];exact k.len,λp=>?_,λp=>?_⟩,λp=>?_,by rw[self];exact Jd _⟩
  .by_cases z:s.b=p
   .subst z;rw[self];have:=k.up s.b;show _<=(ent W s.a).1+s.g;lia
   .rw[LC z];exact k.up p
  .by_cases z:s.b=p
   .subst z;right;exact⟨s,hs,rfl,self,by rw[self];have:=k.up s.b;show _<(ent W s.a).1+s.g;lia⟩
   .rw[LC z];exact k.how p
  .by_cases z:s.b=p
   .subst z;rw[self];show _<=(ent W s.a).1+s.g;lia
   .rw[LC z];exact Jd _
 .exact⟨k,λp=>Jd _,by lia⟩
theorem DM  {S}(hS:∀s∈S,s.b<W.length):∀(R:List Stp)(T),(∀s∈R,s∈S)->Pa W T S->Pa W (R.foldl (Xl W) T) S/\(∀p,(ent T p).1<=(ent (R.foldl (Xl W) T) p).1)/\∀s∈R,(ent W s.a).1+s.g<=(ent (R.foldl (Xl W) T) s.b).1
 |[],T,_,k=>⟨k,λ_=>Jd _,λs h=>by cases h⟩
 |s::R,T,hR,k=>by
  obtain⟨k1,u1,c1⟩:=yI (hR s Ql) (hS s (hR s Ql)) k;obtain⟨k2,u2,c2⟩:=DM hS R _ (λx hx=>hR x (Qk _ hx)) k1;refine⟨k2,λp=>JY (u1 p) (u2 p),λx hx=>?_⟩;rcases Qx.mp hx with rfl|hx
  .exact JY c1 (u2 x.b)
  .exact c2 x hx
def DV  {S}(hS:∀s∈S,s.b<W.length):Pa W (OO W S) S/\∀s∈S,(ent W s.a).1+s.g<=(ent (OO W S) s.b).1:=by obtain⟨k,_,c⟩:=DM hS S W (λ_ h=>h) ⟨rfl,λ_=>Jd _,λ_=>.inl zO⟩;exact⟨k,c⟩
section
variable{n:Nat}{S:List Stp}(hS:∀s∈S,s.a<n/\s.b<n)
include hS
theorem Py:∀t,(Zo n S t).length=n
 |0=>by unfold Zo;rw[QO]
 |t+1=>by unfold Zo;rw[(DV (λs h=>by rw[Py t];simp_all)).1.len,Py t]
theorem SK(t):Pa (Zo n S t) (Zo n S (t+1)) S/\∀s∈S,(ent (Zo n S t) s.a).1+s.g<=(ent (Zo n S (t+1)) s.b).1:=
 DV (λs h=>by rw[Py hS t];simp_all)
theorem Ol(p):ent (Zo n S 0) p=(0,[]):=by
 unfold ent Zo;rw[Qn,QA]
 split<;>rfl
theorem NB:∀t,(∀p,(ent (Zo n S t) p).2.length<=t)/\(∀p,0<t->ent (Zo n S t) p≠ent (Zo n S (t-1)) p->(ent (Zo n S t) p).2.length=t)
 |0=>⟨λp=>by rw[Ol hS];exact Qv _,λp h=>absurd h (Jp _)⟩
 |t+1=>by
  obtain⟨h1,h2⟩:=NB t;obtain⟨k,c⟩:=SK hS t
  have key:∀p,ent _ p≠ent (Zo n S t) p->(ent _ p).2.length=t+1:=λp hne=>by
   rcases k.how p with e|⟨s,hs,hb,e,lt⟩
   .exact absurd e hne
   .rw[e,Qi]
    congr 1
    cases t with
    |zero=>rw[Ol hS];rfl
    |succ t=>
     refine h2 s.a (JN t) λz=>?_
     obtain⟨k0,c0⟩:=SK hS t;have:=c0 s hs;rw[Nat.add_sub_cancel]at z;rw[e,z,←hb]at lt;exact absurd lt (by lia)
  refine⟨λp=>?_,λp _ hne=>key p (by exact hne)⟩;by_cases z:ent (Zo n S (t+1)) p=ent (Zo n S t) p
  .rw[z];exact Nat.le_succ_of_le (h1 p)
  .rw[key p z];exact Qv _
end
inductive Walk(S:List Stp):Nat->List Stp->Prop where
 |nil (p:Nat):Walk S p []
 |snoc {w:List Stp} {s:Stp} (hs:s∈S) (h:Walk S s.a w):Walk S s.b (w++[s])
noncomputable def K0(w:List Stp):Int:=(w.map Stp.g).sum
def Lg:K0 []=0:=rfl
def VT(u v):K0 (u++v)=K0 u+K0 v:=by unfold K0;simp_all
def Ps(s:Stp):K0 [s]=s.g:=by unfold K0;simp
section
variable{n:Nat}{S:List Stp}(hS:∀s∈S,s.a<n/\s.b<n)
include hS
theorem Om:∀t p,Walk S p (ent (Zo n S t) p).2/\K0 (ent (Zo n S t) p).2=(ent (Zo n S t) p).1
 |0,p=>by rw[Ol hS];exact⟨.nil p,rfl⟩
 |t+1,p=>by
  rcases(SK hS t).1.how p with e|⟨s,hs,hb,e,_⟩
  .rw[e];exact Om t p
  .obtain⟨h1,h2⟩:=Om t s.a
   rw[e,←hb];exact⟨.snoc hs h1,by rw[VT,Ps,h2]⟩
theorem EG  (h:t<=u)(p):(ent (Zo n S t) p).1<=(ent (Zo n S u) p).1:=by
 induction h with
 |refl=>exact Jd _
 |step _ ih=>exact JY ih ((SK hS _).1.up p)
theorem xA   (h:Walk S p w):∀(t),w.length<=t->K0 w<=(ent (Zo n S t) p).1:=by
 induction h with
 |nil p=>intro t _;have:=EG hS (JX t) p;rw[Ol hS]at this;exact this
 |@snoc w s hs h ih=>
  intro t hl;rw[Qi,Q0]at hl;obtain⟨u,rfl⟩:∃u,t=u+1:=⟨t-1,by lia⟩
  have:=ih u (by lia);have:=(SK hS u).2 s hs;rw[VT,Ps]
  lia
theorem wu  (h0:0<t)(h:∀p,p<n->(ent (Zo n S t) p).2.length≠t):∀s∈S,(ent (Zo n S t) s.a).1+s.g<=(ent (Zo n S t) s.b).1:=λs hs=>by
 obtain⟨u,rfl⟩:∃u,t=u+1:=⟨t-1,by lia⟩
 have e   :=Classical.byContradiction λz=>h s.a (hS s hs).1 ((NB hS _).2 s.a h0 z);rw[e]
 exact(SK hS u).2 s hs
end
inductive Path(S:List Stp):Nat->List Stp->Nat->Prop where
 |nil (p:Nat):Path S p [] p
 |cons {s:Stp} {w:List Stp} {p:Nat} (hs:s∈S) (h:Path S s.b w p):Path S s.a (s::w) p
section
variable{S:List Stp}
noncomputable def Path.append  {u v}(h1:Path S q u m)(h2:Path S m v p):Path S q (u++v) p:=by
 induction h1 with
 |nil p=>simp_all
 |cons hs h ih=>exact .cons hs (ih h2)
noncomputable def Path.split  {v}:∀{u}{q},Path S q (u++v) p->∃m,Path S q u m/\Path S m v p
 |[],q,h=>⟨q,.nil q,h⟩
 |s::u,q,h=>by
  cases h with
  |cons hs h=>obtain⟨m,h1,h2⟩:=Path.split  h;exact⟨m,.cons hs h1,h2⟩
noncomputable def Path.mem  {w}(h:Path S q w p):∀s∈w,s∈S:=by
 induction h with
 |nil p=>simp_all
 |cons hs h ih=>simp_all
def Walk.path   (h:Walk S p w):∃q,Path S q w p:=by
 induction h with
 |nil p=>exact⟨p,.nil p⟩
 |snoc hs h ih=>obtain⟨q,hq⟩:=ih;exact⟨q,hq.append (.cons hs (.nil _))⟩
def Path.walk  : ∀{w}{q},Path S q w p->∀{u},Walk S q u->Walk S p (u++w)
 |[],q,h,u,hu=>by cases h;simp_all
 |s::w,q,h,u,hu=>by
  cases h with
  |cons hs h=>have:=Path.walk h (Walk.snoc hs hu);simp_all
noncomputable def Path.head{q p:Nat}{s:Stp}{w:List Stp}(h:Path S q (s::w) p):q=s.a:=by cases h;rfl
noncomputable def Path.step  {s}{w}(h:Path S q (s::w) p):s∈S/\Path S s.b w p:=by cases h with|cons hs h=>exact⟨hs,h⟩
theorem Path.at  {w}(h:Path S q w p){i}{s}(hi:w[i]?=O s):Path S q (w.take i) s.a/\Path S q (w.take (i+1)) s.b/\Path S s.b (w.drop (i+1)) p:=by
 have hl   :=(Qg.mp hi).1
 have e:w.drop i=s::w.drop (i+1):=by
  rw[Ju hl]
  congr 1
  exact(Qg.mp hi).2
 have h':Path S q (w.take i++w.drop i) p:=by rw[Uc];exact h
 obtain⟨m,h1,h2⟩:=h'.split;rw[e]at h2;have hm:=h2.head;subst hm;obtain⟨hs,h3⟩:=h2.step;refine⟨h1,?_,h3⟩;rw[JS,hi];exact h1.append (.cons hs (.nil _))
def Path.next  {w}(h:Path S q w p){i}{s t}(hi:w[i]?=O s)(hj:w[i+1]?=O t):t.a=s.b:=by obtain⟨_,_,h3⟩:=h.at hi;have hl   :=(Qg.mp hj).1;rw[Ju hl]at h3;rw[←(Qg.mp hj).2];exact h3.head.symm
structure Mp(w:List Stp)(i j:Nat):Prop where
 ij:i<=j
 jl:j<w.length
 same:∀s t,w[i]?=O s->w[j]?=O t->s.a=t.b
 first:∀j'<j,∀i' ≤ j',∀s t,w[i']?=O s->w[j']?=O t->s.a≠t.b
def HW(w:List Stp):Prop:=∀j<w.length,∀i ≤ j,∀s t,w[i]?=O s->w[j]?=O t->s.a≠t.b
def FP{n:Nat}(hS:∀s∈S,s.a<n/\s.b<n){q p:Nat}{w:List Stp}(h:Path S q w p)(hl:n<=w.length)(h0:0<n):¬HW w:=λhn=>by
 obtain⟨s0,w0,rfl⟩:∃s0 w0,w=s0::w0:=by
  cases w with
  |nil=>rw[Qm]at hl;lia
  |cons a b=>exact⟨a,b,rfl⟩
 let P:List Nat:=s0.a::(s0::w0).map Stp.b
 have key:∀k l:Nat,k<l->∀x y:Nat,P[k]?=O x->P[l]?=O y->x≠y:=λk l aN x y hx hy=>by
  obtain⟨l,rfl⟩:∃m,l=m+1:=⟨l-1,by lia⟩
  have hy:((s0::w0).map Stp.b)[l]?=O y:=hy;rw[Qd]at hy;cases ht:(s0::w0)[l]? with
  |none=>rw[ht]at hy;cases hy
  |some t=>
  rw[ht]at hy;cases hy;have al   :=(Qg.mp ht).1;obtain⟨s,hs⟩:∃s,(s0::w0)[k]?=O s:=⟨_,Qe (by lia)⟩
  have hxs:x=s.a:=by
   cases k with
   |zero=>cases hs;cases hx;rfl
   |succ k=>
    have hx:((s0::w0).map Stp.b)[k]?=O x:=hx;rw[Qd]at hx;obtain⟨r,hr⟩:∃r,(s0::w0)[k]?=O r:=⟨_,Qe (by lia)⟩
    rw[hr]at hx;cases hx;exact(h.next hr hs).symm
  rw[hxs];exact hn l al k (by lia) s t hs ht
 have nd:P.Nodup:=by rw[List.nodup_iff_pairwise_ne,List.pairwise_iff_getElem];intro k l hk hl2 aN;exact key k l aN _ _ (Qe hk) (Qe hl2)
 have bound:∀x∈P,x<n:=λx hx=>by
  rcases Qx.mp hx with rfl|hx
  .exact(hS s0 h.step.1).1
  .obtain⟨s,hs,rfl⟩:=Qs.mp hx
   exact(hS s (h.mem s hs)).2
 have le:P.length<=n:=by
  have:=List.Nodup.length_le_of_subset nd (l₂:=UH n) λx hx=>QE.mpr (bound x hx)
  rwa[Qp]at this
 have:P.length=(s0::w0).length+1:=by show((s0::w0).map Stp.b).length+1=_;rw[Qb]
 lia
def wt{n:Nat}(hS:∀s∈S,s.a<n/\s.b<n)(h0:0<n){p:Nat}(hw:(ent (Zo n S n) p).2.length=n){i j:Nat}(r:Mp (ent (Zo n S n) p).2 i j) :
  ∃x,Path S x (((ent (Zo n S n) p).2.take (j+1)).drop i) x/\0<K0 (((ent (Zo n S n) p).2.take (j+1)).drop i):=by
 obtain⟨b7,hg⟩:=Om hS n p;generalize hW:(ent (Zo n S n) p).2=w at hw r b7 hg⊢;obtain⟨q,hp⟩:=b7.path;have hij:=r.ij;have aF:=r.jl;obtain⟨s,hs⟩:∃s,w[i]?=O s:=⟨_,Qe (by lia)⟩
 obtain⟨t,ht⟩:∃t,w[j]?=O t:=⟨_,Qe aF⟩
 have hst:=r.same s t hs ht;obtain⟨a1,a2,a3⟩:=hp.at hs;obtain⟨b1,b2,b3⟩:=hp.at ht;have e1   :=by have:=(Uc i (w.take (j+1))).symm;rw[List.take_take,Ub (by lia)]at this;exact this
 rw[e1]at b2;obtain⟨m,c1,c2⟩:=b2.split
 have hm:m=s.a:=by
  have e2:(w.take (j+1)).drop i=s::(w.take (j+1)).drop (i+1):=by
   rw[Ju (by rw[QY];lia)]
   congr 1
   rw[List.getElem_take];exact(Qg.mp hs).2
  rw[e2]at c2;exact c2.head
 subst hm;rw[←hst]at c2 b3;refine⟨s.a,c2,?_⟩;have hsh   :=a1.append b3;have ce:=hsh.walk (u:=[]) (.nil q);rw[Qw]at ce;have hlen:(w.take i++w.drop (j+1)).length<=n-1:=by rw[Qi,QY,Q8];lia
 have most:=xA hS ce (n-1) hlen;have hgw:K0 w=K0 (w.take i)+K0 ((w.take (j+1)).drop i)+K0 (w.drop (j+1)):=by rw[←VT,←e1,←VT,Uc]
 rw[VT]at most
 have lt:(ent (Zo n S (n-1)) p).1<(ent (Zo n S n) p).1:=by
  obtain⟨k,_⟩:=SK hS (n-1);rw[Nat.sub_add_cancel h0]at k;rcases k.how p with e|⟨_,_,_,_,lt⟩
  .have:=(NB hS (n-1)).1 p
   rw[←e,hW,hw]at this
   lia
  .exact lt
 lia
def yr  {w}(h:Path S q w p){i j:Nat}(r:Mp w i j):(((w.take (j+1)).drop i).map Stp.a).Nodup:=by
 rw[List.nodup_iff_pairwise_ne,List.pairwise_iff_getElem];intro k l hk hl aN;have aF:=r.jl;simp only[Qb,Q8,QY]at hk hl;simp only[J8,List.getElem_drop,List.getElem_take];obtain⟨m,rfl⟩:∃m,l=m+1:=⟨l-1,by lia⟩
 have e1:w[i+m]?=O w[i+m]:=Qe (by lia);have e2:w[i+m+1]?=O w[i+(m+1)]:=Qe (by lia);have e3:w[i+k]?=O w[i+k]:=Qe (by lia);rw[h.next e1 e2];exact r.first (i+m) (by lia) (i+k) (by lia) _ _ e3 e1
end
noncomputable def KD(f:Int×Int->Int)(i:Nat):zZ->Int
 |none=>0
 |some t=>f ((i:Int),t)
noncomputable def plF(n:Nat):zZ->Nat
 |none=>n
 |some t=>t.toNat
noncomputable def ZV(n b:Nat):zZ:=if b=n then zP else O (b:Int)
def Kl(f:Int×Int->Int)(k:Nat):LO->Int
 |[]=>0
 |o::r=>KD f k o+Kl f (k+1) r
theorem FO(f){o'}:∀{d}{k i}{o},d[i]?=O o->Kl f k (d.set i o')=Kl f k d+KD f (k+i) o'-KD f (k+i) o
 |[],_,_,_,h=>by cases h
 |x::d,k,0,o,h=>by
  cases h;show KD f k o'+Kl f _ d=KD f k x+Kl f _ d+KD f k o'-KD f k x
  lia
 |x::d,k,i+1,o,h=>by
  rw[List.set_cons_succ];unfold Kl;rw[FO f     (by simpa using h)]
  lia
theorem EF  : ∀{d:LO}{i}{o},d[i]?=O o->(((d.set i o').count x:Nat):Int)=(d.count x:Nat)+(if o'=x then 1 else 0)-(if o=x then 1 else 0)
 |[],_,_,h=>by cases h
 |y::d,0,o,h=>by cases h;by_cases h1:o'=x<;>by_cases h2:y=x<;>simp[h1,h2]<;>lia
 |y::d,i+1,o,h=>by
  have ih:=EF (o':=o') (x:=x)    (by simpa using h);rw[List.set_cons_succ,Up,Up]
  lia
structure Zx(cs:zT)(qs:LP)(m:Nat)(ws:LO):Prop where
 len:ws.length=m
 wish:∀(i:Nat) t,ws[i]?=O (O t)->((i:Int),t)∈qs
 cop:∀(k:Nat) c,cs[k]?=O c->((ws.count (O (k:Int)):Nat):Int)<=c
structure Zy(n m:Nat)(qs:LP):Prop where
 nd:qs.Nodup
 lo:∀q∈qs,0<=q.1/\q.1<m/\0<=q.2/\q.2<n
inductive IsSt(cs:zT)(f:Int×Int->Int)(qs:LP)(ws:LO):Stp->Prop where
 |mv {i:Nat} {o o':zZ} (h:ws[i]?=O o) (hne:o'≠o) (hq:∀t,o'=O t->((i:Int),t)∈qs):IsSt cs f qs ws ⟨plF cs.length o,plF cs.length o',KD f i o'-KD f i o,O i⟩
 |left {t:Nat} {c:Int} (h:cs[t]?=O c) (hl:((ws.count (O (t:Int)):Nat):Int)<c):IsSt cs f qs ws ⟨t,cs.length,0,zP⟩
 |give {t:Nat} (h:t<cs.length):IsSt cs f qs ws ⟨cs.length,t,0,zP⟩
def app(n:Nat)(d:LO)(s:Stp):LO:=match s.w with
 |some i=>d.set i (ZV n s.b)
 |none=>d
noncomputable def nIn(t:Nat)(R:List Stp):Nat:=(R.filter λs=>s.w.isSome&&s.b==t).length
noncomputable def XZ(t:Nat)(R:List Stp):Nat:=(R.filter λs=>s.w.isSome&&s.a==t).length
section
variable{cs:zT}{f:Int×Int->Int}{qs:LP}{m:Nat}{ws:LO}
def D8(hp:Zy cs.length m qs){i:Nat}{o}(h:∀t,o=O t->((i:Int),t)∈qs):ZV cs.length (plF cs.length o)=o:=by
 cases o with
 |none=>unfold ZV plF;simp_all
 |some t=>
  have:=hp.lo _ (h t zO)
  show(if t.toNat=cs.length then zP else O ((t.toNat):Int))=O t
  grind
def ON(hp:Zy cs.length m qs){i:Nat}{o}{t}(ht:t<cs.length)(h:∀t,o=O t->((i:Int),t)∈qs):plF cs.length o=t ↔ o=O (t:Int):=by
 cases o with
 |none=>exact⟨λe=>by have e:cs.length=t:=e;lia,λe=>by cases e⟩
 |some u=>
  have:=hp.lo _ (h u zO);show u.toNat=t ↔ _;constructor
  .grind
  .lia
theorem Oj(hp:Zy cs.length m qs)(hd:Zx cs qs m ws):∀(R:List Stp)(d:LO),(∀s∈R,IsSt cs f qs ws s)->(R.map Stp.a).Nodup->(∀s∈R,∀i,s.w=O i->d[i]?=ws[i]?)->d.length=ws.length->(∀(i:Nat) t,d[i]?=O (O t)->((i:Int),t)∈qs) ->
  Kl f 0 (R.foldl (app cs.length) d)=Kl f 0 d+K0 R/\(R.foldl (app cs.length) d).length=ws.length/\(∀(i:Nat) t,(R.foldl (app cs.length) d)[i]?=O (O t)->((i:Int),t)∈qs) /\
  ∀t,t<cs.length->(((R.foldl (app cs.length) d).count (O (t:Int)):Nat):Int)=(d.count (O (t:Int)):Nat)+(nIn t R:Nat)-(XZ t R:Nat)
 |[],d,_,_,_,hl,hq=>⟨by show _=_+K0 [];rw[Lg];show Kl f 0 d=_;lia,hl,hq,λt _=>by show((d.count _:Nat):Int)=_+((0:Nat):Int)-((0:Nat):Int);lia⟩
 |s::R,d,hR,hn,ha,hl,hq=>by
  rw[QD,Um]at hn;have hgc:K0 (s::R)=s.g+K0 R:=by show K0 ([s]++R)=_;rw[VT,Ps]
  rw[Jy,hgc];cases hR s Ql with
  |@mv i o o' h hne aq=>
   have hdi:d[i]?=O o:=(ha _ Ql i zO).trans h;have ho:∀t,o=O t->((i:Int),t)∈qs:=λt e=>hd.wish i t (by rw[h,e])
   have ak:i<d.length:=(Qg.mp hdi).1;have eapp:app cs.length d ⟨plF cs.length o,plF cs.length o',KD f i o'-KD f i o,O i⟩=d.set i o':=by show d.set i (ZV cs.length (plF cs.length o'))=_;rw[D8 hp aq]
   rw[eapp]
   obtain⟨k1,k2,k3,k4⟩:=Oj hp hd R (d.set i o') (λs hs=>hR s (Qk _ hs)) hn.2 (λs hs j hj=>by
    have hji:i≠j:=λz=>by
     subst z;cases hR s (Qk _ hs)with
     |@mv i2 o2 o2' h2 _ _=>cases hj;rw[h]at h2;cases h2;exact hn.1 (Qs.mpr ⟨_,hs,rfl⟩)
     |left _ _=>cases hj
     |give _=>cases hj
    rw[Qq hji];exact ha s (Qk _ hs) j hj) (by rw[Jf];exact hl) (λj t e=>by
    by_cases z:i=j
    .subst z
     rw[QW ak]at e;cases e;exact aq t zO
    .rw[Qq z]at e;exact hq j t e)
   refine⟨?_,k2,k3,λt ht=>?_⟩
   .rw[k1,FO f hdi,QX]
    lia
   .rw[k4 t ht,EF hdi]
    have e1:(if o'=O (t:Int)then(1:Int)else 0)=if plF cs.length o'=t then 1 else 0:=by
     by_cases z:o'=O (t:Int)
     .rw[Qu z,Qu ((ON hp ht aq).mpr z)]
     .rw[QJ z,QJ (λy=>z ((ON hp ht aq).mp y))]
    have e2:(if o=O (t:Int)then(1:Int)else 0)=if plF cs.length o=t then 1 else 0:=by
     by_cases z:o=O (t:Int)
     .rw[Qu z,Qu ((ON hp ht ho).mpr z)]
     .rw[QJ z,QJ (λy=>z ((ON hp ht ho).mp y))]
    have e3:∀(x:Nat),((nIn t (⟨plF cs.length o,plF cs.length o',KD f i o'-KD f i o,O i⟩::R):Nat):Int)=(if plF cs.length o'=t then 1 else 0)+(nIn t R:Nat):=λx=>by
     unfold nIn;rw[List.filter_cons];by_cases z:plF cs.length o'=t
     .rw[if_pos z,if_pos (by simp[z]),List.length_cons];lia
     .rw[if_neg z,if_neg (by simp[z])];lia
    have e4:∀(x:Nat),((XZ t (⟨plF cs.length o,plF cs.length o',KD f i o'-KD f i o,O i⟩::R):Nat):Int)=(if plF cs.length o=t then 1 else 0)+(XZ t R:Nat):=λx=>by
     unfold XZ;rw[List.filter_cons];by_cases z:plF cs.length o=t
     .rw[if_pos z,if_pos (by simp[z]),List.length_cons];lia
     .rw[if_neg z,if_neg (by simp[z])];lia
    rw[e1,e2,e3 0,e4 0]
    lia
  |left _ _=>obtain⟨k1,k2,k3,k4⟩:=Oj hp hd R d (λs hs=>hR s (Qk _ hs)) hn.2 (λs hs=>ha s (Qk _ hs)) hl hq;refine⟨?_,k2,k3,k4⟩;show Kl f 0 (R.foldl _ d)=Kl f 0 d+(0+K0 R);rw[k1];lia
  |give _=>obtain⟨k1,k2,k3,k4⟩:=Oj hp hd R d (λs hs=>hR s (Qk _ hs)) hn.2 (λs hs=>ha s (Qk _ hs)) hl hq;refine⟨?_,k2,k3,k4⟩;show Kl f 0 (R.foldl _ d)=Kl f 0 d+(0+K0 R);rw[k1];lia
theorem N6(t):∀R:List Stp,nIn t R<=(R.map Stp.b).count t
 |[]=>Qv _
 |s::R=>by
  have ih:=N6 t R;unfold nIn at ih⊢
  grind
def FN(hp:Zy cs.length m qs)(hd:Zx cs qs m ws){R:List Stp}(hR:∀s∈R,IsSt cs f qs ws s)(hn:(R.map Stp.a).Nodup)(hb:(R.map Stp.b).Perm (R.map Stp.a)):Zx cs qs m (R.foldl (app cs.length) ws)/\Kl f 0 (R.foldl (app cs.length) ws)=Kl f 0 ws+K0 R:=by
 obtain⟨k1,k2,k3,k4⟩:=Oj hp hd R ws hR hn (λs hs i e=>rfl) zO hd.wish;refine⟨⟨by rw[k2];exact hd.len,k3,λt c hc=>?_⟩,k1⟩;have ht   :=(Qg.mp hc).1;rw[k4 t ht];have h0:=hd.cop t c hc;have h1   :=List.nodup_iff_count.mp hn t;have h2:=N6 t R;rw[hb.count_eq]at h2;by_cases z:nIn t R=0
 .lia
 .have hmem:t∈R.map Stp.a:=List.count_pos_iff.mp (by lia)
  obtain⟨s,hs,hst⟩:=Qs.mp hmem;cases hR s hs with
  |@mv i o o' h hne aq=>
   have:1<=XZ t R:=by exact List.length_pos_iff.mpr (List.ne_nil_of_mem (List.mem_filter.mpr ⟨hs,by simpa using hst⟩))
   lia
  |@left u c' h hl=>
   have hst:u=t:=hst;subst hst;rw[h]at hc;cases hc
   lia
  |@give u h=>
   lia
end
def HV   {w}(h:Path S q w p):w.map Stp.a++[p]=q::w.map Stp.b:=by
 induction h with
 |nil p=>rfl
 |cons hs h ih=>simp_all
def LB    (h:Path S x w x):(w.map Stp.b).Perm (w.map Stp.a):=by have e:=HV h;have p1:(w.map Stp.a++[x]).Perm _:=List.perm_append_comm;simp_all
noncomputable def Z6(f:Int×Int->Int)(V:Nat->Int)(qs:LP)(i:Int):Int:=qs.foldl (λa q=>if q.1=i then max a (f q-V q.2.toNat)else a) 0
theorem NA(f:Int×Int->Int)(V:Nat->Int)(i:Int):∀(qs:LP)(a),a<=qs.foldl (λa q=>if q.1=i then max a (f q-V q.2.toNat)else a) a /\
  (∀q∈qs,q.1=i->f q-V q.2.toNat<=qs.foldl (λa q=>if q.1=i then max a (f q-V q.2.toNat)else a) a) /\
  ∀B,a<=B->(∀q∈qs,q.1=i->f q-V q.2.toNat<=B)->qs.foldl (λa q=>if q.1=i then max a (f q-V q.2.toNat)else a) a<=B
 |[],a=>⟨Jd _,(λq h=>by cases h),λB h _=>h⟩
 |q::qs,a=>by
  rw[Jy];obtain⟨h1,h2,h3⟩:=NA f V i qs _;have hb:a<=(if q.1=i then max a (f q-V q.2.toNat)else a):=by split<;>lia
  refine⟨JY hb h1,λp hp e=>?_,λB ha hB=>h3 B ?_ λp hp=>hB p (Qk _ hp)⟩
  .rcases Qx.mp hp with rfl|hp
   .lia
   .exact h2 p hp e
  .have:=hB q Ql
   split
   .lia
   .exact ha
theorem EE   : ∀(ws)(k:Nat)(A),(∀(j:Nat) o,ws[j]?=O o->A (k+j)=KD f (k+j) o-(match o with|some t=>ps.getD t.toNat 0|none=>0))->((List.range' k ws.length).map A).sum=Kl f k ws-pz ps ws
 |[],k,A,_=>by show(0:Int)=0-0;lia
 |o::ws,k,A,h=>by
  rw[QU,List.range'_succ,QD,List.sum_cons,EE ws (k+1) A λj o' e=>by have:=h (j+1) o' (by simpa using e);rw[show k+1+j=k+(j+1)by lia];exact this];have h0:=h 0 o zO;rw[Nat.add_zero]at h0;rw[h0];cases o with
  |none=>show KD f k zP-0+_=KD f k zP+Kl f (k+1) ws-(0+pz ps ws);lia
  |some t=>show KD f k _-ps.getD t.toNat 0+_=KD f k (O t)+Kl f (k+1) ws-(ps.getD t.toNat 0+pz ps ws);lia
section
variable{cs:zT}{f:Int×Int->Int}{qs:LP}{m:Nat}{ws:LO}{S:List Stp}
def IsSt.lt(hp:Zy cs.length m qs)(hd:Zx cs qs m ws){s}(h:IsSt cs f qs ws s):s.a<cs.length+1/\s.b<cs.length+1:=by
 have key:∀{i:Nat}{o:zZ},(∀t,o=O t->((i:Int),t)∈qs)->plF cs.length o<cs.length+1:=λ{i o} h=>by
  cases o with
  |none=>exact JO _
  |some t=>have:=hp.lo _ (h t zO);show t.toNat<_;lia
 cases h with
 |mv h hne hq=>exact⟨key λt e=>hd.wish _ t (by rw[h,e]),key hq⟩
 |left h hl=>have:=(Qg.mp h).1;exact⟨JZ this,JO _⟩
 |give h=>exact⟨JO _,JZ h⟩
def jC{V:Nat->Int}(still:∀s∈S,V s.a+s.g<=V s.b){q p}{w}(h:Path S q w p):V q+K0 w<=V p:=by
 induction h with
 |nil p=>rw[Lg];lia
 |@cons s w p hs h ih=>
  have:=still s hs;have e:K0 (s::w)=s.g+K0 w:=by show K0 ([s]++w)=_;rw[VT,Ps]
  lia
def ED(hp:Zy cs.length m qs)(hd:Zx cs qs m ws){V:Nat->Int}(st:∀s,IsSt cs f qs ws s->V s.a+s.g<=V s.b)(vn:V cs.length=0) :
  OkP cs.length m (λa b=>f (a,b)) qs 1 ((UH m).map λi:Nat=>Z6 f V qs (i:Int)) ((UH cs.length).map V)/\ZT cs ((UH m).map λi:Nat=>Z6 f V qs (i:Int)) ((UH cs.length).map V)=Kl f 0 ws:=by
 have v0:∀p,p<cs.length->0<=V p:=λp bR=>by
  have h3:V cs.length+0<=V p:=st _ (.give bR)
  lia
 have psD:∀k,k<cs.length->((UH cs.length).map V).getD k 0=V k:=λk hk=>by rw[Qn,Qd,QT hk];rfl
 have ask:∀(i:Nat) o,ws[i]?=O o->Z6 f V qs (i:Int)=KD f i o-(match o with|some t=>((UH cs.length).map V).getD t.toNat 0|none=>0):=λi o h=>by
  obtain⟨a1,a2,a3⟩:=NA f V (i:Int) qs 0;cases o with
  |none=>
   have:Z6 f V qs (i:Int)<=0:=a3 0 (Jd _) λq hq e=>by
    have h1:=st _ ((.mv (f:=f) h (o':=O q.2) (by intro z;cases z) λt et=>by cases et;rw[←e];exact hq));have h1:V cs.length+(f ((i:Int),q.2)-0)<=V q.2.toNat:=h1;rw[←e]at h1;have:f (q.1,q.2)=f q:=rfl
    lia
   show Z6 f V qs (i:Int)=0-0;have:0<=Z6 f V qs (i:Int):=a1
   lia
  |some t=>
   have hq:=hd.wish i t h;have hb:=hp.lo _ hq;have hup:=st _ ((.mv (f:=f) h (o':=zP) (by intro z;cases z) λt et=>by cases et));have hup:V t.toNat+(0-f ((i:Int),t))<=V cs.length:=hup;show Z6 f V qs (i:Int)=f ((i:Int),t)-((UH cs.length).map V).getD t.toNat 0;rw[psD t.toNat (by lia)];have lo:f ((i:Int),t)-V t.toNat<=Z6 f V qs (i:Int):=a2 _ hq zO
   have hi:Z6 f V qs (i:Int)<=f ((i:Int),t)-V t.toNat:=a3 _ (by lia) λq hq e=>by
    by_cases z:q.2=t
    .have:q=((i:Int),t):=by rw[←e,←z]
     rw[this];exact Jd _
    .have h1:=st _ ((.mv (f:=f) h (o':=O q.2) (by intro y;cases y;exact z zO) λt et=>by cases et;rw[←e];exact hq))
     have h1:V t.toNat+(f ((i:Int),q.2)-f ((i:Int),t))<=V q.2.toNat:=h1;have:f (((i:Int)),q.2)=f q:=by rw[←e]
     lia
   lia
 refine⟨⟨by decide,by rw[Qb,Qp],by rw[Qb,Qp],λa ha=>?_,λp bR=>?_,λq hq=>?_⟩,?_⟩
 .obtain⟨i,_,rfl⟩:=Qs.mp ha
  exact(NA f V (i:Int) qs 0).1
 .obtain⟨i,_,rfl⟩:=Qs.mp bR
  exact v0 i (QE.mp (by assumption))
 .have hb:=hp.lo q hq
  rw[psD q.2.toNat (by lia),Qn,Qd,QT (by lia)];have h2:=(NA f V q.1 qs 0).2.1 q hq zO;show 1*f q<=Z6 f V qs ((q.1.toNat:Nat):Int)+V q.2.toNat;have e:((q.1.toNat:Nat):Int)=q.1:=by lia
  rw[e];have h2:f q-V q.2.toNat<=Z6 f V qs q.1:=h2
  lia
 .unfold ZT
  rw[List.range_eq_range' (n:=m),←hd.len,EE (f:=f) (ps:=(UH cs.length).map V) ws 0 (λi:Nat=>Z6 f V qs (i:Int)) λj o e=>by rw[QX];exact ask j o e];have bn:∀t,O t∈ws->0<=t/\t<cs.length:=λt ht=>by obtain⟨i,hi⟩:=Ud.mp ht;have:=hp.lo _ (hd.wish i t hi);exact⟨this.2.2.1,this.2.2.2⟩
  rw[Nm ws bn,LD _ _ (by rw[Qb,Qp])]
  have e:ZB cs.length (λk=>cs.getD k 0*((UH cs.length).map V).getD k 0)=ZB cs.length λk=>((ws.count (O (k:Int)):Nat):Int)*((UH cs.length).map V).getD k 0:=LF λk hk=>by
   rw[psD k hk];have hc:cs[k]?=O (cs.getD k 0):=by rw[Qn,Qe hk];rfl
   have hle:=hd.cop k _ hc;by_cases z:((ws.count (O (k:Int)):Nat):Int)=cs.getD k 0
   .rw[z]
   .have h1:=st _ ((.left (f:=f) (qs:=qs) hc (by lia)))
    have h1:V k+0<=V cs.length:=h1;have:=v0 k hk;have hz:V k=0:=by lia
    rw[hz,Uj,Uj]
  rw[e]
  lia
def Oi(hp:Zy cs.length m qs)(hd:Zx cs qs m ws)(hin:∀s∈S,IsSt cs f qs ws s)(hall:∀s,IsSt cs f qs ws s->s∈S){V:Nat->Int}(hV:∀p,V p=(ent (Zo (cs.length+1) S (cs.length+1)) p).1)
  (still:∀p,p<cs.length+1->(ent (Zo (cs.length+1) S (cs.length+1)) p).2.length≠cs.length+1):(∀s∈S,V s.a+s.g<=V s.b)/\V cs.length=0:=by
 have hS   :=λs hs=>(hin s hs).lt hp hd;have st:∀s∈S,V s.a+s.g<=V s.b:=λs hs=>by rw[hV,hV];exact wu hS (JN _) still s hs
 have v0:∀p,0<=V p:=λp=>by have:=EG hS (JX (cs.length+1)) p;rw[Ol hS]at this;rw[hV];exact this
 have vn:V cs.length=0:=by
  obtain⟨hw,hg⟩:=Om hS _ cs.length;obtain⟨q,hq⟩:=hw.path;have h1:=jC st hq;rw[hg,←hV]at h1;have h2:=v0 q;by_cases z:q=cs.length
  .lia
  .have hql:q<cs.length:=by
    cases hw2:(ent _ cs.length).2 with
    |nil=>rw[hw2]at hq;cases hq;exact absurd zO z
    |cons s w=>
     rw[hw2]at hq;have:=(hS s hq.step.1).1;rw[←hq.head]at this
     lia
   have h3:=st _ (hall _ (.give hql));have:=v0 cs.length
   lia
 exact⟨st,vn⟩
def FM(hp:Zy cs.length m qs)(hd:Zx cs qs m ws)(hin:∀s∈S,IsSt cs f qs ws s)(hall:∀s,IsSt cs f qs ws s->s∈S){V}(hV:∀p,V p=(ent (Zo (cs.length+1) S (cs.length+1)) p).1)
  (still:∀p,p<cs.length+1->(ent (Zo (cs.length+1) S (cs.length+1)) p).2.length≠cs.length+1) :
  OkP cs.length m (λa b=>f (a,b)) qs 1 ((UH m).map λi:Nat=>Z6 f V qs (i:Int)) ((UH cs.length).map V)/\ZT cs ((UH m).map λi:Nat=>Z6 f V qs (i:Int)) ((UH cs.length).map V)=Kl f 0 ws:=by
 obtain⟨st,vn⟩:=Oi hp hd hin hall hV still;exact ED hp hd (λs hs=>st s (hall s hs)) vn
end
noncomputable def Xh:Option Nat->D
 |some i=>.int i
 |none=>.none
noncomputable def Kh(s:Stp):D:=.tuple [.int s.a,.int s.b,.int s.g,Xh s.w]
noncomputable def YO(x:Int×List Stp):D:=.tuple [.int x.1,.list (x.2.map Kh)]
noncomputable def Kd(V:Int->Int->Int)(q:Int×Int):Int:=V q.1 q.2
def ZR(n:Nat)(f:Int×Int->Int)(ws:LO):List Stp:=(UH ws.length).filterMap λi=>match ws.getD i zP with
 |none=>zP
 |some t=>O ⟨t.toNat,n, -(KD f i (O t)),O i⟩
def ZH(n:Nat)(f:Int×Int->Int)(qs:LP)(ws:LO):List Stp:=qs.filterMap λq=>if ws.getD q.1.toNat zP≠O q.2 then O ⟨plF n (ws.getD q.1.toNat zP),q.2.toNat,f q-KD f q.1.toNat (ws.getD q.1.toNat zP),O q.1.toNat⟩else zP
noncomputable def YJ(cs:zT)(ws:LO):List Stp:=(UH cs.length).filterMap λt=>if 0<cs.getD t 0-((ws.count (O (t:Int)):Nat):Int)then O ⟨t,cs.length,0,zP⟩else zP
noncomputable def Yx(n:Nat):List Stp:=(UH n).map λt=>⟨n,t,0,zP⟩
def Ym(cs:zT)(f:Int×Int->Int)(qs:LP)(ws:LO):List Stp:=ZR cs.length f ws++ZH cs.length f qs ws++(YJ cs ws++Yx cs.length)
def xz{m j}{h h'}(hj:j<m)(e:∀i,i≠j->h' i=h i):(((UH m).map h).map int).set j (.int (h' j))=((UH m).map h').map int:=by
 apply J0;intro i;by_cases z:j=i
 .simp_all
 .rw[Qq z,Qd,Qd,Qd,Qd]
  by_cases hi:i<m
  .rw[QT hi]
   show O _=O _;rw[e i λy=>z y.symm]
  .simp_all
def Np   {j}(hj:j<m):oIx (.list (((UH m).map h).map int)) (.int (j:Int))=O (.int (h j)):=Zv (by rw[Qd,Qd,QT hj];rfl)
section
variable{cs:zT}{ls:L3}{ws:LO}{V:Int->Int->Int}{qs:LP}
def yq{n:Nat}{o}(h:∀t,o=O t->0<=t):Vk [.int n,Ky o]=O (.int (plF n o)):=by
 refine K3  rfl ?_;cases o with
 |none=>exact Kv (HJ (KJ  (x:=PyData.none) (UX zO)) (UX zO)) zO
 |some t=>
  refine Kv (Mg (KJ  (x:=int t) (UX zO)) (UX zO)) ?_;have:=h t zO;show Out.rt (.int t)=Out.rt (.int ((t.toNat)))
  grind
noncomputable def YN(V:Int->Int->Int)(ws:LO)(qs:LP)(i:Nat):Int:=match ws.getD i zP with
 |none=>0
 |some t=>if((i:Int),t)∈qs then V i t else 0
def T9{k:Int}(h0:0<=k)(h1:k<ws.length):oIx (Kp ws) (.int k)=O (Ky (ws.getD k.toNat zP)):=by
 obtain⟨j,rfl⟩:∃j:Nat,k=j:=⟨k.toNat,by lia⟩
 refine Zv ?_;simp_all
noncomputable def Lf   (h:ws[i]?=O o):ws.getD i zP=o:=by simp_all
def xy(hp:Zy cs.length ws.length qs)(hd:Zx cs qs ws.length ws)(hm:ws.length<=1000)(hq1:qs.length<=1000):Tx [.int (cs.length:Nat),.list (qs.map (ZM V)),Kp ws]=O (.list ((ZR cs.length (Kd V) ws++ZH cs.length (Kd V) qs ws).map Kh)):=by
 refine K3 (Z:=[pb (.int (cs.length:Nat)),pb (.list (qs.map (ZM V))),pb (Kp ws),zP,zP,zP,zP,zP]) zO ?_;unfold Rv;have hlen:Kn [Kp ws]=O (.int ws.length):=by show Kn [.list (ws.map Ky)]=_;rw[Zg,Qb]
 have pos:∀i t,ws.getD i zP=O t->i<ws.length/\((i:Int),t)∈qs:=λi t e=>by
  by_cases hi:i<ws.length
  .rw[Qn,Qe hi]at e
   exact⟨hi,hd.wish i t (by rw[Qe hi];exact J5 O e)⟩
  .rw[Qn,Jx (by lia)]at e;cases e
 refine Kq (Z8 (Fp (n:=ws.length) (ZN (U0 Ka U6) (Qa zO)) (Zu zO hlen) hm) (Qa zO) zO) ?_;apply KW;apply ZD (λk Z=>∃x4 x5 x6,Z=[pb (.int (cs.length:Nat)),pb (.list (qs.map (ZM V))),pb (Kp ws),O (.own (((UH ws.length).map (YN V ws (qs.take k))).map int)),x4,x5,x6,zP])
 case h1=>exact Zh (UX zO) Zt
 case h0=>
  refine⟨zP,zP,zP,?_⟩
  have e:((UH ws.length).map (YN V ws (qs.take 0))).map int=UI ws.length (.int 0):=by
   rw[List.eq_replicate_iff];refine⟨by rw[Qb,Qb,Qp],λb hb=>?_⟩;obtain⟨x,hx,rfl⟩:=Qs.mp hb;obtain⟨i,_,rfl⟩:=Qs.mp hx;unfold YN;split
   .rfl
   .rw[if_neg (by rw[List.take_zero];simp)]
  rw[e];rfl
 case hst=>
  rintro k d Z hk ⟨x4,x5,x6,rfl⟩;rw[Qd]at hk;cases hq:qs[k]? with
  |none=>rw[hq]at hk;cases hk
  |some q=>
  rw[hq]at hk;cases hk;have hb:=hp.lo q (Qr hq);refine⟨_,Kr zO (U9 (U4 (Qa zO) zO) (U9 (U4 (Qa zO) zO) (U9 (U4 (Qa zO) zO) Ks))),?_⟩;unfold GW;have aK:qs.take (k+1)=qs.take k++[q]:=by rw[JS,hq];rfl
  apply KE
  case h1=>exact Kf (Kt zO (UX zO) (T9 hb.1 hb.2.1)) (UX zO) (Pb (b:=O q.2))
  case h2=>
   intro hh;have hh:ws.getD q.1.toNat zP=O q.2:=Qa hh;refine Yp (Nf (UX zO) zO (UX zO) zO ⟨hb.1,by rw[Qb,Qb,Qp];exact hb.2.1⟩ zO) (Zd ⟨O (.pub (.int q.1)),pb (.int q.2),pb (.int (V q.1 q.2)),?_⟩)
   have e:=xz (m:=ws.length) (j:=q.1.toNat) (h:=YN V ws (qs.take k)) (h':=YN V ws (qs.take (k+1))) (by lia) λi hne=>by
    unfold YN;cases ws.getD i zP with
    |none=>rfl
    |some t=>
     dsimp only;rw[aK];by_cases z:((i:Int),t)∈qs.take k
     .rw[Qu z,Qu (Q4 _ z)]
     .rw[QJ z,QJ]
      intro y;rcases Qz.mp y with y|y
      .exact z y
      .have:=Qt.mp y
       rw[←this]at hne;exact hne (by show i=((i:Int)).toNat;rw[QQ])
   have ev:YN V ws (qs.take (k+1)) q.1.toNat=V q.1 q.2:=by
    unfold YN;rw[hh];have ei:((q.1.toNat:Nat):Int)=q.1:=by lia
    dsimp only;rw[ei,if_pos (by rw[aK];exact List.mem_append_right _ (by simp))]
   rw[ev]at e;rw[←e];rfl
  case h3=>
   intro hh;have hh:¬ws.getD q.1.toNat zP=O q.2:=Jc hh;refine K1 (Zd ⟨O (.pub (.int q.1)),pb (.int q.2),pb (.int (V q.1 q.2)),?_⟩)
   have e:(UH ws.length).map (YN V ws (qs.take (k+1)))=(UH ws.length).map (YN V ws (qs.take k)):=List.map_congr_left λi _=>by
    unfold YN;cases hw:ws.getD i zP with
    |none=>rfl
    |some t=>
     dsimp only;rw[aK];by_cases z:((i:Int),t)∈qs.take k
     .rw[Qu z,Qu (Q4 _ z)]
     .rw[QJ z,QJ]
      intro y;rcases Qz.mp y with y|y
      .exact z y
      .have y:=Qt.mp y
       rw[←y]at hh;exact hh (by show ws.getD ((i:Int)).toNat zP=O t;rw[QQ];exact hw)
   rw[e];rfl
 case hend=>
  rintro Z ⟨x4,x5,x6,rfl⟩;refine KU ?_;have bn:qs.take (qs.map (ZM V)).length=qs:=by rw[Qb,Je]
  rw[bn]
  have cF:∀i,YN V ws qs i=KD (Kd V) i (ws.getD i zP):=λi=>by
   unfold YN;cases hw:ws.getD i zP with
   |none=>rfl
   |some t=>exact Qu (pos i t hw).2
  have hc:∀y4 y5 y6 y7:Option Sl,Zf (gT 2 (gNC (gN 8) (gNC (gN 9) (gN0)))) (Kb (λd=>!isNon d) (UW 9)) (KN (UZ (UW 9) (UZ (UW 0) (UZ (Yz (U8 3 (UW 8))) (UZ (UW 8) (UY)))))) (Yu 0 (ws.map Ky)) ([pb (.int (cs.length:Nat)),pb (.list (qs.map (ZM V))),pb (Kp ws),pb (.list (((UH ws.length).map (YN V ws qs)).map int)),y4,y5,y6,y7]++UI 2 zP) []=O ((ZR cs.length (Kd V) ws).map Kh):=by
   intro y4 y5 y6 y7
   have em:(ZR cs.length (Kd V) ws).map Kh=((UH ws.length).map λi=>(match ws.getD i zP with|none=>zP|some t=>O (Kh ⟨t.toNat,cs.length, -(KD (Kd V) i (O t)),O i⟩):zU)).filterMap id:=by
    unfold ZR;rw[List.map_filterMap,List.filterMap_map]
    congr 1
    funext i;dsimp only[Function.comp,id];cases ws.getD i zP<;>rfl
   rw[em];refine Nn (λZ=>∃z4 z5 z6 z7 x y,Z=[pb (.int (cs.length:Nat)),pb (.list (qs.map (ZM V))),pb (Kp ws),pb (.list (((UH ws.length).map (YN V ws qs)).map int)),z4,z5,z6,z7,x,y]) _ _ _ _ (by rw[Qb,Qp,YH,Qb]) ?_ ⟨y4,y5,y6,y7,zP,zP,rfl⟩ (by rw[YH,Qb,Qm];lia);rintro i d e hdd he Z ⟨z4,z5,z6,z7,x,y,rfl⟩;obtain⟨z,hz,rfl⟩:=Xo hdd;rw[Qd]at hz;cases hw:ws[i]? with
   |none=>rw[hw]at hz;cases hz
   |some o=>
   rw[hw]at hz;cases hz;have ak:i<ws.length:=(Qg.mp hw).1;have hg:=Lf hw;rw[Qd,QT ak]at he;have he:O (match ws.getD i zP with|none=>zP|some t=>O (Kh ⟨t.toNat,cs.length, -(KD (Kd V) i (O t)),O i⟩):zU)=O e:=he;rw[hg]at he;cases he;rw[QX];refine⟨_,Kr zO (U9 (U4 (Qa zO) zO) (U9 (U4 (Qa zO) zO) Ks)),?_,?_,_,_,_,_,_,_,rfl⟩
   .cases o with
    |none=>exact KJ (k:=λd=>!isNon d) (x:=PyData.none) (UX zO)
    |some t=>exact KJ (k:=λd=>!isNon d) (x:=int t) (UX zO)
   .intro v hv
    cases o with
    |none=>cases hv
    |some t=>
     cases hv;have hb:=hp.lo _ (pos i t hg).2;have et:((t.toNat:Nat):Int)=t:=by have:=hb.2.2.1;lia
     show _=Res.ok (PyData.tuple [.int ((t.toNat:Nat):Int),.int ((cs.length:Nat):Int),.int (-(KD (Kd V) i (O t))),.int (i:Nat)]) _;rw[et,show KD (Kd V) i (O t)=YN V ws qs i by rw[cF,hg]];exact ZU (U0 (UX zO) (U0 (UX zO) (U0 (Sw (Kt zO (UX zO) (Np ak))) (U0 (UX zO) U6)))) (Qa zO)
  have nlS:∀S:List Stp,(S.map Kh).all nl0=zQ:=λS=>Q2.mpr λd hd=>by obtain⟨s,_,rfl⟩:=Qs.mp hd;obtain⟨a,b,g,w⟩:=s;cases w<;>rfl
  have hcl:∀x4 x5 x6:Option Sl,Vw (Za (YR (UZ (UW 2) (UY))) 2 (gT 2 (gNC (gN 8) (gNC (gN 9) (gN0)))) (Kb (λd=>!isNon d) (UW 9)) (KN (UZ (UW 9) (UZ (UW 0) (UZ (Yz (U8 3 (UW 8))) (UZ (UW 8) (UY))))))) [pb (.int (cs.length:Nat)),pb (.list (qs.map (ZM V))),pb (Kp ws),O (.own (((UH ws.length).map (YN V ws qs)).map int)),x4,x5,x6,zP]=.ok ((ZR cs.length (Kd V) ws).map Kh) [pb (.int (cs.length:Nat)),pb (.list (qs.map (ZM V))),pb (Kp ws),O (.own (((UH ws.length).map (YN V ws qs)).map int)),x4,x5,x6,zP]:=λx4 x5 x6=>
   kH (Z':=Yt [pb (.int (cs.length:Nat)),pb (.list (qs.map (ZM V))),pb (Kp ws),O (.own (((UH ws.length).map (YN V ws qs)).map int)),x4,x5,x6,zP]) (Zi (Y9 (U0 (UX zO) U6) Xa) (hc _ _ _ _)) (nlS _)
  refine Kq (Z8 (hcl _ _ _) (Qa zO) zO) ?_;apply KW;apply ZD (λk Z=>∃x4 x5 x6,Z=[pb (.int (cs.length:Nat)),pb (.list (qs.map (ZM V))),pb (Kp ws),O (.own (((UH ws.length).map (YN V ws qs)).map int)),x4,x5,x6,O (.own ((ZR cs.length (Kd V) ws++ZH cs.length (Kd V) (qs.take k) ws).map Kh))])
  case h1=>exact Zh (UX zO) Zt
  case h0=>exact⟨_,_,_,by rw[List.take_zero];show _=[_,_,_,_,_,_,_,O (Sl.own ((ZR cs.length (Kd V) ws++[]).map Kh))];rw[Jg];rfl⟩
  case hst=>
   rintro k d Z hk ⟨x4,x5,x6,rfl⟩;rw[Qd]at hk;cases hq:qs[k]? with
   |none=>rw[hq]at hk;cases hk
   |some q=>
   rw[hq]at hk;cases hk;have hb:=hp.lo q (Qr hq);have aK:qs.take (k+1)=qs.take k++[q]:=by rw[JS,hq];rfl
   have aN:k<qs.length:=(Qg.mp hq).1
   have hsz:((ZR cs.length (Kd V) ws++ZH cs.length (Kd V) (qs.take k) ws).map Kh).length<1000000:=by
    rw[Qb,Qi];have h1:(ZR cs.length (Kd V) ws).length<=ws.length:=by unfold ZR;have:=Jb (λi=>match ws.getD i zP with|none=>zP|some t=>O (⟨t.toNat,cs.length, -(KD (Kd V) i (O t)),O i⟩:Stp)) (UH ws.length);rw[Qp]at this;exact this
    have h2:(ZH cs.length (Kd V) (qs.take k) ws).length<=qs.length:=by unfold ZH;refine QK (Jb _ _) ?_;rw[QY];lia
    lia
   refine⟨_,Kr zO (U9 (U4 (Qa zO) zO) (U9 (U4 (Qa zO) zO) (U9 (U4 (Qa zO) zO) Ks))),?_⟩;unfold GX;have e2:∀r:List Stp,ZH cs.length (Kd V) [q] ws=r->ZH cs.length (Kd V) (qs.take (k+1)) ws=ZH cs.length (Kd V) (qs.take k) ws++r:=λr hr=>by rw[aK];unfold ZH at hr⊢;rw[List.filterMap_append,hr]
   apply KE
   case h1=>exact Kf (Kt zO (UX zO) (T9 hb.1 hb.2.1)) (UX zO) (CW (b:=O q.2))
   case h2=>
    intro hh;have hh:¬ws.getD q.1.toNat zP=O q.2:=by simpa using hh
    have hpl:Vk [.int (cs.length:Nat),Ky (ws.getD q.1.toNat zP)]=O (.int (plF cs.length (ws.getD q.1.toNat zP))):=yq λt e=>by have:=hp.lo _ (pos _ t e).2;exact this.2.2.1
    refine Yp (XT zO (ZU (U0 (Ko (U0 (UX zO) (U0 (Kt zO (UX zO) (T9 hb.1 hb.2.1)) U6)) zO hpl) (U0 (UX zO) (U0 (Kf (UX zO) (T6 zO (UX zO) zO (show oIx _ (.int q.1)=O (.int (YN V ws qs q.1.toNat))from by have:=Np (m:=ws.length) (h:=YN V ws qs) (j:=q.1.toNat) (by lia);rw[show((q.1.toNat:Nat):Int)=q.1 by lia]at this;exact this)) Xp) (U0 (UX zO) U6)))) (Qa zO)) zO hsz zO) (Zd ⟨O (.pub (.int q.1)),pb (.int q.2),pb (.int (V q.1 q.2)),?_⟩);have er:ZH cs.length (Kd V) [q] ws=[⟨plF cs.length (ws.getD q.1.toNat zP),q.2.toNat,Kd V q-KD (Kd V) q.1.toNat (ws.getD q.1.toNat zP),O q.1.toNat⟩]:=by unfold ZH;rw[JE,Qu hh];rfl
    rw[e2 _ er,←Q5,QC (l₂:=[_])];show _=[_,_,_,_,_,_,_,O (Sl.own (_++[PyData.tuple [_,.int ((q.2.toNat:Nat):Int),.int (Kd V q-KD (Kd V) q.1.toNat (ws.getD q.1.toNat zP)),.int ((q.1.toNat:Nat):Int)]]))];rw[show((q.2.toNat:Nat):Int)=q.2 by lia,show((q.1.toNat:Nat):Int)=q.1 by lia,←cF];rfl
   case h3=>
    intro hh;have hh:ws.getD q.1.toNat zP=O q.2:=by simpa using hh
    refine K1 (Zd ⟨O (.pub (.int q.1)),pb (.int q.2),pb (.int (V q.1 q.2)),?_⟩);have er:ZH cs.length (Kd V) [q] ws=[]:=by unfold ZH;rw[List.filterMap_cons,if_neg (by rw[hh];simp)];rfl
    rw[e2 _ er,Jg];rfl
  case hend=>rintro Z ⟨x4,x5,x6,rfl⟩;rw[bn];exact KU (Kv (YC rfl rfl) rfl)
end
section
variable{cs:zT}{ls:L3}{ws:LO}{V:Int->Int->Int}{qs:LP}
def xx(g:Good cs ls)(hm:ws.length=ls.length):Tw [Kz cs ls,Kp ws]=O (.list ((YJ cs ws++Yx cs.length).map Kh)):=by
 refine K3  rfl ?_;unfold Ru;have c6:=g.c6;have aw:Kn [.list (cs.map int)]=O (.int cs.length):=by rw[Zg,Qb]
 refine Kq (KY (Zj (U0 (Kt zO Ka Wl) U6) aw) (Qa zO) zO) ?_;refine Kq (KY (Ko (U0 (UX zO) (U0 (UX zO) U6)) zO (D4 g)) (Qa zO) zO) ?_;have al:(YQ cs ws).length=cs.length:=by unfold YQ;rw[Qb,Qp]
 have hc:Zf (gT 2 (gNC (gN 5) (gNC (gN 6) (gN0)))) (Zp (oIB λi j=>decide (j<i)) 6 (U2 (.int 0))) (KN (UZ (UW 5) (UZ (UW 2) (UZ (U2 (.int 0)) (UZ (U2 .none) (UY)))))) (Yu 0 ((YQ cs ws).map int)) (KR [pb (Kz cs ls),pb (Kp ws),pb (.int cs.length),pb (.list ((YQ cs ws).map int)),zP]++UI 2 zP) []=O ((YJ cs ws).map Kh):=by
  have em:(YJ cs ws).map Kh=((UH cs.length).map λt=>(if 0<cs.getD t 0-((ws.count (O (t:Int)):Nat):Int)then O (Kh ⟨t,cs.length,0,zP⟩)else none:zU)).filterMap id:=by
   unfold YJ;rw[List.map_filterMap,List.filterMap_map]
   congr 1
   funext i;dsimp only[Function.comp,id]
   split<;>rfl
  rw[em];refine Nn (λZ=>∃x y,Z=[pb (Kz cs ls),pb (Kp ws),pb (.int cs.length),pb (.list ((YQ cs ws).map int)),zP,x,y]) _ _ _ _ (by rw[Qb,Qp,YH,Qb,al]) ?_ ⟨zP,zP,rfl⟩ (by rw[YH,Qb,al,Qm];lia);rintro i d e hd he Z ⟨x,y,rfl⟩;obtain⟨z,hz,rfl⟩:=Xo hd;rw[Qd]at hz
  have ak:i<cs.length:=by
   rw[←al];cases hw:(YQ cs ws)[i]? with
   |none=>rw[hw]at hz;cases hz
   |some v=>exact(Qg.mp hw).1
  have hlv:(YQ cs ws)[i]?=O (cs.getD i 0-((ws.count (O (i:Int)):Nat):Int)):=by unfold YQ;rw[Qd,QT ak];rfl
  rw[hlv]at hz;cases hz;rw[Qd,QT ak]at he;cases he;rw[QX];refine⟨_,Kr zO (U9 (U4 (Qa zO) zO) (U9 (U4 (Qa zO) zO) Ks)),?_,?_,_,_,rfl⟩
  .have e:(if 0<cs.getD i 0-((ws.count (O (i:Int)):Nat):Int)then O (Kh ⟨i,cs.length,0,zP⟩)else none:zU).isSome=decide (0<cs.getD i 0-((ws.count (O (i:Int)):Nat):Int)):=by
    by_cases h:0<cs.getD i 0-((ws.count (O (i:Int)):Nat):Int)
    .rw[Qu h,QB h];rfl
    .rw[QJ h,QG h];rfl
   rw[e];exact ZO zO Ka zO
  .intro v hv
   dsimp only at hv;split at hv
   .cases hv
    exact ZU (U0 (UX zO) (U0 (UX zO) (U0 Ka (U0 Ka U6)))) (Qa zO)
   .cases hv
 refine Kq (Z8 (Zi (Y9 (U0 (UX zO) U6) Xa) hc) (Qa zO) zO) ?_;have aZ:(Ys 0 (cs.length:Int)).length=cs.length:=by rw[YZ];lia
 have hc2:∀x4:Option Sl,Zf (gN 5) (U2 zQ) (KN (UZ (UW 2) (UZ (UW 5) (UZ (U2 (.int 0)) (UZ (U2 .none) (UY)))))) (Ys 0 (cs.length:Int)) (KR [pb (Kz cs ls),pb (Kp ws),pb (.int cs.length),pb (.list ((YQ cs ws).map int)),x4]++UI 1 zP) []=O ((Yx cs.length).map Kh):=λx4=>by refine XX (λZ=>∃z x,Z=[pb (Kz cs ls),pb (Kp ws),pb (.int cs.length),pb (.list ((YQ cs ws).map int)),z,x]) _ _ _ _ (by unfold Yx;rw[Qb,Qb,Qp,aZ]) ?_ ⟨_,zP,rfl⟩ (by rw[aZ,Qm];lia);rintro i d e hd he Z ⟨z,x,rfl⟩;obtain⟨rfl,hlt⟩:=XY hd;unfold Yx at he;rw[Qd,Qd,QT (by lia)]at he;cases he;rw[Jj];exact⟨_,U4 (Qa zO) zO,rfl,ZU (U0 (UX zO) (U0 (UX zO) (U0 Ka (U0 Ka U6)))) (Qa zO),_,_,rfl⟩
 have h1:(YJ cs ws).length<=cs.length:=by unfold YJ;have:=Jb (λt=>if 0<cs.getD t 0-((ws.count (O (t:Int)):Nat):Int)then O (⟨t,cs.length,0,zP⟩:Stp)else zP) (UH cs.length);rw[Qp]at this;exact this
 have h2:(Yx cs.length).length=cs.length:=by unfold Yx;rw[Qb,Qp]
 refine Kv (Kf (YC zO zO) (KJ (Zi (Y7 (U0 (UX zO) U6) (Y8 (by lia) (by lia))) (hc2 _))) (Wj (by rw[Qb,Qb];lia))) ?_;rw[QC]
def LI(g:Good cs ls)(hm:ws.length=ls.length)(hp:Zy cs.length ws.length qs)(hd:Zx cs qs ws.length ws)(hq1:qs.length<=1000):Y4 [Kz cs ls,.list (qs.map (ZM V)),Kp ws]=O (.list ((Ym cs (Kd V) qs ws).map Kh)):=by
 refine K3  rfl ?_;have c6:=g.c6;have l7:=g.l7;have aw:Kn [.list (cs.map int)]=O (.int (cs.length:Nat)):=by rw[Zg,Qb]
 have h1:(ZR cs.length (Kd V) ws).length<=ws.length:=by unfold ZR;have:=Jb (λi=>match ws.getD i zP with|none=>zP|some t=>O (⟨t.toNat,cs.length, -(KD (Kd V) i (O t)),O i⟩:Stp)) (UH ws.length);rw[Qp]at this;exact this
 have h2:(ZH cs.length (Kd V) qs ws).length<=qs.length:=by unfold ZH;exact Jb _ _
 have h3:(YJ cs ws).length<=cs.length:=by have:=Jb (λt=>if 0<cs.getD t 0-((ws.count (O (t:Int)):Nat):Int)then O (⟨t,cs.length,0,zP⟩:Stp)else zP) (UH cs.length);rw[Qp]at this;exact this
 have h4:(Yx cs.length).length=cs.length:=by unfold Yx;rw[Qb,Qp]
 refine Kv (Kf (Ko (U0 (Zj (U0 (Kt zO Ka Wl) U6) aw) (U0 (UX zO) (U0 (UX zO) U6))) zO (xy hp hd (by lia) hq1)) (Ko (U0 (UX zO) (U0 (UX zO) U6)) zO (xx g hm)) (Wj (by rw[Qb,Qb,Qi,Qi];lia))) ?_;unfold Ym;rw[QC (l₁:=ZR cs.length (Kd V) ws++ZH cs.length (Kd V) qs ws)]
def xw  : (Ym cs f qs ws).length<=ws.length+qs.length+2*cs.length:=by
 have h1:(ZR cs.length f ws).length<=ws.length:=by have:=Jb (λi=>match ws.getD i zP with|none=>zP|some t=>O (⟨t.toNat,cs.length, -(KD f i (O t)),O i⟩:Stp)) (UH ws.length);rw[Qp]at this;exact this
 have h2:(ZH cs.length f qs ws).length<=qs.length:=by exact Jb _ _
 have h3:(YJ cs ws).length<=cs.length:=by have:=Jb (λt=>if 0<cs.getD t 0-((ws.count (O (t:Int))))then O (⟨t,cs.length,0,zP⟩:Stp)else zP) (UH cs.length);rw[Qp]at this;exact this
 have h4:(Yx cs.length).length=cs.length:=by unfold Yx;rw[Qb,Qp]
 unfold Ym;rw[Qi,Qi,Qi]
 lia
def XU{m:Nat}{f:Int×Int->Int}(hp:Zy cs.length m qs)(hd:Zx cs qs m ws):∀s∈Ym cs f qs ws,IsSt cs f qs ws s:=λs hs=>by
 have gt:∀{i:Nat}{o:zZ},i<ws.length->ws.getD i zP=o->ws[i]?=O o:=λ{i o} hi e=>by rw[Qn,Qe hi]at e;rw[Qe hi];exact J5 O e
 unfold Ym at hs;rcases Qz.mp hs with hs|hs
 .rcases Qz.mp hs with hs|hs
  .unfold ZR at hs
   obtain⟨i,hi,e⟩:=Jo.mp hs;have hi:=QE.mp hi;cases hw:ws.getD i zP with
   |none=>rw[hw]at e;cases e
   |some t=>
    rw[hw]at e;have e:=Ja e;subst e;have:=IsSt.mv (cs:=cs) (f:=f) (qs:=qs) (gt hi hw) (o':=zP) (by intro z;cases z) (λt e=>by cases e);have e2:KD f i zP-KD f i (O t) = -(KD f i (O t)):=by show 0-_=_;lia
    rw[e2]at this;exact this
  .unfold ZH at hs
   obtain⟨q,hq,e⟩:=Jo.mp hs;have hb:=hp.lo q hq;split at e
   .rename_i hne
    have e:=Ja e;subst e;have hi:q.1.toNat<ws.length:=by rw[hd.len];lia
    have ei:((q.1.toNat:Nat):Int)=q.1:=by lia
    have:=IsSt.mv (cs:=cs) (f:=f) (qs:=qs) (gt hi zO) (o':=O q.2) (λz=>hne z.symm) (λt e=>by cases e;rw[ei];exact hq);have e2:KD f q.1.toNat (O q.2)=f q:=by show f (((q.1.toNat:Nat):Int),q.2)=_;rw[ei]
    rw[e2]at this;exact this
   .cases e
 .rcases Qz.mp hs with hs|hs
  .unfold YJ at hs
   obtain⟨t,ht,e⟩:=Jo.mp hs;have ht:=QE.mp ht;split at e
   .rename_i hl
    have e:=Ja e;subst e;exact .left (c:=cs.getD t 0) (by rw[Qn,Qe ht];rfl) (by lia)
   .cases e
  .obtain⟨t,ht,rfl⟩:=Qs.mp hs
   exact .give (QE.mp ht)
def Sd{m:Nat}{f}(hp:Zy cs.length m qs)(hd:Zx cs qs m ws):∀s,IsSt cs f qs ws s->s∈Ym cs f qs ws:=λs hs=>by
 unfold Ym;cases hs with
 |@mv i o o' h hne hq=>
  have hi:i<ws.length:=(Qg.mp h).1;have hg:=Lf h;refine Q4 _ ?_;cases o' with
  |none=>
   refine Q4 _ ?_;cases o with
   |none=>exact absurd zO hne
   |some t=>refine Jo.mpr ⟨i,QE.mpr hi,?_⟩;rw[hg];show O (⟨t.toNat,cs.length, -_,O i⟩:Stp)=O ⟨t.toNat,cs.length,0-KD f i (O t),O i⟩;rw[show(0:Int)-KD f i (O t) = -(KD f i (O t))by lia]
  |some t=>refine QN _ ?_;have hqt:=hq t zO;refine Jo.mpr ⟨((i:Int),t),hqt,?_⟩;dsimp only;rw[QQ,hg,Qu (λz=>hne z.symm)];rfl
 |@left t c h hl=>
  refine QN _ (Q4 _ ?_);have ht:t<cs.length:=(Qg.mp h).1;unfold YJ;refine Jo.mpr ⟨t,QE.mpr ht,?_⟩;have e:cs.getD t 0=c:=by rw[Qn,h];rfl
  rw[e,Qu (by lia)]
 |@give t h=>refine QN _ (QN _ ?_);unfold Yx;exact Qs.mpr ⟨t,QE.mpr h,rfl⟩
end
def HU  {p:Nat}(h:p<W.length):oIx (.list (W.map YO)) (.int (p:Int))=O (YO (ent W p)):=by refine Zv ?_;unfold ent;rw[Qd,Qn,Qe h];rfl
def xu{W:Tab}{S:List Stp}(hS:∀s∈S,s.a<W.length/\s.b<W.length)(hW:∀p,(ent W p).2.length<=1000)(hl:W.length<=1000):Tv [.list (W.map YO),.list (S.map Kh)]=O (.list ((OO W S).map YO)):=by
 refine K3  rfl ?_;unfold Rt;refine Kq (Z8 (M7 zO (show Sm [.list (W.map YO)]=O (W.map YO)from rfl)) (Qa zO) zO) ?_;apply KW;apply ZD (λk Z=>∃x3 x4 x5 x6 x7 x8 x9,Z=[pb (.list (W.map YO)),pb (.list (S.map Kh)),O (.own (((S.take k).foldl (Xl W) W).map YO)),x3,x4,x5,x6,x7,x8,x9])
 case h1=>exact Zh (UX zO) Zt
 case h0=>exact⟨_,_,_,_,_,_,_,rfl⟩
 case hst=>
  rintro k d Z hk ⟨x3,x4,x5,x6,x7,x8,x9,rfl⟩;rw[Qd]at hk;cases hq:S[k]? with
  |none=>rw[hq]at hk;cases hk
  |some s=>
  rw[hq]at hk;cases hk;have hs:=hS s (Qr hq);have aK:S.take (k+1)=S.take k++[s]:=by rw[JS,hq];rfl
  have hfl:(S.take (k+1)).foldl (Xl W) W=Xl W ((S.take k).foldl (Xl W) W) s:=by rw[aK,List.foldl_append];rfl
  have bd:∀(R:List Stp)(T:Tab),(R.foldl (Xl W) T).length=T.length:=λR=>by
   induction R with
   |nil=>intro T;rfl
   |cons x R ih=>intro T;rw[Jy,ih,xB]
  generalize hT:(S.take k).foldl (Xl W) W=T at hfl⊢;have bu:T.length=W.length:=by rw[←hT,bd]
  refine⟨_,U4 (Qa zO) zO,?_⟩;unfold GV;refine Kq (YD (UX zO) (Kr zO (U9 (U4 (Qa zO) zO) (U9 (U4 (Qa zO) zO) (U9 (U4 (Qa zO) zO) (U9 (U4 (Qa zO) zO) Ks)))))) ?_;refine Kq (YD (Kt zO (UX zO) (HU hs.1)) (Kr zO (U9 (U4 (Qa zO) zO) (U9 (U4 (Qa zO) zO) Ks)))) ?_;have i0:oIx (YO (ent T s.b)) (.int 0)=O (.int (ent T s.b).1):=Zv (j:=0) zO;apply KE
  case h1=>exact Kf (Kf (UX zO) (UX zO) Ze) (Kf (T6 zO (UX zO) zO (HU (by rw[bu];exact hs.2))) Ka i0) zO
  case h2=>
   intro hh;have hh:(ent T s.b).1<(ent W s.a).1+s.g:=Qa hh;have hadd:Kg (.list ((ent W s.a).2.map Kh)) (.list [Kh s])=O (.list (((ent W s.a).2++[s]).map Kh)):=by rw[Wj (by rw[Qb];have:=hW s.a;show _+1<=_;lia),QC];rfl
   refine Yp (Nf (ZU (U0 (Kf (UX zO) (UX zO) Ze) (U0 (Kf (UX zO) (ZN (U0 (UX zO) U6) (Qa zO)) hadd) U6)) (Qa zO)) zO (UX zO) zO ⟨Int.natCast_nonneg _,by rw[Qb,bu];have:=hs.2;lia⟩ zO) (Zd ⟨O (.pub (Kh s)),pb (.int s.a),pb (.int s.b),pb (.int s.g),pb (Xh s.w),pb (.int (ent W s.a).1),pb (.list ((ent W s.a).2.map Kh)),?_⟩);rw[hfl];unfold Xl;rw[Qu hh,List.map_set];rw[QQ];rfl
  case h3=>intro hh;have hh:¬(ent T s.b).1<(ent W s.a).1+s.g:=Jc hh;refine K1 (Zd ⟨O (.pub (Kh s)),pb (.int s.a),pb (.int s.b),pb (.int s.g),pb (Xh s.w),pb (.int (ent W s.a).1),pb (.list ((ent W s.a).2.map Kh)),?_⟩);rw[hfl];unfold Xl;rw[QJ hh];rfl
 case hend=>rintro Z ⟨x3,x4,x5,x6,x7,x8,x9,rfl⟩;refine KU (Kv (YC rfl rfl) ?_);rw[Qb,Je];rfl
def EC{n:Nat}{S:List Stp}(hS:∀s∈S,s.a<n/\s.b<n)(hn:n<=100):WI [.int (n:Nat),.list (S.map Kh)]=O (.list ((Zo n S n).map YO)):=by
 refine K3  rfl ?_;unfold Rs;have hmul:KB (.list [.tuple [.int 0,.list []]]) (.int (n:Nat))=O (.list ((Zo n S 0).map YO)):=by rw[O7 (by lia)];unfold Zo;rw[JQ];rfl
 refine Kq (KY (Kf (ZN (U0 (ZU (U0 Ka (U0 (ZN U6 (Qa zO)) U6)) (Qa zO)) U6) (Qa zO)) (UX zO) hmul) (Qa zO) zO) ?_;apply KW;apply ZD (λk Z=>k<=n/\∃x3,Z=[pb (.int (n:Nat)),O _,pb (.list ((Zo n S k).map YO)),x3])
 case h1=>exact Y7 (U0 (UX zO) U6) (Y8 (by lia) (by lia))
 case h0=>exact⟨JX _,_,rfl⟩
 case hst=>rintro k d Z hk ⟨_,x3,rfl⟩;obtain⟨rfl,hlt⟩:=XY hk;refine⟨_,U4 (Qa zO) zO,?_⟩;have hl:=Py hS k;have hlo:=xu (W:=Zo n S k) (S:=S) (by rw[hl];exact hS) (λp=>QK ((NB hS k).1 p) (by lia)) (by rw[hl];lia);exact Yp (KY (Ko (U0 (UX zO) (U0 (UX zO) U6)) zO hlo) (Qa zO) zO) (Zd ⟨by lia,_,rfl⟩)
 case hend=>rintro Z ⟨_,x3,rfl⟩;refine KU (Kv (UX rfl) ?_);rw[YZ,show((n:Int)-0).toNat=n by lia]
def CQ  {i j:Nat}(hij:i<=j)(hj:j<=xs.length):DL.cutD xs (O (i:Int)) (O (j:Int))=(xs.take j).drop i:=by unfold DL.cutD HT.sIx;dsimp only;rw[QJ (by lia),QJ (by lia),QQ,QQ,Ub hj,Ub (show i<=xs.length by lia),List.drop_take]
def zJ{w:List Stp}(hl:w.length<=1000):∃d,Tu [.list (w.map Kh)]=O d/\∃r,d=.list (r.map Kh)/\((HW w/\r=[]) ∨ ∃i j,Mp w i j/\r=(w.take (j+1)).drop i):=by
 refine W2 (Z:=[pb (.list (w.map Kh)),zP,zP,zP]) zO ?_;unfold Rr;apply KW;apply ZD (λk Z=>(∃x1 x2 x3,Z=[pb (.list (w.map Kh)),x1,x2,x3])/\∀j'<k,∀i' ≤ j',∀s t,w[i']?=O s->w[j']?=O t->s.a≠t.b)
 case h1=>exact Y9 (U0 (UX zO) U6) Xa
 case h0=>exact⟨⟨_,_,_,rfl⟩,λj' h=>absurd h (Jq _)⟩
 case hst=>
  rintro k d Z hk ⟨⟨x1,x2,x3,rfl⟩,hb⟩;obtain⟨z,hz,rfl⟩:=Xo hk;rw[Qd]at hz;cases ht:w[k]? with
  |none=>rw[ht]at hz;cases hz
  |some t=>
  rw[ht]at hz;cases hz;have aN:k<w.length:=(Qg.mp ht).1;rw[QX];refine⟨_,Kr zO (U9 (U4 (Qa zO) zO) (U9 (U4 (Qa zO) zO) Ks)),?_⟩;unfold GT;apply ZD (λl Z=>(∃x3,Z=[pb (.list (w.map Kh)),pb (.int (k:Nat)),pb (Kh t),x3])/\∀i'<l,∀s,w[i']?=O s->s.a≠t.b)
  case h1=>exact Y7 (U0 (Kf (UX zO) Ka Ze) U6) (Y8 (by lia) (by lia))
  case h0=>exact⟨⟨_,rfl⟩,λi' h=>absurd h (Jq _)⟩
  case hst=>
   rintro l d Z hl2 ⟨⟨x3,rfl⟩,hc⟩;obtain⟨rfl,hlt⟩:=XY hl2;have hlk:l<=k:=by lia
   obtain⟨s,hs⟩:∃s,w[l]?=O s:=⟨_,Qe (by lia)⟩
   refine⟨_,U4 (Qa zO) zO,?_⟩;have zl:(0:Int)+(l:Int)=l:=by lia
   rw[zl];unfold GU;have il:oIx (.list (w.map Kh)) (.int (l:Int))=O (Kh s):=Zv (by rw[Qd,hs];rfl);have i0:oIx (Kh s) (.int 0)=O (.int s.a):=Zv (j:=0) zO;have i1:oIx (Kh t) (.int 1)=O (.int t.b):=Zv (j:=1) zO;apply KE
   case h1=>exact Kf (Kf (Kt zO (UX zO) il) Ka i0) (Kt zO Ka i1) Yk
   case h2=>
    intro hh;have hh:(s.a:Int)=(t.b:Int):=Qa hh;have aB:Xw (.list (w.map Kh)) (O (l:Int)) (O ((k:Int)+1))=O (.list (((w.take (k+1)).drop l).map Kh)):=by rw[W5,show((k:Int)+1)=((k+1:Nat):Int)by lia,CQ (by lia) (by rw[Qb];lia),List.map_drop,Uw]
    refine Kv (W1 (UX zO) (Xq (UX zO)) (Xq (Kf (UX zO) Ka Ze)) aB) (VI (VI (ZP ⟨_,rfl,_,rfl,.inr ⟨l,k,⟨hlk,aN,λs' t' e1 e2=>?_,hb⟩,rfl⟩⟩)));rw[hs]at e1;rw[ht]at e2;cases e1;cases e2
    lia
   case h3=>
    intro hh;refine K1 (Zd ⟨⟨_,rfl⟩,λi' hi' s' e=>?_⟩);rcases J4.mp hi' with hi'|rfl
    .exact hc i' hi' s' e
    .rw[hs]at e;cases e;lia
  case hend=>
   rintro Z ⟨⟨x3,rfl⟩,hc⟩;refine Zd ⟨⟨_,_,_,rfl⟩,λj' hj' i' hi' s' t' e1 e2=>?_⟩;rcases J4.mp hj' with hj'|rfl
   .exact hb j' hj' i' hi' s' t' e1 e2
   .rw[ht]at e2
    cases e2;exact hc i' (by rw[YZ];lia) s' e1
 case hend=>rintro Z ⟨⟨x1,x2,x3,rfl⟩,hb⟩;refine KU (Kv (ZN U6 (Qa rfl)) ⟨_,rfl,[],rfl,.inl ⟨λj hj=>hb j (by rw[YH,Qb];exact hj),rfl⟩⟩)
def Wn(n:Nat)(s:Stp):Option (Nat×zZ):=s.w.map λi=>(i,ZV n s.b)
noncomputable def Xd(p:Nat×zZ):D:=.tuple [.int (p.1:Nat),Ky p.2]
noncomputable def rot(b:Nat)(r:List Stp):List Stp:=r.drop b++r.take b
def Pr(b)(r):(rot b r).Perm r:=by have:=List.perm_append_comm (l₁:=r.drop b) (l₂:=r.take b);rw[Uc]at this;exact this
def DY{n:Nat}{r:List Stp}(hl:r.length<=1000):∃b,b<=r.length/\((∃s,r[b]?=O s/\s.a=n)∨(b=0/\∀s∈r,s.a≠n))/\X7 [.int (n:Nat),.list (r.map Kh)]=O (.list (((rot b r).filterMap (Wn n)).map Xd)):=by
 have key:∃d,X7 [.int (n:Nat),.list (r.map Kh)]=O d/\∃b,b<=r.length/\((∃s,r[b]?=O s/\s.a=n)∨(b=0/\∀s∈r,s.a≠n))/\d=.list (((rot b r).filterMap (Wn n)).map Xd):=by
  refine W2  rfl ?_;unfold Rq;refine Kq (KY Ka (Qa zO) zO) ?_;apply KW;apply ZD (λk Z=>∃(b:Nat)(x3 x4:Option Sl),Z=[pb (.int (n:Nat)),pb (.list (r.map Kh)),pb (.int (b:Nat)),x3,x4,zP,zP,zP,zP,zP]/\b<=r.length/\((∃s,r[b]?=O s/\s.a=n)∨(b=0/\∀s∈r.take k,s.a≠n)))
  case h1=>exact Y9 (U0 (UX zO) U6) Xa
  case h0=>exact⟨0,_,_,rfl,JX _,.inr ⟨rfl,λs h=>by rw[List.take_zero]at h;cases h⟩⟩
  case hst=>
   rintro k d Z hk ⟨b,x3,x4,rfl,bt,hb⟩;obtain⟨z,hz,rfl⟩:=Xo hk;rw[Qd]at hz;cases ht:r[k]? with
   |none=>rw[ht]at hz;cases hz
   |some t=>
   rw[ht]at hz;cases hz;have aN:k<r.length:=(Qg.mp ht).1;rw[QX];refine⟨_,Kr zO (U9 (U4 (Qa zO) zO) (U9 (U4 (Qa zO) zO) Ks)),?_⟩;unfold GR;have i0:oIx (Kh t) (.int 0)=O (.int t.a):=Zv (j:=0) zO;apply KE
   case h1=>exact Kf (Kt zO Ka i0) (UX zO) Yk
   case h2=>intro hh;have hh:(t.a:Int)=(n:Int):=Qa hh;exact Yp (KY (UX zO) (Qa zO) zO) (Zd ⟨k,_,_,rfl,by lia,.inl ⟨t,ht,by lia⟩⟩)
   case h3=>
    intro hh;have hh:¬(t.a:Int)=(n:Int):=Jc hh;refine K1 (Zd ⟨b,_,_,rfl,bt,?_⟩);rcases hb with hb|⟨hb,hc⟩
    .exact .inl hb
    .refine .inr ⟨hb,λs hs=>?_⟩
     rw[JS,ht]at hs;rcases Qz.mp hs with hs|hs
     .exact hc s hs
     .rw[Qt.mp hs];lia
  case hend=>
   rintro Z ⟨b,x3,x4,rfl,bt,hb⟩;refine KU ?_;have hb':(∃s,r[b]?=O s/\s.a=n)∨(b=0/\∀s∈r,s.a≠n):=by rw[YH,Qb,Je]at hb;exact hb
   refine Kq (Z8 (W3 U6 (Qa zO)) (Qa zO) zO) ?_;have c1:Xw (.list (r.map Kh)) (O (b:Int)) zP=O (.list ((r.drop b).map Kh)):=by rw[W5,xm (by rw[Qb];exact bt),List.map_drop]
   have c2:Xw (.list (r.map Kh)) zP (O (b:Int))=O (.list ((r.take b).map Kh)):=by rw[W5,CV (by rw[Qb];exact bt),Uw]
   have c3:Kg (.list ((r.drop b).map Kh)) (.list ((r.take b).map Kh))=O (.list ((rot b r).map Kh)):=by rw[Wj (by rw[Qb,Qb,Q8,QY];lia)];unfold rot;rw[QC]
   apply KW;apply ZD (λk Z=>∃x6 x7 x8 x9,Z=[pb (.int (n:Nat)),pb (.list (r.map Kh)),pb (.int (b:Nat)),x3,x4,O (.own ((((rot b r).take k).filterMap (Wn n)).map Xd)),x6,x7,x8,x9])
   case h1=>exact Zh (Kf (W1 (UX zO) (Xq (UX zO)) Ka c1) (W1 (UX zO) Ka (Xq (UX zO)) c2) c3) Zt
   case h0=>exact⟨_,_,_,_,rfl⟩
   case hst=>
    rintro k d Z hk ⟨x6,x7,x8,x9,rfl⟩;rw[Qd]at hk;cases hq:(rot b r)[k]? with
    |none=>rw[hq]at hk;cases hk
    |some s=>
    rw[hq]at hk;cases hk;have aN:k<(rot b r).length:=(Qg.mp hq).1;have aZ:(rot b r).length=r.length:=(Pr b r).length_eq;have aK:(rot b r).take (k+1)=(rot b r).take k++[s]:=by rw[JS,hq];rfl
    refine⟨_,Kr zO (U9 (U4 (Qa zO) zO) (U9 (U4 (Qa zO) zO) (U9 (U4 (Qa zO) zO) (U9 (U4 (Qa zO) zO) Ks)))),?_⟩;unfold GS
    have hsz:((((rot b r).take k).filterMap (Wn n)).map Xd).length<1000000:=by
     rw[Qb];have:=Jb (Wn n) ((rot b r).take k);rw[QY]at this
     lia
    cases hw:s.w with
    |none=>
     apply KE
     case h1=>exact KJ (k:=λd=>!isNon d) (x:=Xh zP) (UX zO)
     case h2=>intro hh;cases hh
     case h3=>
      intro _;refine K1 (Zd ⟨O (.pub (.int s.a)),pb (.int s.b),pb (.int s.g),pb (Xh zP),?_⟩);rw[aK,List.filterMap_append];have:[s].filterMap (Wn n)=[]:=by unfold Wn;rw[JE,hw];rfl
      rw[this,Jg];rfl
    |some i=>
     apply KE
     case h1=>exact KJ (k:=λd=>!isNon d) (x:=Xh (O i)) (UX zO)
     case h3=>intro hh;cases hh
     case h2=>
      intro _
      have htest:∀Z:U5,Z[7]?=O (O (.pub (.int (s.b:Int))))->Z[0]?=O (O (.pub (.int (n:Int))))->mIf (Zp oEq 7 (UW 0)) (U2 .none) (UW 7) Z=.ok (Ky (ZV n s.b)) Z:=λZ h7 h0=>by
       unfold ZV;by_cases z:s.b=n
       .rw[Qu z]
        exact HJ (ZO h7 (UX h0) (by rw[Yk,QB (by rw[z])])) Ka
       .rw[QJ z]
        exact Mg (ZO h7 (UX h0) (by rw[Yk,QG (by lia)])) (UX h7)
      refine Yp (XT zO (ZU (U0 (UX zO) (U0 (htest _ zO zO) U6)) (Qa zO)) zO hsz zO) (Zd ⟨O (.pub (.int s.a)),pb (.int s.b),pb (.int s.g),pb (Xh (O i)),?_⟩);rw[aK,List.filterMap_append];have:[s].filterMap (Wn n)=[(i,ZV n s.b)]:=by unfold Wn;rw[JE,hw];rfl
      rw[this,QC];rfl
   case hend=>rintro Z ⟨x6,x7,x8,x9,rfl⟩;refine KU (Kv (YC rfl rfl) ⟨_,rfl,b,bt,hb',?_⟩);rw[Qb,Je]
 obtain⟨d,e,b,h1,h2,rfl⟩:=key;exact⟨b,h1,h2,e⟩
theorem Nl(n):∀(R:List Stp)(d),(R.filterMap (Wn n)).foldl (λd p=>d.set p.1 p.2) d=R.foldl (app n) d
 |[],d=>rfl
 |s::R,d=>by
  rw[Jy,JE];unfold Wn app;cases s.w with
  |none=>exact Nl n R d
  |some i=>exact Nl n R _
def EB{ws:LO}{tk:List (Nat×zZ)}(h:∀p∈tk,p.1<ws.length):WJ [Kp ws,.list (tk.map Xd)]=O (Kp (tk.foldl (λd p=>d.set p.1 p.2) ws)):=by
 refine K3  rfl ?_;unfold Rw;refine Kq (Z8 (M7 zO (rfl)) (Qa zO) zO) ?_
 have hlen:∀(R:List (Nat×zZ))(d:LO),(R.foldl (λd p=>d.set p.1 p.2) d).length=d.length:=λR=>by
  induction R with
  |nil=>intro d;rfl
  |cons p R ih=>intro d;rw[Jy,ih,Jf]
 apply KW;apply ZD (λk Z=>∃x3 x4,Z=[pb (Kp ws),O _,O (.own (((tk.take k).foldl (λd p=>d.set p.1 p.2) ws).map Ky)),x3,x4])
 case h1=>exact Zh (UX zO) Zt
 case h0=>exact⟨_,_,rfl⟩
 case hst=>
  rintro k d Z hk ⟨x3,x4,rfl⟩;rw[Qd]at hk;cases hq:tk[k]? with
  |none=>rw[hq]at hk;cases hk
  |some p=>
  rw[hq]at hk;cases hk;have hpl:=h p (Qr hq);have aK:tk.take (k+1)=tk.take k++[p]:=by rw[JS,hq];rfl
  refine⟨_,Kr zO (U9 (U4 (Qa zO) zO) (U9 (U4 (Qa zO) zO) Ks)),?_⟩;unfold GP;refine Yp (Nf (UX zO) zO (UX zO) zO ⟨Int.natCast_nonneg _,by rw[Qb,hlen];lia⟩ zO) (Zd ⟨O (.pub (.int (p.1:Nat))),pb (Ky p.2),?_⟩);rw[aK,List.foldl_append];show [_,_,O _,_,_]=[_,_,O (Sl.own ((((tk.take k).foldl (λd p=>d.set p.1 p.2) ws).set p.1 p.2).map Ky)),_,_];rw[QQ,List.map_set]
 case hend=>rintro Z ⟨x3,x4,rfl⟩;refine KU (Kv (YC rfl rfl) ?_);rw[Qb,Je];rfl
def T5(cs:zT)(f:Int×Int->Int)(qs:LP)(ws:LO):Prop:=∀p,p<cs.length+1->(ent (Zo (cs.length+1) (Ym cs f qs ws) (cs.length+1)) p).2.length≠cs.length+1
structure OE(cs:zT)(f:Int×Int->Int)(qs:LP)(ws:LO)(r:List Stp)(b:Nat):Prop where
 rnd:∃x,Path (Ym cs f qs ws) x r x
 nd:(r.map Stp.a).Nodup
 pos:0<K0 r
 bl:b<=r.length
 bat:(∃s,r[b]?=O s/\s.a=cs.length)∨(b=0/\∀s∈r,s.a≠cs.length)
def YI(n b:Nat)(r:List Stp):List (Nat×zZ):=(rot b r).filterMap (Wn n)
def SF(s)(R):K0 (s::R)=s.g+K0 R:=by show K0 ([s]++R)=_;rw[VT,Ps]
def EA  (h:u.Perm v):K0 u=K0 v:=by
 induction h with
 |nil=>rfl
 |cons x _ ih=>rw[SF,SF,ih]
 |swap x y l=>rw[SF,SF,SF,SF];lia
 |trans _ _ ih1 bZ=>simp_all
def xr  (h:∀s∈R,s.g=0):K0 R=0:=by
 induction R with
 |nil=>rfl
 |cons s R ih=>
  have e:K0 (s::R)=s.g+K0 R:=by show K0 ([s]++R)=_;rw[VT,Ps]
  rw[e,h s Ql,ih λx hx=>h x (Qk _ hx)];rfl
section
variable{cs:zT}{ls:L3}{ws:LO}{V:Int->Int->Int}{qs:LP}{f:Int×Int->Int}{m:Nat}
def OE.does(hp:Zy cs.length m qs)(hd:Zx cs qs m ws){r}{b:Nat}(h:OE cs f qs ws r b):Zx cs qs m ((YI cs.length b r).foldl (λd p=>d.set p.1 p.2) ws)/\Kl f 0 ((YI cs.length b r).foldl (λd p=>d.set p.1 p.2) ws)=Kl f 0 ws+K0 r/\YI cs.length b r≠[]/\∀p∈YI cs.length b r,p.1<ws.length:=by
 obtain⟨x,hx⟩:=h.rnd;have hin   :=λs hs=>XU hp hd s (hx.mem s hs);have pr:=Pr b r;have cx   :=λs hs=>hin s (pr.mem_iff.mp hs);have ndR   :=(pr.map Stp.a).nodup_iff.mpr h.nd;have pbR   :=((pr.map Stp.b).trans (LB hx)).trans (pr.map Stp.a).symm
 obtain⟨h1,h2⟩:=FN hp hd cx ndR pbR;unfold YI;rw[Nl];refine⟨h1,by rw[h2,EA pr],λz=>?_,λp bQ=>?_⟩
 .have   :=xr λs hs=>by
   have hw   :=by have:=List.filterMap_eq_nil_iff.mp z s (pr.mem_iff.mpr hs);exact this
   cases hin s hs with
   |mv _ _ _=>cases hw
   |left _ _=>rfl
   |give _=>rfl
  have:=h.pos
  lia
 .obtain⟨s,hs,e⟩:=Jo.mp bQ
  cases cx s hs with
  |@mv i o o' hw _ _=>cases e;exact(Qg.mp hw).1
  |left _ _=>cases e
  |give _=>cases e
def Do(g:Good cs ls)(hm:ws.length=ls.length)(hp:Zy cs.length ws.length qs)(hd:Zx cs qs ws.length ws)(hq1:qs.length<=500):∃d,Vj [Kz cs ls,.list (qs.map (ZM V)),Kp ws]=O d/\((d=.list []/\T5 cs (Kd V) qs ws) ∨ ∃r b,d=.list ((YI cs.length b r).map Xd)/\OE cs (Kd V) qs ws r b):=by
 refine W2  rfl ?_;unfold Rp;have c6:=g.c6;have l7:=g.l7;have aw:Kn [.list (cs.map int)]=O (.int cs.length):=by rw[Zg,Qb]
 have hS:∀s∈Ym cs (Kd V) qs ws,s.a<cs.length+1/\s.b<cs.length+1:=λs hs=>(XU hp hd s hs).lt hp hd;have hwd:=EC hS (by lia)
 have bx:=LI (V:=V) g hm hp hd (by lia);refine Kq (KY (Zj (U0 (Kt zO Ka Wl) U6) aw) (Qa zO) zO) ?_;have hadd:Kg (.int (cs.length:Int)) (.int 1)=O (.int ((cs.length+1:Nat):Int)):=by rw[Ze];rfl
 apply KW;apply ZD (λk Z=>(∃x4 x5,Z=[pb (Kz cs ls),pb (.list (qs.map (ZM V))),pb (Kp ws),pb (.int cs.length),x4,x5])/\∀p<k,(ent (Zo (cs.length+1) (Ym cs (Kd V) qs ws) (cs.length+1)) p).2.length≠cs.length+1)
 case h1=>exact Zh (Ko (U0 (Kf (UX zO) Ka hadd) (U0 (Ko (U0 (UX zO) (U0 (UX zO) (U0 (UX zO) U6))) zO bx) U6)) zO hwd) Zt
 case h0=>exact⟨⟨_,_,rfl⟩,λp h=>absurd h (Jq _)⟩
 case hst=>
  rintro k d Z hk ⟨⟨x4,x5,rfl⟩,hb⟩;rw[Qd]at hk;cases hq:(Zo (cs.length+1) (Ym cs (Kd V) qs ws) (cs.length+1))[k]? with
  |none=>rw[hq]at hk;cases hk
  |some e=>
  rw[hq]at hk;cases hk;have he:ent (Zo (cs.length+1) (Ym cs (Kd V) qs ws) (cs.length+1)) k=e:=by unfold ent;rw[Qn,hq];rfl
  refine⟨_,Kr zO (U9 (U4 (Qa zO) zO) (U9 (U4 (Qa zO) zO) Ks)),?_⟩;unfold GQ;have ci:Kn [.list (e.2.map Kh)]=O (.int e.2.length):=by rw[Zg,Qb]
  apply KE
  case h1=>exact Kf (Zu zO ci) (Kf (UX zO) Ka hadd) Yk
  case h2=>
   intro hh;have hh:((e.2.length:Nat):Int)=((cs.length+1:Nat):Int):=Qa hh;have hlen:e.2.length=cs.length+1:=by lia
   obtain⟨d,hrw,r,rfl,hr⟩:=zJ (w:=e.2) (by lia);have b7:=Om hS (cs.length+1) k;rw[he]at b7;obtain⟨q,bp⟩:=b7.1.path;rcases hr with ⟨hno,rfl⟩|⟨i,j,hra,rfl⟩
   .exact absurd hno (FP hS bp (by lia) (JN _))
   .have hlr:((e.2.take (j+1)).drop i).length<=1000:=by rw[Q8,QY];lia
    obtain⟨b,bt,cD,bw⟩:=DY (n:=cs.length) hlr;have hrg:=wt hS (JN _) (p:=k) (by rw[he];exact hlen) (by rw[he];exact hra);rw[he]at hrg;obtain⟨x,hx,hgp⟩:=hrg;exact Kv (Ko (U0 (UX zO) (U0 (Ko (U0 (UX zO) U6) zO hrw) U6)) zO bw) (VI (ZP ⟨_,rfl,.inr ⟨_,b,rfl,⟨⟨x,hx⟩,yr bp hra,hgp,bt,cD⟩⟩⟩))
  case h3=>
   intro hh;refine K1 (Zd ⟨⟨_,_,rfl⟩,λp cg=>?_⟩);rcases J4.mp cg with cg|rfl
   .exact hb p cg
   .rw[he];lia
 case hend=>rintro Z ⟨⟨x4,x5,rfl⟩,hb⟩;refine KU (Kv (ZN U6 (Qa rfl)) ⟨_,rfl,.inl ⟨rfl,λp hpn=>hb p ?_⟩⟩);rw[Qb,Py hS];exact hpn
theorem Mo{M:Int}(be:0<=M)(hM:∀q∈qs,f q<=M):∀(ws)(k:Nat),(∀(i:Nat) t,ws[i]?=O (O t)->(((k+i:Nat):Int),t)∈qs)->Kl f k ws<=ws.length*M
 |[],k,_=>by show(0)<=((0:Nat))*M;rw[show(((0:Nat)):Int)=0 from rfl,Int.zero_mul];exact Jd _
 |o::ws,k,h=>by
  have ih:=Mo be hM ws (k+1) λi t e=>by have:=h (i+1) t (by simpa using e);rw[show k+1+i=k+(i+1)by lia];exact this
  have h0:KD f k o<=M:=by
   cases o with
   |none=>exact be
   |some t=>exact hM _ (by have:=h 0 t zO;exact this)
  rw[QU];show KD f k o+Kl f (k+1) ws<=_
  lia
theorem Ez(g:Good cs ls)(hm:m=ls.length)(hp:Zy cs.length m qs)(hq1:qs.length<=500){M:Int}(be:0<=M)(hM:∀q∈qs,Kd V q<=M):∀(N:Nat)(ws:LO)(d:D),Zx cs qs m ws->((d=.list []/\T5 cs (Kd V) qs ws) ∨ ∃r b,d=.list ((YI cs.length b r).map Xd)/\OE cs (Kd V) qs ws r b) ->
  (m*M-Kl (Kd V) 0 ws<N)->∃aX,Zx cs qs m aX/\T5 cs (Kd V) qs aX/\Wo (Nb (UW 3)) O8 N [pb (Kz cs ls),pb (.list (qs.map (ZM V))),pb (Kp ws),pb d]=.nx [pb (Kz cs ls),pb (.list (qs.map (ZM V))),pb (Kp aX),pb (.list [])]
 |0,ws,d,hd,_,hN=>by have:=Mo be hM ws 0 (λi t e=>by rw[QX];exact hd.wish i t e);rw[hd.len]at this;exact absurd hN (by lia)
 |N+1,ws,d,hd,hg,hN=>by
  rcases hg with ⟨rfl,hst⟩|⟨r,b,rfl,hgr⟩
  .refine⟨ws,hd,hst,?_⟩
   unfold Wo;rfl
  .obtain⟨h1,h2,h3,h4⟩:=hgr.does hp hd
   generalize hws':(YI cs.length b r).foldl (λd p=>d.set p.1 p.2) ws=aX at h1 h2;have aG:=EB h4;rw[hws']at aG;obtain⟨d',hgw,hg'⟩:=Do (V:=V) (ws:=aX) g (by rw[h1.len,hm]) (by rw[h1.len];exact hp) (by rw[h1.len];exact h1) hq1;obtain⟨ws2,k1,k2,k3⟩:=Ez g hm hp hq1 be hM N aX d' h1 hg' (by have:=hgr.pos;lia);refine⟨ws2,k1,k2,?_⟩;unfold Wo;rw[xZ  (UX zO)]
   have hne:(!((YI cs.length b r).map Xd).isEmpty)=zQ:=by
    cases hw:YI cs.length b r with
    |nil=>exact absurd hw h3
    |cons _ _=>rfl
   dsimp only;rw[Qu hne];have hb:Ho O8 [pb (Kz cs ls),pb (.list (qs.map (ZM V))),pb (Kp ws),pb (.list ((YI cs.length b r).map Xd))] (λo=>o=.nx [pb (Kz cs ls),pb (.list (qs.map (ZM V))),pb (Kp aX),pb d']):=by unfold O8;refine Kq (KY (Ko (U0 (UX zO) (U0 (UX zO) U6)) zO aG) (Qa zO) zO) ?_;exact Yp (KY (Ko (U0 (UX zO) (U0 (UX zO) (U0 (UX zO) U6))) zO hgw) (Qa zO) zO) zO
   rw[hb.out];exact k3
def Dm(g:Good cs ls)(hp:Zy cs.length ls.length qs)(hq1:qs.length<=500){M:Int}(be:0<=M)(hM:∀q∈qs,Kd V q<=M)(hF:ls.length*M<10 ^ 60):∃d,WH [Kz cs ls,.list (qs.map (ZM V))]=O d/\∃ws,d=Kp ws/\Zx cs qs ls.length ws/\T5 cs (Kd V) qs ws:=by
 refine W2  rfl ?_;unfold Ro;have l7:=g.l7;have al:Kn [.list (ls.map Zm)]=O (.int (ls.length:Nat)):=by rw[Zg,Qb]
 let ws0:LO:=UI ls.length zP
 have hmul:KB (.list [.none]) (.int (ls.length:Nat))=O (Kp ws0):=by rw[O7 (by lia)];show _=O (UJ _);rw[JQ];rfl
 have hd0:Zx cs qs ls.length ws0:=⟨by show(UI _ _).length=_;rw[QO],(λi t h=>by
  rw[QA]at h;split at h
  .cases h
  .cases h),λk c e=>by
  have h0:ws0.count (O (k:Int))=0:=List.count_eq_zero.mpr λh=>by cases (List.mem_replicate.mp h).2
  rw[h0];have:=g.c7 c (Qr e)
  show(0:Int)<=c
  lia⟩
 refine Kq (KY (Kf (ZN (U0 Ka U6) (Qa zO)) (Zj (U0 (Kt zO Ka XS) U6) al) hmul) (Qa zO) zO) ?_;obtain⟨d',hgw,hg'⟩:=Do (V:=V) (ws:=ws0) g hd0.len (by rw[hd0.len];exact hp) (by rw[hd0.len];exact hd0) hq1;refine Kq (KY (Ko (U0 (UX zO) (U0 (UX zO) (U0 (UX zO) U6))) zO hgw) (Qa zO) zO) ?_
 have h0:∀(n k:Nat),Kl (Kd V) k (UI n zP)=0:=λn=>by
  induction n with
  |zero=>intro k;rfl
  |succ n ih=>intro k;rw[List.replicate_succ];show 0+Kl (Kd V) (k+1) (UI n zP)=0;rw[ih];rfl
 have hfu:ls.length*M-Kl (Kd V) 0 ws0<(Vr:Nat):=by
  have e:Kl (Kd V) 0 ws0=0:=h0 _ _;have e2:((Vr:Nat):Int)=10 ^ 60:=by unfold Vr;rfl
  rw[e,e2]
  lia
 obtain⟨aX,k1,k2,k3⟩:=Ez g zO hp hq1 be hM Vr ws0 d' hd0 hg' hfu;refine Kq k3 ?_;exact Kv (UX zO) ⟨_,rfl,aX,rfl,k1,k2⟩
end
section
variable{cs:zT}{ls:L3}{as ps:zT}
def HS(g:Good cs ls):(Ke 0 ls).length<=42:=by rw[(SG ls 0).length_eq];exact Od g
end
theorem FL  {ps:zT}:∀(ws)(as:zT)(k:Nat),as.length=ws.length->(∀a∈as,0<=a)->(∀(i:Nat) t,ws[i]?=O (O t)->f (((k+i:Nat):Int),t)<=as.getD i 0+ps.getD t.toNat 0)->Kl f k ws<=as.sum+pz ps ws
 |[],[],k,_,_,_=>by show(0:Int)<=0+0;lia
 |o::ws,a::as,k,hl,ha,h=>by
  have ih:=FL (f:=f) (ps:=ps) ws as (k+1) (by simpa using hl) (λx hx=>ha x (List.mem_cons_of_mem _ hx)) λi t e=>by have:=h (i+1) t (by simpa using e);rw[show k+1+i=k+(i+1)by lia];simpa using this
  have h0:=ha a Ql;cases o with
  |none=>
   show 0+Kl f (k+1) ws<=a+as.sum+(0+pz ps ws)
   lia
  |some t=>
   have h1:=h 0 t zO;have h1:f ((k:Int),t)<=a+ps.getD t.toNat 0:=by simpa using h1
   show f ((k:Int),t)+Kl f (k+1) ws<=a+as.sum+(ps.getD t.toNat 0+pz ps ws)
   lia
 |[],_::_,_,hl,_,_=>by cases hl
 |_::_,[],_,hl,_,_=>by cases hl
section
variable{cs:zT}{ls:L3}{ws:LO}{qs:LP}{f:Int×Int->Int}{m:Nat}{as ps:zT}
def xq(hp:Zy cs.length m qs)(hd:Zx cs qs m ws)(ok:OkP cs.length m (λa b=>f (a,b)) qs 1 as ps):Kl f 0 ws<=ZT cs as ps:=by
 have h1:=FL (f:=f) (ps:=ps) ws as 0 (by rw[ok.la,hd.len]) ok.aa λi t e=>by have:=ok.le _ (hd.wish i t e);rw[QX];rw[Int.one_mul]at this;exact this
 have bn:∀t,O t∈ws->0<=t/\t<cs.length:=λt ht=>by obtain⟨i,hi⟩:=Ud.mp ht;have:=hp.lo _ (hd.wish i t hi);exact⟨this.2.2.1,this.2.2.2⟩
 rw[Nm ws bn]at h1;unfold ZT;rw[LD _ _ ok.lp]
 have h2   :=Pq _ λk hk=>by
  have hc:cs[k]?=O (cs.getD k 0):=by rw[Qn,Qe hk];rfl
  have hk2:0<=ps.getD k 0:=by rw[Qn,Qe (by rw[ok.lp];exact hk)];exact ok.pp _ (JI _)
  exact Int.mul_le_mul_of_nonneg_right (hd.cop k _ hc) hk2
 lia
def wp(hp:Zy cs.length m qs)(hd:Zx cs qs m ws)(st:T5 cs f qs ws){us}(hu:Zx cs qs m us):Kl f 0 us<=Kl f 0 ws:=by obtain⟨ok,e⟩:=FM hp hd (XU hp hd) (Sd hp hd)  (λ_=>rfl) st;have:=xq hp hu ok;simp_all
end
section
variable{cs:zT}{ls:L3}{ws:LO}{qs:LP}{V:Int->Int->Int}
def prW(cs:zT)(f:Int×Int->Int)(qs:LP)(ws:LO)(p:Nat):Int:=(ent (Zo (cs.length+1) (Ym cs f qs ws) (cs.length+1)) p).1
def Ey(g:Good cs ls)(hp:Zy cs.length ls.length qs)(hd:Zx cs qs ls.length ws)(hq1:qs.length<=500):WG [Kz cs ls,.list (qs.map (ZM V)),Kp ws]=O (.list (((UH cs.length).map (prW cs (Kd V) qs ws)).map int)):=by
 refine K3  rfl ?_;unfold Rn;have c6:=g.c6;have hS:∀s∈Ym cs (Kd V) qs ws,s.a<cs.length+1/\s.b<cs.length+1:=λs hs=>(XU hp hd s hs).lt hp hd;have aw:Kn [.list (cs.map int)]=O (.int cs.length):=by rw[Zg,Qb]
 have has:Y4 [Kz cs ls,.list (qs.map (ZM V)),Kp ws]=O (.list ((Ym cs (Kd V) qs ws).map Kh)):=LI g hd.len (by rw[hd.len];exact hp) (by rw[hd.len];exact hd) (by lia);have hwd:=EC hS (by lia);generalize hT:Zo (cs.length+1) (Ym cs (Kd V) qs ws) (cs.length+1)=T at hwd;have bd:T.length=cs.length+1:=by rw[←hT];exact Py hS _
 refine Kq (KY (Zj (U0 (Kt zO Ka Wl) U6) aw) (Qa zO) zO) ?_;refine Kq (KY (Ko (U0 (Kf (UX zO) Ka Ze) (U0 (Ko (U0 (UX zO) (U0 (UX zO) (U0 (UX zO) U6))) zO has) U6)) zO hwd) (Qa zO) zO) ?_
 have hcd:DL.cutD (T.map YO) zP (O (cs.length:Int))=(T.take cs.length).map YO:=by
  have h2:HT.sIx (T.map YO).length (T.map YO).length (O (cs.length:Int))=cs.length:=by
   rw[Qb,bd];unfold HT.sIx;simp
   lia
  unfold DL.cutD;rw[h2,show HT.sIx (T.map YO).length 0 zP=0 from rfl,List.drop_zero,Nat.sub_zero,Uw]
 have aB:Xw (.list (T.map YO)) zP (O (cs.length:Int))=O (.list ((T.take cs.length).map YO)):=by rw[W5,hcd]
 have hc:Zf (gT 2 (gNC (gN 5) (gNC (gN 6) (gN0)))) (U2 zQ) (UW 5) ((T.take cs.length).map YO) (KR [pb (Kz cs ls),pb (.list (qs.map (ZM V))),pb (Kp ws),pb (.int cs.length),pb (.list (T.map YO))]++UI 2 zP) []=O ([]++((UH cs.length).map (prW cs (Kd V) qs ws)).map int):=by
  refine XX (λZ=>∃x y,Z=[pb (Kz cs ls),pb (.list (qs.map (ZM V))),pb (Kp ws),pb (.int cs.length),pb (.list (T.map YO)),x,y]) _ _ _ _ ?_ ?_ ⟨zP,zP,rfl⟩ ?_
  .rw[Qb,Qb,Qb,QY,Qp];lia
  .rintro i d e hd' he Z ⟨x,y,rfl⟩
   rw[Qd,Qd]at he
   have ak:i<cs.length:=by
    have:=(Qg.mp hd').1;rw[Qb,QY]at this
    lia
   rw[QT ak]at he;cases he;rw[Qd,List.getElem?_take_of_lt ak,Qe (by lia)]at hd';cases hd';have hv:prW cs (Kd V) qs ws i=T[i].1:=by unfold prW ent;rw[hT,Qn,Qe (by lia)];rfl
   rw[hv];exact⟨_,Kr zO (U9 (U4 (Qa zO) zO) (U9 (U4 (Qa zO) zO) Ks)),rfl,UX zO,_,_,rfl⟩
  .rw[Qm,Qb,QY];lia
 exact Kv (KJ (Zi (Zh (W1 (UX zO) Ka (Xq (UX zO)) aB) Zt) hc)) zO
def HR{n m:Nat}(hp:Zy n m qs)(hm:m<=1000)(P:Nat->Int):WF [.int (m:Nat),.list (qs.map (ZM V)),.list (((UH n).map P).map int)]=O (.list (((UH m).map λi:Nat=>Z6 (Kd V) P qs (i:Int)).map int)):=by
 refine K3  rfl ?_;unfold Rm;refine Kq (Z8 (Fp (n:=m) (ZN (U0 Ka U6) (Qa zO)) (UX zO) hm) (Qa zO) zO) ?_;apply KW;apply ZD (λk Z=>∃x4 x5 x6,Z=[pb (.int (m:Nat)),pb (.list (qs.map (ZM V))),pb (.list (((UH n).map P).map int)),O (.own (((UH m).map λi:Nat=>Z6 (Kd V) P (qs.take k) (i:Int)).map int)),x4,x5,x6])
 case h1=>exact Zh (UX zO) Zt
 case h0=>
  refine⟨zP,zP,zP,?_⟩
  have e:(UI m (int 0))=((UH m).map λi:Nat=>Z6 (Kd V) P (qs.take 0) (i:Int)).map int:=by
   rw[QL];apply List.ext_getElem
   .rw[QO,Qb,Qp]
   .intro i h1 h2
    rw[List.getElem_replicate,J8];rfl
  rw[←e];rfl
 case hst=>
  rintro k d Z hk ⟨x4,x5,x6,rfl⟩;rw[Qd]at hk;cases hq:qs[k]? with
  |none=>rw[hq]at hk;cases hk
  |some q=>
  rw[hq]at hk;cases hk;have hb:=hp.lo q (Qr hq);obtain⟨⟨a,ha⟩,⟨t,ht⟩⟩:(∃a:Nat,q.1=a)/\∃t:Nat,q.2=t:=⟨⟨q.1.toNat,by lia⟩,⟨q.2.toNat,by lia⟩⟩
  have ham:a<m:=by lia
  have htn:t<n:=by lia
  refine⟨_,Kr zO (U9 (U4 (Qa zO) zO) (U9 (U4 (Qa zO) zO) (U9 (U4 (Qa zO) zO) Ks))),?_⟩;unfold GY;have h1:oIx (.list (((UH m).map λi:Nat=>Z6 (Kd V) P (qs.take k) (i:Int)).map int)) (.int q.1)=O (.int (Z6 (Kd V) P (qs.take k) (a:Int))):=by rw[ha];exact Zv (by rw[Qd,Qd,QT ham];rfl)
  have h2:oIx (.list (((UH n).map P).map int)) (.int q.2)=O (.int (P t)):=by rw[ht];exact Zv (by rw[Qd,Qd,QT htn];rfl)
  refine Yp (Nf (Zj (U0 (T6 zO (UX zO) zO h1) (U0 (Kf (UX zO) (Kt zO (UX zO) h2) Xp) U6)) Fk) zO (UX zO) zO ⟨hb.1,by rw[Qb,Qb,Qp];exact hb.2.1⟩ zO) (Zd ⟨O (.pub (.int q.1)),pb (.int q.2),pb (.int (V q.1 q.2)),?_⟩);have e:∀i:Nat,Z6 (Kd V) P (qs.take (k+1)) (i:Int)=if q.1=(i:Int)then max (Z6 (Kd V) P (qs.take k) (i:Int)) (Kd V q-P q.2.toNat)else Z6 (Kd V) P (qs.take k) (i:Int):=λi=>by unfold Z6;rw[Ue,hq,List.foldl_append];rfl
  have e2:((((UH m).map λi:Nat=>Z6 (Kd V) P (qs.take k) (i:Int)).map int).set q.1.toNat (.int (if V q.1 q.2-P t > Z6 (Kd V) P (qs.take k) (a:Int)then V q.1 q.2-P t else Z6 (Kd V) P (qs.take k) (a:Int))))=((UH m).map λi:Nat=>Z6 (Kd V) P (qs.take (k+1)) (i:Int)).map int:=by
   apply List.ext_getElem
   .rw[Jf,Qb,Qb,Qb,Qb]
   .intro i h1 h2
    rw[List.getElem_set,J8,J8,J8,J8,List.getElem_range,e];by_cases ax:a=i
    .subst ax
     rw[Qu (by lia),Qu ha,show q.2.toNat=t by lia]
     congr 1
     show _=max _ (V q.1 q.2-P t)
     split<;>lia
    .rw[QJ (by lia),QJ (by lia)]
  rw[←e2];rfl
 case hend=>rintro Z ⟨x4,x5,x6,rfl⟩;refine KU (Kv (YC rfl rfl) ?_);rw[Qb,Je]
abbrev Vd(m:Nat)(f:Int×Int->Int)(P:Nat->Int)(qs:LP):zT:=(UH m).map λi:Nat=>Z6 f P qs (i:Int)
def yH(g:Good cs ls)(hp:Zy cs.length ls.length qs)(hd:Zx cs qs ls.length ws)(hq1:qs.length<=500):Tt [Kz cs ls,.list (qs.map (ZM V)),Kp ws]=O (KG 1 (Vd ls.length (Kd V) (prW cs (Kd V) qs ws) qs) ((UH cs.length).map (prW cs (Kd V) qs ws))):=by
 refine K3  rfl ?_;have l7:=g.l7;have al:Kn [.list (ls.map Zm)]=O (.int ls.length):=by rw[Zg,Qb]
 refine Kq (KY (Ko (U0 (UX zO) (U0 (UX zO) (U0 (UX zO) U6))) zO (Ey g hp hd hq1)) (Qa zO) zO) ?_;exact Kv (ZU (U0 Ka (U0 (Ko (U0 (Zj (U0 (Kt zO Ka XS) U6) al) (U0 (UX zO) (U0 (UX zO) U6))) zO (HR hp (by omega) _)) (U0 (UX zO) U6))) (Qa zO)) zO
def VH(g:Good cs ls):Zy cs.length ls.length (Ke 0 ls) where
 nd:=Dq ls 0 λrs hr=>(g.rk rs hr).once
 lo:=λq hq=>by have:=HZ g q hq;simp_all
def zI{o:Ord}{old}{ts:zT}(g:Good cs ls)(ga:Yo cs.length ls.length old ts):∃ws,Ts [Kz cs ls,KI o old ts]=O (.tuple [Kp ws,KG 1 (Vd ls.length (Kd (Km ls o old ts)) (prW cs (Kd (Km ls o old ts)) (Ke 0 ls) ws) (Ke 0 ls)) ((UH cs.length).map (prW cs (Kd (Km ls o old ts)) (Ke 0 ls) ws))])/\Zx cs (Ke 0 ls) ls.length ws/\T5 cs (Kd (Km ls o old ts)) (Ke 0 ls) ws:=by have hq:=HS g;have l7:=g.l7;obtain⟨d,hb,ws,rfl,hd,hst⟩:=Dm (V:=Km ls o old ts) g (VH g) (by omega)  (by decide) (λq hq=>Ut (Pt g ga hq).2) (by omega);refine⟨ws,?_,hd,hst⟩;refine K3  rfl ?_;refine Kq (KY (Ko (U0 (UX zO) (U0 (UX zO) U6)) zO (NK g ga)) (Qa zO) zO) ?_;refine Kq (KY (Ko (U0 (UX zO) (U0 (UX zO) U6)) zO hb) (Qa zO) zO) ?_;exact Kv (ZU (U0 (UX zO) (U0 (Ko (U0 (UX zO) (U0 (UX zO) (U0 (UX zO) U6))) zO (yH g (VH g) hd (by omega))) U6)) (Qa zO)) zO
end
section
variable{cs:zT}{ls:L3}{ws:LO}{o:Ord}{old:ae}{ts:zT}
def Ex(h:Zx cs (Ke 0 ls) ls.length ws):Deal cs ls ws where
 len:=h.len
 wish:=λi t rs hw hrs=>by
  obtain⟨i',rs',h1,h2,h3⟩:=Sf (h.wish i t hw);have hii:i=i':=by lia
  subst hii;rw[hrs]at h1;cases h1;exact h3
 cop:=h.cop
theorem Mn(ls):∀(ws)(l2)(k:Nat),(∀(j:Nat) rs,l2[j]?=O rs->ls.getD (k+j) []=rs)->ws.length=l2.length->Kl (Kd (Km ls o old ts)) k ws=ZQ (YM (Zz ls o old ts) k l2 ws)
 |[],[],_,_,_=>rfl
 |[],_::_,_,_,h=>by cases h
 |_::_,[],_,_,h=>by cases h
 |x::ws,rs::l2,k,hj,hl=>by
  have ih:=Mn ls ws l2 _ (λj r h=>by rw[show k+1+j=k+(j+1)by lia];exact hj _ r h) (by simpa using hl);show KD _ k x+Kl _ _ ws=ZQ (x.map _::YM _ _ l2 ws);rw[De,ih]
  congr 1
  cases x with
  |none=>rfl
  |some t=>show Km ls o old ts (k) t=Zz ls o old ts k rs t;unfold Km;rw[QQ,show ls.getD k []=rs from hj 0 rs zO]
end
section
variable{cs:zT}{ls:L3}{o:Ord}{old:ae}{ts:zT}{ws:LO}
def No(du:Deal cs ls ws):Zx cs (Ke 0 ls) ls.length ws:=⟨du.len,λi t h=>by
 have ak:i<ls.length:=by have:=(Qg.mp h).1;have:=du.len;lia
 have hrs   :=Qe ak;have:=Nq (k:=0) hrs (du.wish i t _ h hrs);simp_all,du.cop⟩
end
theorem HQ  : ∀(n),(∀k,k<n->f k<=h k)->(ZB n f=ZB n h ↔ ∀k,k<n->f k=h k)
 |0,_=>⟨λ_ k hk=>absurd hk (Jq _),λ_=>rfl⟩
 |n+1,h0=>by
  have ih:=HQ n λk hk=>h0 k (by lia)
  have l:=Pq n λk hk=>h0 k (JZ hk);have ln:=h0 n (JO _);rw[V1,V1]
  refine⟨λe k hk=>?_,λe=>?_⟩
  .by_cases z:k=n
   .lia
   .exact ih.mp (by lia) k (by lia)
  .rw[ih.mpr λk hk=>e k (by lia),e n (JO _)]
theorem FJ{f:Int×Int->Int}{ps:zT}{tm:Int}:∀(ws:LO)(as:zT)(k:Nat),as.length=ws.length->(∀a∈as,0<=a)->(∀(i:Nat) t,ws[i]?=O (O t)->tm*f (((k+i:Nat):Int),t)<=as.getD i 0+ps.getD t.toNat 0) ->
  tm*Kl f k ws<=as.sum+pz ps ws/\(tm*Kl f k ws=as.sum+pz ps ws ↔ (∀(i:Nat) t,ws[i]?=O (O t)->tm*f (((k+i:Nat):Int),t)=as.getD i 0+ps.getD t.toNat 0)/\∀i:Nat,ws[i]?=O zP->as.getD i 0=0)
 |[],[],k,_,_,_=>⟨by show tm*0<=0+0;lia,λ_=>⟨λi t h=>by simp at h,λi h=>by simp at h⟩,λ_=>by show tm*0=0+0;lia⟩
 |[],_::_,_,h,_,_=>by cases h
 |_::_,[],_,h,_,_=>by cases h
 |o::ws,a::as,k,hl,ha,h=>by
  obtain⟨ih1,bZ⟩:=FJ (f:=f) (ps:=ps) (tm:=tm) ws as (k+1) (by simpa using hl) (λx hx=>ha x (List.mem_cons_of_mem _ hx)) λi t e=>by have:=h (i+1) t (by simpa using e);rw[show k+(i+1)=k+1+i by lia]at this;simpa using this
  have e2:(a::as).sum=a+as.sum:=by simp
  have ga:∀i:Nat,(a::as).getD (i+1) 0=as.getD i 0:=λi=>by simp
  have a0:=ha a Ql;rw[e2];cases o with
  |none=>
   have e1:Kl f k (none::ws)=0+Kl f (k+1) ws:=rfl;have e3:pz ps (none::ws)=0+pz ps ws:=rfl;rw[e1,e3,Jj,Jj];refine⟨by lia,λe=>?_,λ⟨e4,e5⟩=>?_⟩
   .obtain⟨c1,c2⟩:=bZ.mp (by lia)
    refine⟨λi t hi=>?_,λi hi=>?_⟩
    .cases i with
     |zero=>cases hi
     |succ i=>have:=c1 i t (by simpa using hi);rw[show k+(i+1)=k+1+i by lia,ga];exact this
    .cases i with
     |zero=>show a=0;lia
     |succ i=>rw[ga];exact c2 i (by simpa using hi)
   .have h0:a=0:=e5 0 zO
    have:=bZ.mpr ⟨λi t hi=>by have:=e4 (i+1) t (by simpa using hi);rw[show k+(i+1)=k+1+i by lia,ga]at this;exact this,λi hi=>by have:=e5 (i+1) (by simpa using hi);rwa[ga]at this⟩
    lia
  |some t=>
   have e1:Kl f k (O t::ws)=f ((k:Int),t)+Kl f (k+1) ws:=rfl;have e3:pz ps (O t::ws)=ps.getD t.toNat 0+pz ps ws:=rfl;have h0:=h 0 t zO;have h0:tm*f ((k:Int),t)<=a+ps.getD t.toNat 0:=h0;rw[e1,e3,Uf];refine⟨by lia,λe=>?_,λ⟨e4,e5⟩=>?_⟩
   .obtain⟨c1,c2⟩:=bZ.mp (by lia)
    refine⟨λi u hi=>?_,λi hi=>?_⟩
    .cases i with
     |zero=>cases hi;show tm*f ((k:Int),t)=a+ps.getD t.toNat 0;lia
     |succ i=>have:=c1 i u (by simpa using hi);rw[show k+(i+1)=k+1+i by lia,ga];exact this
    .cases i with
     |zero=>cases hi
     |succ i=>rw[ga];exact c2 i (by simpa using hi)
   .have h0:tm*f ((k:Int),t)=a+ps.getD t.toNat 0:=e4 0 t zO
    have:=bZ.mpr ⟨λi t hi=>by have:=e4 (i+1) t (by simpa using hi);rw[show k+(i+1)=k+1+i by lia,ga]at this;exact this,λi hi=>by have:=e5 (i+1) (by simpa using hi);rwa[ga]at this⟩
    lia
structure N5(cs:zT)(f:Int×Int->Int)(tm:Int)(as ps:zT)(ws:LO):Prop where
 got:∀(i:Nat) t,ws[i]?=O (O t)->tm*f ((i:Int),t)=as.getD i 0+ps.getD t.toNat 0
 non:∀i:Nat,ws[i]?=O zP->as.getD i 0=0
 all:∀k,k<cs.length->ps.getD k 0=0∨((ws.count (O (k:Int)):Nat):Int)=cs.getD k 0
section
variable{cs:zT}{f:Int×Int->Int}{qs:LP}{m:Nat}{ws:LO}{tm:Int}{as ps:zT}
def Lr(hp:Zy cs.length m qs)(hd:Zx cs qs m ws)(ok:OkP cs.length m (λa b=>f (a,b)) qs tm as ps):tm*Kl f 0 ws<=ZT cs as ps/\(tm*Kl f 0 ws=ZT cs as ps ↔ N5 cs f tm as ps ws):=by
 obtain⟨h1,h2⟩:=FJ (f:=f) (ps:=ps) (tm:=tm) ws as 0 (by rw[ok.la,hd.len]) ok.aa λi t e=>by rw[QX];exact ok.le _ (hd.wish i t e)
 simp only[QX]at h2;have bn:∀t,O t∈ws->0<=t/\t<cs.length:=λt ht=>by obtain⟨i,hi⟩:=Ud.mp ht;have:=hp.lo _ (hd.wish i t hi);exact⟨this.2.2.1,this.2.2.2⟩
 have cg:∀k,k<cs.length->0<=ps.getD k 0:=λk hk=>by rw[Qn,Qe (by rw[ok.lp];exact hk)];exact ok.pp _ (JI _)
 have hcop:∀k,k<cs.length->((ws.count (O (k:Int)):Nat):Int)<=cs.getD k 0:=λk hk=>hd.cop k _ (by rw[Qn,Qe hk];rfl)
 have hle   :=λk hk=>Int.mul_le_mul_of_nonneg_right (hcop k hk) (cg k hk);have s1:=Pq cs.length hle;have s2:=HQ cs.length hle;have ec:ZT cs as ps=as.sum+ZB cs.length λk=>cs.getD k 0*ps.getD k 0:=by unfold ZT;rw[LD _ _ ok.lp]
 rw[ec];rw[Nm ws bn]at h1 h2;refine⟨by lia,λe=>?_,λh=>?_⟩
 .obtain⟨c1,c2⟩:=h2.mp (by lia)
  refine⟨c1,c2,λk hk=>?_⟩;have e3:=s2.mp (by lia) k hk;by_cases z:ps.getD k 0=0
  .exact .inl z
  .exact .inr (Int.eq_of_mul_eq_mul_right z e3)
 .have e1:=h2.mpr ⟨h.got,h.non⟩
  have e3:=s2.mpr λk hk=>by
   rcases h.all k hk with z|z
   .rw[z,Uj,Uj]
   .rw[z]
  lia
end
abbrev Xi:=List (Nat×List Stp)
noncomputable def KQ(R:Xi)(p:Nat):Bool:=R.any λx=>x.1==p
noncomputable def WX(R:Xi)(p:Nat):List Stp:=((R.find? λx=>x.1==p).map (·.2)).getD []
noncomputable def ZL(R:Xi)(s:Stp):Xi:=if KQ R s.a && !KQ R s.b then R++[(s.b,WX R s.a++[s])]else R
noncomputable def Yl(T:List Stp)(q:Nat):Nat->Xi
 |0=>[(q,[])]
 |t+1=>T.foldl ZL (Yl T q t)
def Oh   : KQ R p=zQ ↔ ∃w,(p,w)∈R:=by
 unfold KQ;constructor
 .simp_all
 simp_all
def Nz   (h:KQ R p=zQ):(p,WX R p)∈R:=by
 obtain⟨w,hw⟩:=Oh.mp h;unfold WX;cases e:R.find? λx=>x.1==p with
 |none=>have:=Ur.mp e _ hw;simp at this
 |some x=>
  have h1:=List.mem_of_find?_eq_some e;have h2:=List.find?_some e;have h2   :=by simpa using h2
  subst h2;exact h1
structure RdOk(T:List Stp)(q:Nat)(R:Xi):Prop where
 pth:∀x∈R,Path T q x.2 x.1
 nd:∀x∈R,(q::x.2.map Stp.b).Nodup
 cl:∀x∈R,∀y∈q::x.2.map Stp.b,KQ R y=zQ
def Le    : KQ (R++[x]) p=(KQ R p || x.1==p):=by unfold KQ;simp
def Ar  {q:Nat}{R:Xi}{s:Stp}(hs:s∈T)(k:RdOk T q R):RdOk T q (ZL R s)/\(∀p,KQ R p=zQ->KQ (ZL R s) p=zQ)/\(KQ R s.a=zQ->KQ (ZL R s) s.b=zQ):=by
 unfold ZL;by_cases c:(KQ R s.a && !KQ R s.b)=zQ
 .rw[Qu c]
  obtain⟨c1,c2⟩:=Ug.mp c;have c2   :=by simpa using c2
  have hm:=Nz c1;have k1:=k.pth _ hm;have k2:=k.nd _ hm;have k3:=k.cl _ hm;have up:∀p,KQ R p=zQ->KQ (R++[(s.b,WX R s.a++[s])]) p=zQ:=λp h=>by rw[Le,h];rfl
  have e:q::((WX R s.a++[s]).map Stp.b)=(q::(WX R s.a).map Stp.b)++[s.b]:=by rw[QC];rfl
  refine⟨⟨λx hx=>?_,λx hx=>?_,λx hx y hy=>?_⟩,up,λ_=>by rw[Le];simp⟩
  .rcases Qz.mp hx with h|h
   .exact k.pth x h
   .cases Qt.mp h
    exact k1.append (.cons hs (.nil _))
  .rcases Qz.mp hx with h|h
   .exact k.nd x h
   .cases Qt.mp h
    rw[e];refine List.nodup_append.mpr ⟨k2,by simp,λa ha b hb z=>?_⟩;rw[Qt.mp hb]at z;rw[z]at ha;have:=k3 _ ha;rw[c2]at this;cases this
  .rcases Qz.mp hx with h|h
   .exact up y (k.cl x h y hy)
   .cases Qt.mp h
    rw[e]at hy;rcases Qz.mp hy with hy|hy
    .exact up y (k3 y hy)
    .rw[Le,List.mem_singleton.mp hy];simp
 .rw[QJ c]
  refine⟨k,λ_ h=>h,λh=>?_⟩;cases z:KQ R s.b with
  |true=>rfl
  |false=>rw[h,z]at c;exact absurd zO c
theorem MD   : ∀(X:List Stp)(R),(∀s∈X,s∈T)->RdOk T q R->RdOk T q (X.foldl ZL R)/\(∀p,KQ R p=zQ->KQ (X.foldl ZL R) p=zQ)/\∀s∈X,KQ R s.a=zQ->KQ (X.foldl ZL R) s.b=zQ
 |[],R,_,k=>⟨k,λ_ h=>h,λs hs=>by simp_all⟩
 |s::X,R,h,k=>by
  obtain⟨k1,k2,k3⟩:=Ar (h s Ql) k;obtain⟨f1,f2,f3⟩:=MD X _ (λx hx=>h x (Qk _ hx)) k1;refine⟨f1,λp hp=>f2 p (k2 p hp),λx hx ha=>?_⟩;rcases Qx.mp hx with rfl|hx
  .exact f2 _ (k3 ha)
  .exact f3 x hx (k2 _ ha)
theorem Nk(T)(q:Nat):∀t,RdOk T q (Yl T q t)/\∀w p,Path T q w p->w.length<=t->KQ (Yl T q t) p=zQ
 |0=>by
  refine⟨⟨λx hx=>?_,λx hx=>?_,λx hx y hy=>?_⟩,λw p h hl=>?_⟩
  .cases Qt.mp hx;exact .nil q
  .cases List.mem_singleton.mp hx;simp
  .cases Qt.mp hx
   cases Qt.mp hy;exact Oh.mpr ⟨[],Qt.mpr zO⟩
  .have:w=[]:=List.eq_nil_of_length_eq_zero (by lia)
   subst this;cases h;exact Oh.mpr ⟨[],Qt.mpr zO⟩
 |t+1=>by
  obtain⟨k,ih⟩:=Nk T q t;obtain⟨f1,f2,f3⟩:=MD T _ (λ_ h=>h) k;refine⟨f1,λw p h hl=>?_⟩;by_cases c:w.length<=t
  .exact f2 p (ih w p h c)
  .obtain⟨u,s,rfl⟩:∃u s,w=u++[s]:=⟨w.dropLast,w.getLast (by intro z;rw[z]at c;simp at c),(List.dropLast_concat_getLast _).symm⟩
   obtain⟨mm,h1,h2⟩:=h.split;have hs:=h2.step.1;have ha:=h2.head;have hb   :=h2.step.2;have hp:p=s.b:=by generalize s.b=x at hb;cases hb;rfl
   subst ha;rw[hp];exact f3 s hs (ih u s.a h1 (by rw[Qi,Q0]at hl;lia))
theorem DK   (hT:∀s∈T,s.a<n/\s.b<n)(h0:0<n){q p}:∀(N)(w),w.length<=N->Path T q w p->∃w',Path T q w' p/\w'.length<n
 |0,w,hl,h=>⟨w,h,by lia⟩
 |N+1,w,hl,h=>by
  by_cases c:w.length<n
  .exact⟨w,h,c⟩
  .have hr:=FP hT h (by lia) h0
   have:∃j,j<w.length/\∃i,i<=j/\∃s t,w[i]?=O s/\w[j]?=O t/\s.a=t.b:=by refine Classical.byContradiction λz=>hr λj hj i hi s t e1 e2 e3=>z ⟨j,hj,i,hi,s,t,e1,e2,e3⟩
   obtain⟨j,hj,i,hi,s,t,e1,e2,e3⟩:=this;have p1:=(h.at e1).1;have p2:=(h.at e2).2.2;rw[←e3]at p2;refine DK hT h0 N _ ?_ (p1.append p2);rw[Qi,QY,Q8]
   lia
def TX(T:List Stp)(q p:Nat):Prop:=∃w,Path T q w p
def SE   (hT:∀s∈T,s.a<n/\s.b<n)(h0:0<n){q p}:KQ (Yl T q n) p=zQ ↔ TX T q p:=by
 obtain⟨k,c⟩:=Nk T q n;constructor
 .intro h
  exact⟨_,k.pth _ (Nz h)⟩
 .rintro⟨w,h⟩
  obtain⟨w',h',hl⟩:=DK hT h0 w.length w (Qv _) h;exact c w' p h' (by lia)
noncomputable def ZX(T:List Stp)(n p:Nat):Nat:=(UH n).countP λq=>KQ (Yl T q n) p
def Hz(T)(n p):ZX T n p<=n:=by have:=List.countP_le_length (p:=λq=>KQ (Yl T q n) p) (l:=UH n);rwa[Qp]at this
def jB   (hT:∀s∈T,s.a<n/\s.b<n){s}(hs:s∈T):ZX T n s.a<=ZX T n s.b:=by
 have h0:0<n:=by have:=(hT s hs).1;lia
 refine List.countP_mono_left λq _ h=>?_
 obtain⟨w,hw⟩:=(SE hT h0).mp h;exact(SE hT h0).mpr ⟨_,hw.append (.cons hs (.nil _))⟩
noncomputable def YW(S:List Stp)(V:Nat->Int):List Stp:=S.filter λs=>decide (V s.a+s.g=V s.b)
noncomputable def K6(T:List Stp)(V:Nat->Int)(n:Nat)(p:Nat):Int:=((n+1:Nat):Int)*V p+(ZX T (n+1) p:Int)-(ZX T (n+1) n:Int)
def xp  {V}{n:Nat}(hS:∀s∈S,s.a<n+1/\s.b<n+1)(st:∀s∈S,V s.a+s.g<=V s.b)(s:Stp)(hs:s∈S):K6 (YW S V) V n s.a+((n+1:Nat):Int)*s.g<=K6 (YW S V) V n s.b:=by
 have hT:∀s∈YW S V,s.a<n+1/\s.b<n+1:=λs h=>hS s (QP.mp h).1;have h1:=st s hs;unfold K6
 by_cases c:V s.a+s.g=V s.b
 .have:=jB hT (QP.mpr ⟨hs,QB c⟩)
  rw[←c,Uf]
  lia
 .have l1:=Hz (YW S V) (n+1) s.a
  have h2:_*(V s.a+s.g+1)<=((n+1:Nat):Int)*V s.b:=Jv (by lia) (by lia)
  lia
section
variable{cs:zT}{f:Int×Int->Int}{qs:LP}{m:Nat}{ws:LO}
theorem FI(c):∀(ws)(k),Kl (λq=>c*f q) k ws=c*Kl f k ws
 |[],k=>by show(0)=c*0;lia
 |o::ws,k=>by
  show KD _ k o+Kl _ _ ws=c*(KD f k o+Kl f _ ws);rw[FI c ws _,Uf];cases o with
  |none=>show 0+_=c*0+_;lia
  |some t=>rfl
def IsSt.mul   (h:IsSt cs (λq=>c*f q) qs ws s):∃s',IsSt cs f qs ws s'/\s.a=s'.a/\s.b=s'.b/\s.g=c*s'.g:=by
 cases h with
 |@mv i o o' h hne hq=>
  refine⟨_,.mv h hne hq,rfl,rfl,?_⟩
  have e:∀o , KD (λq=>c*f q) i o=c*KD f i o:=λo=>by
   cases o with
   |none=>show(0)=c*0;lia
   |some t=>rfl
  rw[e,e,Int.mul_sub]
 |left h hl=>exact⟨_,.left h hl,rfl,rfl,by simp_all⟩
 |give h=>exact⟨_,.give h,rfl,rfl,by simp_all⟩
def xo(hp:Zy cs.length m qs)(hd:Zx cs qs m ws)(sw:T5 cs f qs ws){T:List Stp}(hT:T=YW (Ym cs f qs ws) (prW cs f qs ws)) :
  OkP cs.length m (λa b=>f (a,b)) qs ((cs.length+1:Nat):Int) ((UH m).map λi:Nat=>Z6 (λq=>((cs.length+1:Nat):Int)*f q) (K6 T (prW cs f qs ws) cs.length) qs (i:Int)) ((UH cs.length).map (K6 T (prW cs f qs ws) cs.length)) /\
  ZT cs ((UH m).map λi:Nat=>Z6 (λq=>((cs.length+1:Nat):Int)*f q) (K6 T (prW cs f qs ws) cs.length) qs (i:Int)) ((UH cs.length).map (K6 T (prW cs f qs ws) cs.length))=((cs.length+1:Nat):Int)*Kl f 0 ws:=by
 obtain⟨st,vn⟩:=Oi (V:=prW cs f qs ws) hp hd (XU hp hd) (Sd hp hd) (λp=>rfl) sw;have hS:∀s∈Ym cs f qs ws,s.a<cs.length+1/\s.b<cs.length+1:=λs hs=>(XU hp hd s hs).lt hp hd
 obtain⟨ok,cl⟩:=ED  (V:=K6 T _ cs.length) hp hd (λs hs=>by obtain⟨s',h1,h2,h3,h4⟩:=hs.mul;rw[h2,h3,h4,hT];exact xp hS st s' (Sd hp hd s' h1)) (by unfold K6;rw[vn,Uj];lia);refine⟨⟨by lia,ok.la,ok.lp,ok.aa,ok.pp,λq hq=>?_⟩,by rw[cl,FI]⟩;have:=ok.le q hq;rwa[Int.one_mul]at this
end
noncomputable def Wb(R:Xi):D:=.dict (R.map λx=>(.int (x.1:Nat),.list (x.2.map Kh)))
def MC{p:Nat}:YB (.int (p:Nat))=O (.inl (p:Int)):=rfl
def MB(a p:Nat):decide (YB (.int (a:Nat))=O (.inl (p:Int)))=(a==p):=by
 rw[MC];by_cases h:a=p
 .subst h;simp
 lia
def VO  {p}:Ye (.int (p:Nat)) (Wb R)=O (KQ R p):=by
 unfold Ye Wb;rw[MC];dsimp only;rw[Qu (Q2.mpr λx hx=>by obtain⟨y,_,rfl⟩:=Qs.mp hx;rfl)]
 congr 1
 rw[Ui]
 congr 1
 funext x;exact MB x.1 p
def FH   (h:KQ R p=zQ):T3 (Wb R) (.int (p:Nat))=O (.list ((WX R p).map Kh)):=by
 unfold T3 Wb;rw[MC];dsimp only;rw[List.find?_map];have e:((λx:D×D=>decide (YB x.1=O (.inl (p)))) ∘ λx:Nat×List Stp=>((.int (x.1),.list (x.2.map Kh))))=λx=>x.1==p:=by funext x;exact MB x.1 p
 rw[e];unfold WX;cases z:R.find? λx=>x.1==p with
 |none=>obtain⟨w,hw⟩:=Oh.mp h;have:=Ur.mp z _ hw;simp at this
 |some x=>rfl
def jA   {w:List Stp}(h:KQ R p=zR):Wt (R.map λx=>((.int (x.1:Nat),.list (x.2.map Kh)):D×D)) (.inl (p:Int)) (.list (w.map Kh))=(R++[(p,w)]).map λx=>(.int (x.1:Nat),.list (x.2.map Kh)):=by
 unfold Wt
 have e:((R.map λx=>((.int (x.1:Nat),.list (x.2.map Kh)):D×D)).any λx=>decide (YB x.1=O (.inl (p:Int))))=zR:=by
  rw[Ui];have:((λx:D×D=>decide (YB x.1=O (.inl (p)))) ∘ λx:Nat×List Stp=>((.int (x.1:Nat),.list (x.2.map Kh))))=λx=>x.1==p:=by funext x;exact MB x.1 p
  rw[this];exact h
 rw[if_neg (by rw[e];simp),List.map_append];rfl
def Ew  {l:List Nat}(h:l.Nodup)(hl:∀x∈l,x<n):l.length<=n:=by
 have:=Pv n (l.map λk:Nat=>(k)) (Dr (λa b e=>by lia) h) λx hx=>by
  obtain⟨k,hk,rfl⟩:=Qs.mp hx;have:=hl k hk
  lia
 simp_all
structure RdK(n:Nat)(R:Xi):Prop where
 nd:(R.map Prod.fst).Nodup
 lt:∀x∈R,x.1<n
def CP    (hs:s.b<n)(k:RdK n R):RdK n (ZL R s):=by
 unfold ZL;by_cases c:(KQ R s.a && !KQ R s.b)=zQ
 .rw[Qu c]
  refine⟨?_,λx hx=>?_⟩
  .rw[QC]
   refine List.nodup_append.mpr ⟨k.nd,by simp,λa ha b hb z=>?_⟩;have hb   :=by simpa using hb
   obtain⟨x,hx,rfl⟩:=Qs.mp ha;have:KQ R s.b=zQ:=Oh.mpr ⟨x.2,by rw[←hb,←z];exact hx⟩;simp_all
  .rcases Qz.mp hx with h|h
   .exact k.lt x h
   simp_all
 .rw[QJ c];exact k
theorem N4  : ∀(X:List Stp)(R),(∀s∈X,s.b<n)->RdK n R->RdK n (X.foldl ZL R)
 |[],R,_,k=>k
 |s::X,R,h,k=>N4 X _ (λx hx=>h x (Qk _ hx)) (CP (h s Ql) k)
theorem FG   (hT:∀s∈T,s.a<n/\s.b<n)(hq:q<n):∀t,RdK n (Yl T q t)
 |0=>⟨by show [q].Nodup;simp,λx hx=>by cases List.mem_singleton.mp hx;simp_all⟩
 |t+1=>N4 T _ (λs hs=>(hT s hs).2) (FG hT hq t)
def FF    (hT:∀s∈T,s.a<n/\s.b<n)(hq:q<n)(k:RdOk T q R):∀x∈R,x.2.length<n:=λx hx=>by
 have h:=Ew  (k.nd x hx) λy hy=>by
  rcases Qx.mp hy with rfl|hy
  .exact hq
  .obtain⟨s,hs,rfl⟩:=Qs.mp hy
   exact(hT s ((k.pth x hx).mem s hs)).2
 rw[QU,Qb]at h
 lia
def PM(s:Stp):oIx (Kh s) (.int 0)=O (.int (s.a:Nat)):=Zv (j:=0) zO
def OD(s:Stp):oIx (Kh s) (.int 1)=O (.int (s.b:Nat)):=Zv (j:=1) zO
def D7(s:Stp):oIx (Kh s) (.int 2)=O (.int s.g):=Zv (j:=2) zO
section
variable{n:Nat}{T:List Stp}{q:Nat}
def jz(hT:∀s∈T,s.a<n/\s.b<n)(hn:n<=100)(hq:q<n):Tq [.int (q:Nat),.int (n:Nat),.list (T.map Kh)]=O (Wb (Yl T q n)):=by
 refine K3  rfl ?_;unfold Rk
 let S0:Option Sl:=O (.pub (.int (q:Nat)))
 let S1:Option Sl:=O (.pub (.int (n:Nat)))
 let S2:Option Sl:=O (.pub (.list (T.map Kh)))
 refine Kq  (AK (d:=Wb (Yl T q 0)) (Zr (x:=[(.int (q:Nat),.list [])]) zO (YX zO)) (Qa zO) zO) ?_;apply KW;apply ZD (λt Z=>∃x4 x5,Z=[S0,S1,S2,O (.deep .dic (Wb (Yl T q t))),x4,x5])
 case h1=>exact Y7 (U0 (UX zO) U6) (Y8 (by lia) (by lia))
 case h0=>exact⟨_,_,rfl⟩
 case hst=>
  rintro t d Z ht ⟨x4,x5,rfl⟩;refine⟨_,U4 (Qa zO) zO,?_⟩;unfold GM;apply ZD (λj Z=>∃x4 x5,Z=[S0,S1,S2,O (.deep .dic (Wb ((T.take j).foldl ZL (Yl T q t)))),x4,x5])
  case h1=>exact Zh (UX zO) Zt
  case h0=>exact⟨_,_,rfl⟩
  case hst=>
   rintro j d Z hj ⟨x4,x5,rfl⟩;rw[Qd]at hj;cases hs:T[j]? with
   |none=>rw[hs]at hj;cases hj
   |some s=>
   rw[hs]at hj;cases hj;have hsT:=Qr hs;have hsub:∀x∈T.take j,x∈T:=λx hx=>JL hx;have kR:=(MD (T.take j) (Yl T q t) hsub (Nk T q t).1).1;have kK:=N4 (n:=n) (T.take j) (Yl T q t) (λx hx=>(hT x (hsub x hx)).2) (FG hT hq t)
   have eT:(T.take (j+1)).foldl ZL (Yl T q t)=ZL ((T.take j).foldl ZL (Yl T q t)) s:=by rw[Ue,hs,List.foldl_append];rfl
   generalize (T.take j).foldl ZL (Yl T q t)=R at kR kK eT;refine⟨_,U4 (Qa zO) zO,?_⟩;unfold GN
   have hlen:R.length<=n:=by
    have:=Ew (n:=n) kK.nd λx hx=>by obtain⟨y,hy,rfl⟩:=Qs.mp hx;exact kK.lt y hy
    rwa[Qb]at this
   by_cases ca:KQ R s.a=zQ
   .by_cases cb:KQ R s.b=zQ
    .refine KE (b:=zR) (Sa (Of (t:=zQ) (Kt zO Ka (PM s)) zO (VO.trans (J5 O ca))) (Of (t:=zQ) (Kt zO Ka (OD s)) zO (VO.trans (J5 O cb)))) (λz=>by cases z) λ_=>K1 (Zd ⟨x4,pb (Kh s),?_⟩)
     rw[eT];unfold ZL;rw[if_neg (by rw[ca,cb];simp)];rfl
    .have cb:KQ R s.b=zR:=by simpa using cb
     refine KE (b:=zQ) (Sa (Of (t:=zQ) (Kt zO Ka (PM s)) zO (VO.trans (J5 O ca))) (Of (t:=zR) (Kt zO Ka (OD s)) zO (VO.trans (J5 O cb)))) (λ_=>?_) λz=>by cases z
     have hl:=FF hT hq kR _ (Nz ca);have hl:(WX R s.a).length<n:=hl;have hadd:Kg (.list ((WX R s.a).map Kh)) (.list [Kh s])=O (.list ((WX R s.a++[s]).map Kh)):=by rw[Wj (by rw[Qb,Q0];lia),QC];rfl
     refine Yp (Al (k:=.inl ((s.b:Nat):Int)) (kvs:=R.map λx=>(.int (x.1:Nat),.list (x.2.map Kh))) (Kf (AE zO (Kt zO Ka (PM s)) zO (FH ca)) (ZN (U0 (UX zO) U6) (Qa zO)) hadd) zO (Kt zO Ka (OD s)) zO zO (by rw[Qb];lia) zO) (Zd ⟨x4,pb (Kh s),?_⟩);rw[jA cb,eT];unfold ZL;rw[Qu (by rw[ca,cb];rfl)];rfl
   .have ca:KQ R s.a=zR:=by simpa using ca
    refine KE (b:=zR) (Pl (Of (t:=zR) (Kt zO Ka (PM s)) zO (VO.trans (J5 O ca)))) (λz=>by cases z) λ_=>K1 (Zd ⟨x4,pb (Kh s),?_⟩)
    rw[eT];unfold ZL;rw[if_neg (by rw[ca];simp)];rfl
  case hend=>rintro Z ⟨x4,x5,rfl⟩;refine Zd ⟨x4,x5,?_⟩;rw[Qb,Je];rfl
 case hend=>rintro Z ⟨x4,x5,rfl⟩;refine KU (Kv (AC rfl rfl) ?_);rw[YZ];simp
noncomputable abbrev Wf(T:List Stp)(n:Nat):zS:=(UH n).map λq=>Wb (Yl T q n)
def yG(hT:∀s∈T,s.a<n/\s.b<n)(hn:n<=100):Tp [.int (n:Nat),.list (T.map Kh)]=O (.list (Wf T n)):=by
 refine K3  rfl ?_;refine Kv (KJ (Zi (Y7 (U0 (UX zO) U6) (Y8 (by lia) (by lia))) (XX (λZ=>∃x,Z=[O _,O _,x]) _ (Wf T n) _ [] ?_ ?_ ⟨zP,rfl⟩ ?_))) zO
 .rw[YZ];simp
 .rintro i d e hd he Z ⟨x,rfl⟩
  obtain⟨rfl,hi⟩:=XY hd;have hin:i<n:=by lia
  rw[Qd,QT hin]at he;cases he;rw[Jj];exact⟨_,U4 (Qa zO) zO,rfl,Ko (U0 (UX zO) (U0 (UX zO) (U0 (UX zO) U6))) zO (jz hT hn hin),_,rfl⟩
 .rw[Qm,YZ];lia
end
theorem Yn{α:Type}{s}{t:M Bool}{g:M D}(f)(p)(e)(I:U5->Prop):∀(xs:List α)(Z:U5)(es:zS),(∀a∈xs,∀Z,I Z->∃Z1,s (f a) Z=O Z1/\t Z1=.ok (p a) Z1/\(p a=zQ->g Z1=.ok (e a) Z1)/\I (KR Z1))->I Z->es.length+xs.length<=1000000->Zf s t g (xs.map f) Z es=O (es++(xs.filter p).map e)
 |[],Z,es,_,_,_=>by rw[List.map_nil,Zf];simp
 |a::xs,Z,es,h,h0,hl=>by
  rw[QU]at hl;obtain⟨Z1,h1,h2,h3,h4⟩:=h a Ql Z h0;have h':=λb hb=>h b (Qk _ hb);rw[QD,Zf,h1];dsimp only;rw[h2];dsimp only
  cases c:p a with
  |true=>rw[Qu zO,h3 c];dsimp only;rw[Qu (by lia),Yn f p e I xs _ _ h' h4 (by rw[Qi,Q0];lia),List.filter_cons_of_pos c,Q5];rfl
  |false=>rw[if_neg (by decide),Yn f p e I xs _ _ h' h4 (by lia),List.filter_cons_of_neg (by rw[c];simp)]
def jy{S:List Stp}{n:Nat}{V:Nat->Int}(hS:∀s∈S,s.a<n+1/\s.b<n+1)(vn:V n=0)(hn:n<=100)(hl:S.length<=1000):Tr [.list (S.map Kh),.list (((UH n).map V).map int)]=O (.list ((YW S V).map Kh)):=by
 refine K3  rfl ?_;unfold Rl;have hadd:Kg (.list (((UH n).map V).map int)) (.list [.int 0])=O (.list (((UH (n+1)).map V).map int)):=by rw[Wj (by rw[Qb,Qb,Qp,Q0];lia),Uq,QC,QC];show _=O (UJ (_++[int (V n)]));rw[vn]
 refine Kq (KY (Kf (UX zO) (ZN (U0 Ka U6) (Qa zO)) hadd) (Qa zO) zO) ?_;have hix:∀p,p<n+1->oIx _ (.int (p:Nat))=O (.int (V p)):=λp hp=>Np hp
 let R:U5:=[pb (.list (S.map Kh)),pb (.list (((UH n).map V).map int)),pb (.list (((UH (n+1)).map V).map int))]
 have hc:Zf (gN 3) (U1 oEq (U1 Kg (U8 2 (U8 3 (U2 (.int 0)))) (U8 3 (U2 (.int 2)))) (U8 2 (U8 3 (U2 (.int 1))))) (UW 3) (S.map Kh) (KR R++UI 1 zP) []=O ((YW S V).map Kh):=by refine(Yn Kh _ Kh (λZ=>∃x,Z=R++[x]) S _ [] ?_ ⟨zP,rfl⟩ (by rw[Qm];lia)).trans (by rw[Qw];rfl);rintro s hs Z ⟨x,rfl⟩;have hs:=hS s hs;exact⟨R++[pb (Kh s)],U4 (Qa zO) zO,Kf (Kf (Kt zO (Kt zO Ka (PM s)) (hix _ hs.1)) (Kt zO Ka (D7 s)) Ze) (Kt zO (Kt zO Ka (OD s)) (hix _ hs.2)) Yk,λ_=>UX zO,_,rfl⟩
 exact Kv (KJ (Zi (Zh (UX zO) Zt) hc)) zO
section
variable{cs:zT}{ls:L3}{ws:LO}{qs:LP}{V:Int->Int->Int}{T:List Stp}{n m:Nat}{P:Nat->Int}
def zM(hn:n<=100):To [.list (((UH n).map P).map int),.list (Wf T (n+1))]=O (.list (((UH n).map (K6 T P n)).map int)):=by
 refine K3  rfl ?_;unfold Rj
 let S0:Option Sl:=O (.pub (.list (((UH n).map P).map int)))
 let S1:Option Sl:=O (.pub (.list (Wf T (n+1))))
 let S2:Option Sl:=O (.pub (.int ((n+1:Nat):Int)))
 have hlen:Kn [.list (Wf T (n+1))]=O (.int ((n+1:Nat):Int)):=by rw[Zg,Qb,Qp]
 refine Kq (Z1:=[S0,S1,S2,zP]) (KY (Zu zO hlen) (Qa zO) zO) ?_
 let L:zS:=((UH (n+1)).map λp=>((ZX T (n+1) p:Nat):Int)).map int
 have hc1:Zf (gN 4) (U2 zQ) (Zb Kn (UZ (Kb UJ (Za (K4 (UW 1)) 1 (gN 5) (Zp Ye 4 (UW 5)) (UW 5))) UY)) (Ys 0 ((n+1:Nat):Int)) (KR [S0,S1,S2,zP]++UI 1 zP) []=O L:=by
  refine(XX (λZ=>∃x,Z=[S0,S1,S2,zP,x]) _ L _ [] ?_ ?_ ⟨zP,rfl⟩ ?_).trans (by rw[Qw])
  .rw[YZ];show(List.map _ _).length=_;rw[List.length_map,List.length_map,List.length_range];simp
  .rintro i d e hd he Z ⟨x,rfl⟩
   obtain⟨rfl,hi⟩:=XY hd;have hin:i<n+1:=by lia
   rw[Qd,Qd,QT hin]at he;cases he;rw[Jj];refine⟨_,U4 (Qa zO) zO,rfl,?_,_,rfl⟩;have hin2:Zf (gN 5) (Zp Ye 4 (UW 5)) (UW 5) (Wf T (n+1)) (KR [S0,S1,S2,zP,pb (.int (i:Nat))]++UI 1 zP) []=O (((UH (n+1)).filter λq=>KQ (Yl T q (n+1)) i).map λq=>Wb (Yl T q (n+1))):=by refine(Yn (λq=>Wb (Yl T q (n+1))) (λq=>KQ (Yl T q (n+1)) i) (λq=>Wb (Yl T q (n+1))) (λZ=>∃x,Z=[S0,S1,S2,zP,pb (.int (i:Nat)),x]) (UH (n+1)) _ [] ?_ ⟨zP,rfl⟩ (by rw[Qm,Qp];lia)).trans (by rw[Qw]);rintro q hq Z ⟨x,rfl⟩;exact⟨[S0,S1,S2,zP,pb (.int (i:Nat)),pb (Wb (Yl T q (n+1)))],U4 (Qa zO) zO,ZO zO (UX zO) VO,λ_=>UX zO,_,rfl⟩
   refine Zj (U0 (KJ (Zi (Zh (UX zO) Zt) hin2)) U6) ?_;rw[Zg,Qb];show _=O (int ((ZX T (n+1) i:Nat):Int));unfold ZX;rw[List.countP_eq_length_filter]
  .rw[Qm,YZ];lia
 refine Kq (Z1:=[S0,S1,S2,O (.own L)]) (Z8 (Zi (Y7 (U0 (UX zO) U6) (Y8 (by lia) (by lia))) hc1) (Qa zO) zO) ?_;have hixL:∀p,p<n+1->oIx (.list L) (.int (p:Nat))=O (.int (ZX T (n+1) p:Nat)):=λp hp=>Np (h:=λp=>((ZX T (n+1) p:Nat):Int)) hp
 have ar:oIx (.list L) (.int (-1))=O (.int (ZX T (n+1) n:Nat)):=by
  refine Mv ?_
  show(((UH (n+1)).map λp=>((ZX T (n+1) p:Nat):Int)).map int).getLast?=_
  rw[Uq,QC,QC];simp
 let R:U5:=[S0,S1,S2,pb (.list L)]
 have hc2:Zf (gT 2 (gNC (gN 4) (gNC (gN 5) gN0))) (U2 zQ) (U1 Zl (U1 Kg (U1 KB (UW 2) (UW 5)) (U8 3 (UW 4))) (U8 3 (Yz (U2 (.int 1))))) (Yu 0 (((UH n).map P).map int)) (Yt [S0,S1,S2,O (.own L)]++UI 2 zP) []=O (((UH n).map (K6 T P n)).map int):=by
  refine(XX (λZ=>∃x y,Z=[S0,S1,S2,pb (.list L),x,y]) _ (((UH n).map (K6 T P n)).map int) _ [] ?_ ?_ ⟨zP,zP,rfl⟩ ?_).trans (by rw[Qw])
  .rw[YH,Qb,Qb,Qb,Qb]
  .rintro i d e hd he Z ⟨x,y,rfl⟩
   obtain⟨z,hz,rfl⟩:=Xo hd;have hin:i<n:=by have:=(Qg.mp hz).1;rwa[Qb,Qb,Qp]at this
   rw[Qd,Qd,QT hin]at he hz;cases he;cases hz;rw[QX];exact⟨_,Kr zO (U9 (U4 (Qa zO) zO) (U9 (U4 (Qa zO) zO) Ks)),rfl,Kf (Kf (Kf (UX zO) (UX zO) (VJ (by lia) (by lia))) (Kt zO (UX zO) (hixL i (by lia))) Ze) (Kt zO (Sw Ka) ar) Xp,_,_,rfl⟩
  .rw[Qm,YH,Qb,Qb,Qp];lia
 exact Kv (KJ (FZ (Y9 (U0 (UX zO) U6) Xa) hc2 (xC _))) zO
def zH(hp:Zy n m qs)(hn:n<=100)(hm:m<=1000)(hq1:qs.length<=500):Tn [.int (m:Nat),.list (qs.map (ZM V)),.list (((UH n).map P).map int),.list (Wf T (n+1))]=O (KG ((n+1:Nat):Int) (Vd m (λq=>((n+1:Nat):Int)*Kd V q) (K6 T P n) qs) ((UH n).map (K6 T P n))):=by
 refine K3  rfl ?_;unfold Ri
 let S0:Option Sl:=O (.pub (.int (m:Nat)))
 let S1:Option Sl:=O (.pub (.list (qs.map (ZM V))))
 let S2:Option Sl:=O (.pub (.list (((UH n).map P).map int)))
 let S3:Option Sl:=O (.pub (.list (Wf T (n+1))))
 let S4:Option Sl:=O (.pub (.int ((n+1:Nat):Int)))
 let S5:Option Sl:=O (.pub (.list (((UH n).map (K6 T P n)).map int)))
 have hlen:Kn [.list (Wf T (n+1))]=O (.int ((n+1:Nat):Int)):=by rw[Zg,Qb,Qp]
 refine Kq  (KY (Zu zO hlen) (Qa zO) zO) ?_;refine Kq (Z1:=[S0,S1,S2,S3,S4,S5,zP]) (KY (Ko (U0 (UX zO) (U0 (UX zO) U6)) zO (zM hn)) (Qa zO) zO) ?_
 have hc:Zf (gT 3 (gNC (gN 7) (gNC (gN 8) (gNC (gN 9) gN0)))) (U2 zQ) (KN (UZ (UW 7) (UZ (UW 8) (UZ (U1 KB (UW 4) (UW 9)) UY)))) (qs.map (ZM V)) (KR [S0,S1,S2,S3,S4,S5,zP]++UI 3 zP) []=O (qs.map (ZM λa b=>((n+1:Nat):Int)*V a b)):=by
  refine(XX (λZ=>∃x y z,Z=[S0,S1,S2,S3,S4,S5,zP,x,y,z]) _ _ _ [] ?_ ?_ ⟨zP,zP,zP,rfl⟩ ?_).trans (by rw[Qw])
  .rw[Qb,Qb]
  .rintro i d e hd he Z ⟨x,y,z,rfl⟩
   rw[Qd]at hd he;cases hq:qs[i]? with
   |none=>rw[hq]at hd;cases hd
   |some q=>
   rw[hq]at hd he;cases hd;cases he;exact⟨_,Kr zO (U9 (U4 (Qa zO) zO) (U9 (U4 (Qa zO) zO) (U9 (U4 (Qa zO) zO) Ks))),rfl,ZU (U0 (UX zO) (U0 (UX zO) (U0 (Kf (UX zO) (UX zO) (VJ (by lia) (by lia))) U6))) (Qa zO),_,_,_,rfl⟩
  .rw[Qm,Qb];lia
 refine Kq (KY (Ko (U0 (UX zO) (U0 (KJ (Zi (Zh (UX zO) Zt) hc)) (U0 (UX zO) U6))) zO (HR hp hm _)) (Qa zO) zO) ?_;exact Kv (ZU (U0 (UX zO) (U0 (UX zO) (U0 (UX zO) U6))) (Qa zO)) zO
theorem Ld:∀(us vs:LO),PyData.eqvAll (us.map Ky) (vs.map Ky)=decide (us=vs)
 |[],[]=>rfl
 |[],_::_=>by simp[PyData.eqvAll]
 |_::_,[]=>by simp[PyData.eqvAll]
 |u::us,v::vs=>by
  show(UP _ _&&PyData.eqvAll _ _)=_
  have e:UP (Ky u) (Ky v)=decide (u=v):=by
   cases u with
   |none=>cases v<;>simp[Ky,UP]
   |some a=>
    cases v with
    |none=>simp[Ky,UP]
    |some b=>by_cases h:a=b<;>simp[Ky,UP,h]
  rw[Ld us vs,e];simp_all
def jw(us)(L:z9):oIn (Kp us) (.list (L.map Kp))=O (decide (us∈L)):=by
 have hlay:UN (L.map Kp)=zQ:=VW λx hx=>by obtain⟨y,_,rfl⟩:=Qs.mp hx;exact Ow y
 have hd:=FY us
 show(if(Kp us).canLay0=zQ/\UN _=zQ/\(Kp us).depth<=60 then O _ else zP)=_
 rw[Qu ⟨Ow us,hlay,by lia⟩]
 congr 1
 rw[JU,J7,Jl];constructor
 .rintro⟨y,hy,e⟩
  obtain⟨v,hv,rfl⟩:=Qs.mp hy;have e:PyData.eqvAll (v.map Ky) _=zQ:=e;rw[Ld]at e;rw[←Qa e];exact hv
 .intro h
  refine⟨Kp us,Qs.mpr ⟨us,h,rfl⟩,?_⟩;show PyData.eqvAll _ _=zQ;rw[Ld];simp
def xO(us)(L:z9):∃b,Y1 (Kp us) (.list (L.map Kp))=O b/\(b=zR->us∈L):=by refine⟨!decide _,?_,λh=>by simpa using h⟩;unfold Y1;rw[jw];rfl
def W0(n:Nat)(ws:LO)(r:List Stp)(us:LO):Prop:=∃b,us=(rot b r).foldl (app n) ws
def xN(hp:Zy cs.length m qs){f}(hd:Zx cs qs m ws){U}(hT:T=YW (Ym cs f qs ws) U){x:Nat}{r}(hr:Path T x r x)(hn:(r.map Stp.a).Nodup){us}(h:W0 cs.length ws r us):Zx cs qs m us/\Kl f 0 us=Kl f 0 ws:=by
 obtain⟨b,rfl⟩:=h;have hin   :=λs hs=>by have:=hr.mem s hs;rw[hT]at this;exact XU hp hd s (QP.mp this).1
 have pr:=Pr b r;obtain⟨h1,h2⟩:=FN hp hd (λs hs=>hin s (pr.mem_iff.mp hs)) ((pr.map Stp.a).nodup_iff.mpr hn) (((pr.map Stp.b).trans (LB hr)).trans (pr.map Stp.a).symm);refine⟨h1,?_⟩
 have hg:∀{q p:Nat}{w:List Stp},Path T q w p->U q+K0 w=U p:=λh=>by
  induction h with
  |nil p=>rw[Lg];lia
  |@cons s w p hs h ih=>
   rw[hT]at hs;have e1:=Qa (QP.mp hs).2;rw[SF]
   lia
 have:=hg hr;rw[h2,EA pr]
 lia
def DX   (hs:s∈T)(h:Path T s.b w s.a)(hn:(s.b::w.map Stp.b).Nodup):Path T s.a (s::w) s.a/\((s::w).map Stp.a).Nodup:=by
 refine⟨.cons hs h,?_⟩;have e:=HV h;have p:((s::w).map Stp.a).Perm (s.b::w.map Stp.b):=by rw[←e];exact(List.perm_append_comm (l₁:=[s.a]))
 exact p.nodup_iff.mpr hn
def jv(g:Good cs ls)(hp:Zy cs.length ls.length qs){f:Int×Int->Int}(hd:Zx cs qs ls.length ws){U:Nat->Int}(hT:T=YW (Ym cs f qs ws) U)(hl:T.length<=1000):∃L:z9,Vi [Kp ws,.list (T.map Kh),.list (Wf T (cs.length+1))]=O (.list (L.map Kp)) /\
  ws∈L/\L.length<=1+T.length/\(∀us∈L,Zx cs qs ls.length us/\Kl f 0 us=Kl f 0 ws)/\∀s∈T,TX T s.b s.a->¬(s.w=zP/\s.b=cs.length)->∃us∈L,∃w,Path T s.b w s.a/\(s.b::w.map Stp.b).Nodup/\W0 cs.length ws (s::w) us:=by
 have c6:=g.c6;have l7:=g.l7;have hTs:∀s∈T,IsSt cs f qs ws s:=λs hs=>by rw[hT]at hs;exact XU hp hd s (QP.mp hs).1
 have bd:∀s∈T,s.a<cs.length+1/\s.b<cs.length+1:=λs hs=>(hTs s hs).lt hp hd
 have main:∃d,Vi [Kp ws,.list (T.map Kh),.list (Wf T (cs.length+1))]=O d/\∃L:z9,d=.list (L.map Kp)/\ws∈L/\L.length<=1+T.length/\(∀us∈L,Zx cs qs ls.length us/\Kl f 0 us=Kl f 0 ws)/\∀s∈T,TX T s.b s.a->¬(s.w=zP/\s.b=cs.length)->∃us∈L,∃w,Path T s.b w s.a/\(s.b::w.map Stp.b).Nodup/\W0 cs.length ws (s::w) us:=by
  refine W2  rfl ?_;unfold Rh
  let S0:Option Sl:=O (.pub (Kp ws))
  let S1:Option Sl:=O (.pub (.list (T.map Kh)))
  let S2:Option Sl:=O (.pub (.list (Wf T (cs.length+1))))
  let S3:Option Sl:=O (.pub (.int (cs.length:Nat)))
  have hlen:Kn [.list (Wf T (cs.length+1))]=O (.int ((cs.length+1:Nat):Int)):=by rw[Zg,Qb,Qp]
  have hsub:Zl (.int ((cs.length+1:Nat):Int)) (.int 1)=O (.int (cs.length:Nat)):=by rw[Xp];congr 2;lia
  refine Kq (Z1:=[S0,S1,S2,S3,zP,zP,zP,zP,zP,zP,zP,zP]) (KY (Kf (Zu zO hlen) Ka hsub) (Qa zO) zO) ?_;have hls:Sm [Kp ws]=O (ws.map Ky):=rfl;refine Kq (Z1:=[S0,S1,S2,S3,O (.own ([ws].map Kp)),zP,zP,zP,zP,zP,zP,zP]) (Z8 (W3 (U0 (KJ (M7 zO hls)) U6) (Qa zO)) (Qa zO) zO) ?_;apply KW;apply ZD (λj Z=>∃(L:z9)(x5 x6 x7 x8 x9 au aj:Option Sl),Z=[S0,S1,S2,S3,O (.own (L.map Kp)),x5,x6,x7,x8,x9,au,aj]/\ws∈L/\L.length<=1+j/\(∀us∈L,Zx cs qs ls.length us/\Kl f 0 us=Kl f 0 ws)/\∀s∈T.take j,TX T s.b s.a->¬(s.w=zP/\s.b=cs.length)->∃us∈L,∃w,Path T s.b w s.a/\(s.b::w.map Stp.b).Nodup/\W0 cs.length ws (s::w) us)
  case h1=>exact Zh (UX zO) Zt
  case h0=>exact⟨[ws],_,_,_,_,_,_,_,rfl,Qt.mpr zO,Qv _,λus hu=>by cases Qt.mp hu;exact⟨hd,rfl⟩,λs hs=>by rw[List.take_zero]at hs;cases hs⟩
  case hst=>
   rintro j d Z hj ⟨L,x5,x6,x7,x8,x9,au,aj,rfl,hw,hL,hb,hsh⟩;have aF:j<T.length:=by have:=(Qg.mp hj).1;rwa[Qb]at this
   rw[Qd]at hj;cases hs:T[j]? with
   |none=>rw[hs]at hj;cases hj
   |some s=>
   rw[hs]at hj;cases hj;have hsT:=Qr hs;have hab:=bd s hsT;refine⟨_,U4 (Qa zO) zO,?_⟩;unfold GO
   let S5:Option Sl:=O (.pub (Kh s))
   let S6:Option Sl:=O (.pub (.int (s.a:Nat)))
   let S7:Option Sl:=O (.pub (.int (s.b:Nat)))
   let S8:Option Sl:=O (.pub (.int s.g))
   let S9:Option Sl:=O (.pub (Xh s.w))
   refine Kq (Z1:=[S0,S1,S2,S3,O (.own (L.map Kp)),S5,S6,S7,S8,S9,au,aj]) (YD (UX zO) (Kr zO (U9 (U4 (Qa zO) zO) (U9 (U4 (Qa zO) zO) (U9 (U4 (Qa zO) zO) (U9 (U4 (Qa zO) zO) Ks)))))) ?_;have hnon:isNon (Xh s.w)=s.w.isNone:=by cases s.w<;>rfl
   let c10:Bool:=s.w.isNone&&decide ((s.b:Int)=(cs.length:Nat))
   refine Kq (Z1:=[S0,S1,S2,S3,O (.own (L.map Kp)),S5,S6,S7,S8,S9,pb (.bool c10),aj]) (KY (Wi (t:=s.w.isNone) (u:=decide ((s.b:Int)=(cs.length:Nat))) (by rw[←hnon];exact KJ (UX zO)) λ_=>KJ (ZO zO (UX zO) Yk)) (Qa zO) zO) ?_;have hrd:oIx (.list (Wf T (cs.length+1))) (.int (s.b:Nat))=O (Wb (Yl T s.b (cs.length+1))):=Zv (by rw[Qd,QT hab.2];rfl)
   have hnext:∀(L':z9),(∀us∈L,us∈L')->(TX T s.b s.a->¬(s.w=zP/\s.b=cs.length)->∃us∈L',∃w,Path T s.b w s.a/\(s.b::w.map Stp.b).Nodup/\W0 cs.length ws (s::w) us)->∀x∈T.take (j+1),TX T x.b x.a->¬(x.w=zP/\x.b=cs.length)->∃us∈L',∃w,Path T x.b w x.a/\(x.b::w.map Stp.b).Nodup/\W0 cs.length ws (x::w) us:=λL' hsub hn x hx=>by
    rw[Ue,hs]at hx;rcases Qz.mp hx with hx|hx
    .intro h1 h2
     obtain⟨us,h3,h4⟩:=hsh x hx h1 h2;exact⟨us,hsub us h3,h4⟩
    .have:x=s:=by simpa using hx
     subst this;exact hn
   have hkey:=SE (q:=s.b) (p:=s.a) bd (JN _);by_cases c:KQ (Yl T s.b (cs.length+1)) s.a=zQ/\c10=zR
   .obtain⟨c1,c2⟩:=c
    have kR:=(Nk T s.b (cs.length+1)).1;have hm:=Nz c1;have bP:=kR.pth _ hm;have hnw:=kR.nd _ hm;have ci:=FF bd hab.2 kR _ hm;generalize b9:WX (Yl T s.b (cs.length+1)) s.a=w at hm bP hnw ci;have bP:Path T s.b w s.a:=bP;have hnw:(s.b::w.map Stp.b).Nodup:=hnw;have ci:w.length<cs.length+1:=ci;obtain⟨r1,r2⟩:=DX hsT bP hnw;have hadd:Kg (.list [Kh s]) (.list (w.map Kh))=O (.list ((s::w).map Kh)):=by rw[Wj (by rw[Qb,Q0];lia)];rfl
    have hget:=FH c1;rw[b9]at hget;obtain⟨b,bt,cD,bw⟩:=DY (n:=cs.length) (r:=s::w) (by rw[QU];lia)
    have hall:∀p∈(rot b (s::w)).filterMap (Wn cs.length),p.1<ws.length:=λp bQ=>by
     obtain⟨x,hx,e⟩:=Jo.mp bQ;have hxr:x∈s::w:=(Pr b (s::w)).mem_iff.mp hx;cases hTs x (r1.mem x hxr)with
     |@mv i o o' hw' _ _=>cases e;exact(Qg.mp hw').1
     |left _ _=>cases e
     |give _=>cases e
    have bB:=EB hall;rw[Nl]at bB;generalize hus:(rot b (s::w)).foldl (app cs.length) ws=us at bB;have aR:W0 cs.length ws (s::w) us:=⟨b,hus.symm⟩;have cB:=xN hp hd hT r1 r2 aR;refine KE (b:=zQ) (Sa (by rw[←c1];exact ZO zO (Kt zO (UX zO) hrd) VO) ((Z9 (t:=c10) (Yj (UX zO))).trans (J5 (λb=>Res.ok b _) (by rw[c2];rfl)))) (λ_=>?_) λz=>by cases z
    refine Kq (Z1:=[S0,S1,S2,S3,O (.own (L.map Kp)),S5,S6,S7,S8,S9,pb (.bool c10),pb (Kp us)]) (KY (Ko (U0 (UX zO) (U0 (Ko (U0 (UX zO) (U0 (Kf (ZN (U0 (UX zO) U6) (Qa zO)) (Kf (Kt zO (UX zO) hrd) (UX zO) hget) hadd) U6)) zO bw) U6)) zO bB) (Qa zO) zO) ?_;obtain⟨bb,hnin,hnb⟩:=xO us L;refine KE (b:=bb) (MZ (UX zO) zO hnin) (λ_=>?_) λhb0=>?_
    .have e:(L++[us]).map Kp=L.map Kp++[Kp us]:=by rw[QC];rfl
     refine Yp (XT zO (UX zO) zO (by rw[Qb];lia) zO) (Zd ⟨L++[us],S5,S6,S7,S8,S9,_,_,by rw[e];rfl,Q4 _ hw,by rw[Qi,Q0];lia,λv hv=>?_,?_⟩)
     .rcases Qz.mp hv with hv|hv
      .exact hb v hv
      .cases Qt.mp hv;exact cB
     .exact hnext _ (λv hv=>Q4 _ hv) λ_ _=>⟨us,QN _ (Qt.mpr zO),w,bP,hnw,aR⟩
    .exact K1 (Zd ⟨L,S5,S6,S7,S8,S9,_,_,rfl,hw,by lia,hb,hnext _ (λv hv=>hv) λ_ _=>⟨us,hnb hb0,w,bP,hnw,aR⟩⟩)
   .have hf:(Zw (Zp Ye 6 (U8 2 (UW 7))) (KF (Zq (UW 10)))) [S0,S1,S2,S3,O (.own (L.map Kp)),S5,S6,S7,S8,S9,pb (.bool c10),aj]=.ok zR [S0,S1,S2,S3,O (.own (L.map Kp)),S5,S6,S7,S8,S9,pb (.bool c10),aj]:=by
     cases c1:KQ (Yl T s.b (cs.length+1)) s.a with
     |false=>exact Pl (by rw[←c1];exact ZO zO (Kt zO (UX zO) hrd) VO)
     |true=>
      have c2:c10=zQ:=by
       cases c2:c10 with
       |true=>rfl
       |false=>exact absurd ⟨c1,c2⟩ c
      exact Sa (by rw[←c1];exact ZO zO (Kt zO (UX zO) hrd) VO) ((Z9 (t:=c10) (Yj (UX zO))).trans (J5 (λb=>Res.ok b _) (by rw[c2];rfl)))
    refine KE (b:=zR) hf (λz=>by cases z) λ_=>K1 (Zd ⟨L,S5,S6,S7,S8,S9,_,_,rfl,hw,by lia,hb,hnext _ (λv hv=>hv) λh1 h2=>?_⟩)
    refine absurd ⟨hkey.mpr h1,?_⟩ c;cases c2:c10 with
    |false=>rfl
    |true=>obtain⟨d1,d2⟩:=Ug.mp c2;exact absurd ⟨by simpa using d1,by have:=of_decide_eq_true d2;lia⟩ h2
  case hend=>rintro Z ⟨L,x5,x6,x7,x8,x9,au,aj,rfl,hw,hL,hb,hsh⟩;rw[Qb]at hL hsh;rw[Je]at hsh;exact KU (Kv (YC rfl rfl) ⟨_,rfl,L,rfl,hw,hL,hb,hsh⟩)
 obtain⟨d,h1,L,rfl,h2,h3,h4,h5⟩:=main;exact⟨L,h1,h2,h3,h4,h5⟩
structure WebQ(cs:zT)(f:Int×Int->Int)(qs:LP)(m:Nat)(ws:LO)(T:List Stp)(as ps:zT)(L:z9):Prop where
 dl:Zx cs qs m ws
 st:T5 cs f qs ws
 tt:T=YW (Ym cs f qs ws) (prW cs f qs ws)
 ea:as=Vd m (λq=>((cs.length+1:Nat):Int)*f q) (K6 T (prW cs f qs ws) cs.length) qs
 ep:ps=(UH cs.length).map (K6 T (prW cs f qs ws) cs.length)
 ok:OkP cs.length m (λa b=>f (a,b)) qs ((cs.length+1:Nat):Int) as ps
 cl:ZT cs as ps=((cs.length+1:Nat):Int)*Kl f 0 ws
 len:L.length<=62
 fst:ws∈L
 best:∀us∈L,Zx cs qs m us/\Kl f 0 us=Kl f 0 ws
 shw:∀s∈T,TX T s.b s.a->¬(s.w=zP/\s.b=cs.length)->∃us∈L,∃w,Path T s.b w s.a/\(s.b::w.map Stp.b).Nodup/\W0 cs.length ws (s::w) us
def xM{o:Ord}{old:ae}{ts:zT}(g:Good cs ls)(ga:Yo cs.length ls.length old ts):∃ws T as ps L,Tl [Kz cs ls,KI o old ts]=O (.tuple [KG ((cs.length+1:Nat):Int) as ps,.list (L.map Kp)])/\WebQ cs (Kd (Km ls o old ts)) (Ke 0 ls) ls.length ws T as ps L:=by
 have c6:=g.c6;have l7:=g.l7;have hp:=VH g;have hq:=HS g;obtain⟨M,be,hM,hF⟩:∃M:Int,0<=M/\(∀q∈Ke 0 ls,Kd (Km ls o old ts) q<=M)/\ls.length*M<10 ^ 60:=⟨18446744073709551616,by decide,λq hq=>by have:=Pt (o:=o) g ga hq;show Km ls o old ts q.1 q.2<=_;lia,by lia⟩
 obtain⟨d,cC,ws,rfl,hd,st⟩:=Dm (V:=Km ls o old ts) g hp (by lia) be hM hF;have hS:∀s∈Ym cs (Kd (Km ls o old ts)) (Ke 0 ls) ws,s.a<cs.length+1/\s.b<cs.length+1:=λs hs=>(XU hp hd s hs).lt hp hd;have vn:=(Oi (V:=prW cs (Kd (Km ls o old ts)) (Ke 0 ls) ws) hp hd (XU hp hd) (Sd hp hd) (λp=>rfl) st).2;have has:Y4 [Kz cs ls,.list ((Ke 0 ls).map (ZM (Km ls o old ts))),Kp ws]=O (.list ((Ym cs (Kd (Km ls o old ts)) (Ke 0 ls) ws).map Kh)):=LI g hd.len (by rw[hd.len];exact hp) (by rw[hd.len];exact hd) (by lia)
 have hdl:=hd.len;have hal:=xw (f:=Kd (Km ls o old ts)) (ws:=ws) (cs:=cs) (qs:=Ke 0 ls);have hti:=jy hS vn (by lia) (by lia);generalize hT:YW (Ym cs (Kd (Km ls o old ts)) (Ke 0 ls) ws) (prW cs (Kd (Km ls o old ts)) (Ke 0 ls) ws)=T at hti;have bd:T.length<=61:=by rw[←hT];exact QK (Jn _ _) (by lia)
 have hTs:∀s∈T,s.a<cs.length+1/\s.b<cs.length+1:=λs hs=>by rw[←hT]at hs;exact hS s (QP.mp hs).1
 obtain⟨L,hsh,h1,h2,h3,h4⟩:=jv g hp hd hT.symm (by lia);obtain⟨ok,cl⟩:=xo hp hd st hT.symm;have bz:=yG (n:=cs.length+1) hTs (by lia);refine⟨ws,T,_,_,L,?_,hd,st,hT.symm,rfl,rfl,ok,cl,by lia,h1,h3,h4⟩;refine K3  rfl ?_;unfold Rg;refine Kq (KY (Ko (U0 (UX zO) (U0 (UX zO) U6)) zO (NK g ga)) (Qa zO) zO) ?_;refine Kq (KY (Ko (U0 (UX zO) (U0 (UX zO) U6)) zO cC) (Qa zO) zO) ?_;refine Kq (KY (Ko (U0 (UX zO) (U0 (UX zO) (U0 (UX zO) U6))) zO (Ey g hp hd (by lia))) (Qa zO) zO) ?_;refine Kq (KY (Ko (U0 (Ko (U0 (UX zO) (U0 (UX zO) (U0 (UX zO) U6))) zO has) (U0 (UX zO) U6)) zO hti) (Qa zO) zO) ?_;have aM:Kn [.list (((UH cs.length).map (prW cs (Kd (Km ls o old ts)) (Ke 0 ls) ws)).map int)]=O (.int (cs.length:Nat)):=by rw[Zg,Qb,Qb,Qp]
 have hld:Kn [Kp ws]=O (.int (ls.length:Nat)):=by unfold Kp;rw[Zg,Qb,hd.len]
 refine Kq (KY (Ko (U0 (Kf (Zu zO aM) Ka Ze) (U0 (UX zO) U6)) zO bz) (Qa zO) zO) ?_;exact Kv (ZU (U0 (Ko (U0 (Zu zO hld) (U0 (UX zO) (U0 (UX zO) (U0 (UX zO) U6)))) zO (zH hp (by lia) (by lia) (by lia))) (U0 (Ko (U0 (UX zO) (U0 (UX zO) (U0 (UX zO) U6))) zO hsh) U6)) (Qa zO)) zO
end
noncomputable def Zs(f:Int×Int->Int)(qs:LP)(tm:Int)(as ps:zT):LP:=qs.filter λq=>decide (as.getD q.1.toNat 0+ps.getD q.2.toNat 0=tm*f q)
section
variable{cs:zT}{ls:L3}{o:Ord}{old:ae}{ts:zT}{tm:Int}{as ps:zT}{ws:LO}
def Dl(g:Good cs ls)(ga:Yo cs.length ls.length old ts)(hla:as.length=ls.length)(aM:ps.length=cs.length):WE [Kz cs ls,KI o old ts,KG tm as ps]=O (.list ((Zs (Kd (Km ls o old ts)) (Ke 0 ls) tm as ps).map Kx)):=by
 have l7:=g.l7;have c6:=g.c6
 let F:=Kd (Km ls o old ts)
 refine K3 (Z:=[pb (Kz cs ls),pb (KI o old ts),pb (KG tm as ps),zP,zP,zP]) zO ?_;unfold SZ
 let S0:Option Sl:=O (.pub (Kz cs ls))
 let S1:Option Sl:=O (.pub (KI o old ts))
 let S2:Option Sl:=O (.pub (KG tm as ps))
 refine Kq (Z1:=[S0,S1,S2,O (.own []),zP,zP]) (Z8 (W3 U6 (Qa zO)) (Qa zO) zO) ?_;apply KW;apply ZD (λi Z=>∃x4 x5,Z=[S0,S1,S2,O (.own ((Zs F (Ke 0 (ls.take i)) tm as ps).map Kx)),x4,x5])
 case h1=>exact Y7 (U0 (Zj (U0 (Kt zO Ka XS) U6) Zg) U6) (Y8 (by rw[Qb];omega) (by omega))
 case h0=>exact⟨_,_,rfl⟩
 case hst=>
  rintro i d Z hi ⟨x4,x5,rfl⟩;obtain⟨rfl,hlt⟩:=XY hi;rw[Qb]at hlt;have ak:i<ls.length:=by omega
  have hls:ls[i]?=O ls[i]:=Qe ak;have gr:=g.rk _ (Qr hls);have hfl:=Pu gr;refine⟨_,U4 (Qa zO) zO,?_⟩;unfold Gu;rw[Jj];have hw:=Ll (cs:=cs) hls (by omega)
  let W:=Xm ls[i].flatten
  have hWl:W.length<=6:=by show(Xm _).length<=6;rw[(W4 _).length_eq];omega
  have ha:(Zs F (Ke 0 (ls.take i)) tm as ps).length<=42:=by
   have h1:=xc (n:=6) (ls.take i) 0 λrs hrs=>by have:=Pu (g.rk rs (JL hrs));omega
   rw[QY]at h1;have h2:(Zs F (Ke 0 (ls.take i)) tm as ps).length<=(Ke 0 (ls.take i)).length:=Jn _ _;have:min i ls.length<=7:=by omega
   omega
  apply ZD (λj Z=>∃x5,Z=[S0,S1,S2,O (.own (((Zs F (Ke 0 (ls.take i)) tm as ps)++Zs F ((W.take j).map λt=>((i:Int),t)) tm as ps).map Kx)),pb (.int (i:Nat)),x5])
  case h1=>exact Zh (Ko (U0 (UX zO) (U0 (UX zO) U6)) zO hw) Zt
  case h0=>exact⟨x5,by show _=[S0,S1,S2,O (.own (((Zs F (Ke 0 (ls.take i)) tm as ps)++[]).map Kx)),_,_];rw[Jg];rfl⟩
  case hst=>
   rintro j d Z hj ⟨x5,rfl⟩;rw[Qd]at hj;cases hz:W[j]? with
   |none=>rw[show(Xm ls[i].flatten)[j]?=zP from hz]at hj;cases hj
   |some t=>
   rw[show(Xm ls[i].flatten)[j]?=O t from hz]at hj;cases hj;have htf:t∈ls[i].flatten:=(W4 _).mem_iff.mp (Qr hz);obtain⟨r,hr,htr⟩:=Uh.mp htf;have htb:=gr.there r hr t htr;have b6:=LJ (o:=o) g ga hls htf;have hF:F ((i:Int),t)=Zz ls o old ts i ls[i] t:=by show Zz ls o old ts (i:Int).toNat (ls.getD (i:Int).toNat []) t=_;rw[QQ,Qn,hls];rfl
   rw[←hF]at b6;have hwb:=Pt (o:=o) g ga (Nq (k:=0) hls htf);rw[QX]at hwb;have hwb:0<=F ((i:Int),t)/\F ((i:Int),t)<18446744073709551616:=hwb;have ax:oIx (.list (as.map int)) (.int (i:Nat))=O (.int (as.getD i 0)):=Xs (k:=(i:Int)) (by omega) (by omega);have bS:oIx (.list (ps.map int)) (.int t)=O (.int (ps.getD t.toNat 0)):=Xs htb.1 (by omega);have eT:Zs F ((W.take (j+1)).map λt=>((i:Int),t)) tm as ps=Zs F ((W.take j).map λt=>((i:Int),t)) tm as ps++Zs F [((i:Int),t)] tm as ps:=by unfold Zs;rw[Ue,hz,QC,List.filter_append];rfl
   have hlen:((Zs F (Ke 0 (ls.take i)) tm as ps++Zs F ((W.take j).map λt=>((i:Int),t)) tm as ps).map Kx).length<1000000:=by rw[Qb,Qi];have h2:(Zs F ((W.take j).map λt=>((i:Int),t)) tm as ps).length<=((W.take j).map λt=>((i:Int),t)).length:=Jn _ _;rw[Qb,QY]at h2;omega
   refine⟨_,U4 (Qa zO) zO,?_⟩;unfold Gv;refine KE (b:=decide (as.getD i 0+ps.getD t.toNat 0=tm*F ((i:Int),t))) (Z1:=[S0,S1,S2,O (.own (((Zs F (Ke 0 (ls.take i)) tm as ps)++Zs F ((W.take j).map λt=>((i:Int),t)) tm as ps).map Kx)),pb (.int (i:Nat)),pb (.int t)]) (Kf (Kf (Kf (Kt zO Ka WS) (UX zO) ax) (Kf (Kt zO Ka Vs) (UX zO) bS) Ze) (Kf (Kt zO Ka Vt) (Ko (U0 (UX zO) (U0 (UX zO) (U0 (UX zO) (U0 (UX zO) U6)))) zO b6) (Xb (by omega) hwb.2)) Yk) (λh=>?_) λh=>?_
   .have h:as.getD i 0+ps.getD t.toNat 0=tm*F ((i:Int),t):=Qa h
    refine Yp (XT zO (ZU (U0 (UX zO) (U0 (UX zO) U6)) (Qa zO)) zO hlen zO) (Zd ⟨O (.pub (.int t)),?_⟩);rw[eT,show Zs F [((i:Int),t)] tm as ps=[((i:Int),t)]from List.filter_cons_of_pos (by rw[QQ];exact QB h),←Q5,QC (l₂:=[((i:Int),t)])];rfl
   .have h:¬as.getD i 0+ps.getD t.toNat 0=tm*F ((i:Int),t):=Jc h
    refine K1 (Zd ⟨O (.pub (.int t)),?_⟩);rw[eT,show Zs F [((i:Int),t)] tm as ps=[]from List.filter_cons_of_neg (by rw[Int.toNat_natCast];simpa using h),List.append_nil]
  case hend=>
   rintro Z ⟨x5,rfl⟩;refine Zd ⟨O (.pub (.int (i:Nat))),x5,?_⟩;have e:Ke 0 (ls.take (i+1))=Ke 0 (ls.take i)++W.map λt=>((i:Int),t):=by rw[List.take_succ_eq_append_getElem (by omega),FW,QY,Ub (by omega),QX];show _++((Xm ls[i].flatten).map (λt=>((i:Int),t))++[])=_;rw[Jg]
   have e2:Zs F (Ke 0 (ls.take (i+1))) tm as ps=Zs F (Ke 0 (ls.take i)) tm as ps++Zs F (W.map λt=>((i:Int),t)) tm as ps:=by rw[e];exact List.filter_append ..
   rw[e2,Qb,Je]
 case hend=>rintro Z ⟨x4,x5,rfl⟩;rw[YZ,Qb];refine KU (Kv (YC rfl rfl) ?_);rw[show((ls.length:Int)-0).toNat=ls.length by omega,Je]
end
theorem LQ{α:Type}{p q}:∀{l:List α},(∀x∈l,p x=zQ->q x=zQ)->l.countP q=l.countP p->∀x∈l,q x=zQ->p x=zQ
 |[],_,_,x,hx,_=>by simp_all
 |a::l,h,e,x,hx,hq=>by
  have h':=λy hy=>h y (Qk _ hy);have le:=List.countP_mono_left h';rw[List.countP_cons,List.countP_cons]at e;have ha:=h a Ql
  cases cp:p a with
  |true=>
   rw[cp,ha cp]at e;rcases Qx.mp hx with rfl|hx
   .exact cp
   .exact LQ h' (by lia) x hx hq
  |false=>
   rw[cp]at e;cases cq:q a with
   |true=>rw[cq]at e;simp at e;lia
   |false=>
    rw[cq]at e;rcases Qx.mp hx with rfl|hx
    .lia
    .exact LQ h' (by simpa using e) x hx hq
def xL{S:List Stp}{V:Nat->Int}{n:Nat}(hS:∀s∈S,s.a<n+1/\s.b<n+1)(st:∀s∈S,V s.a+s.g<=V s.b){s:Stp}(hs:s∈S)(e:K6 (YW S V) V n s.a+((n+1:Nat):Int)*s.g=K6 (YW S V) V n s.b):s∈YW S V/\TX (YW S V) s.b s.a:=by
 have hT:∀s∈YW S V,s.a<n+1/\s.b<n+1:=λs h=>hS s (QP.mp h).1;have h1:=st s hs;have hab:=hS s hs;have self:KQ _ s.b=zQ:=(SE hT (JN _)).mpr ⟨[],.nil _⟩;have lb:0<ZX (YW S V) (n+1) s.b:=List.countP_pos_iff.mpr ⟨s.b,QE.mpr hab.2,self⟩;unfold K6 at e
 by_cases c:V s.a+s.g=V s.b
 .have hm:s∈YW S V:=QP.mpr ⟨hs,QB c⟩
  rw[←c,Uf]at e;have le:ZX (YW S V) (n+1) s.b=ZX (YW S V) (n+1) s.a:=by lia
  refine⟨hm,?_⟩;have:=LQ   (l:=UH (n+1)) (λq _ h=>by obtain⟨w,hw⟩:=(SE hT (JN _)).mp h;exact(SE hT (JN _)).mpr ⟨_,hw.append (.cons hm (.nil _))⟩) le s.b (QE.mpr hab.2) self;exact(SE hT (JN _)).mp this
 .have l1:=Hz (YW S V) (n+1) s.a
  have h2:((n+1:Nat):Int)*(V s.a+s.g+1)<=((n+1:Nat):Int)*V s.b:=Jv (by lia) (by lia)
  lia
section
variable{cs:zT}{f:Int×Int->Int}{qs:LP}{m:Nat}{ws us:LO}{T:List Stp}{as ps:zT}{L:z9}
theorem Ev{α β:Type}{f:α->β}:∀{l:List α},(l.map f).Nodup->∀{x y},x∈l->y∈l->f x=f y->x=y
 |a::l,h,x,y,hx,hy,e=>by
  rw[QD,Um]at h;rcases Qx.mp hx with h1|h1<;>rcases Qx.mp hy with h2|h2
  .simp_all
  .exact absurd (Qs.mpr ⟨y,h2,by rw[←e,h1]⟩) h.1
  .exact absurd (Qs.mpr ⟨x,h1,by rw[e,h2]⟩) h.1
  .exact Ev h.2 h1 h2 e
theorem Eu  {i}:∀(R:List Stp)(d),(∀s∈R,s.w≠O i)->(R.foldl (app n) d)[i]?=d[i]?
 |[],d,_=>rfl
 |s::R,d,h=>by
  rw[Jy,Eu R _ λx hx=>h x (Qk _ hx)];unfold app;cases hw:s.w with
  |none=>rfl
  |some j=>rw[Qq λz=>h s Ql (by rw[hw,z])]
theorem Gk  : ∀(R:List Stp)(d),(R.foldl (app n) d).length=d.length
 |[],d=>rfl
 |s::R,d=>by
  rw[Jy,Gk R];unfold app;cases s.w with
  |none=>rfl
  |some j=>exact Jf
theorem Hy  {i}:∀(R:List Stp)(d)(s),s∈R->s.w=O i->(∀x∈R,x.w=O i->x=s)->i<d.length->(R.foldl (app n) d)[i]?=O (ZV n s.b)
 |x::R,d,s,hs,hw,hu,hi=>by
  rw[Jy];by_cases c:s∈R
  .exact Hy R _ s c hw (λy hy=>hu y (Qk _ hy)) (by have:=Gk (n:=n) [x] d;rw[Jy,List.foldl_nil]at this;lia)
  .have hx:x=s:=by
    rcases Qx.mp hs with h|h
    .exact h.symm
    .exact absurd h c
   subst hx;rw[Eu R _ λy hy z=>c (by rw[←hu y (Qk _ hy) z];exact hy)];unfold app;rw[hw];exact QW hi
def Gj(hp:Zy cs.length m qs)(hd:Zx cs qs m ws){r}(hr:∀s∈r,IsSt cs f qs ws s)(hn:(r.map Stp.a).Nodup)(h:W0 cs.length ws r us){s}(hs:s∈r){i}(hw:s.w=O i):us[i]?=O (ZV cs.length s.b):=by
 obtain⟨b,rfl⟩:=h;have pr:=Pr b r
 have ai:∀x∈r,∀j,x.w=O j->j<ws.length/\x.a=plF cs.length (ws.getD j zP):=λx hx j e=>by
  cases hr x hx with
  |@mv i o o' h1 _ _=>cases e;exact⟨(Qg.mp h1).1,by rw[Lf h1]⟩
  |left _ _=>cases e
  |give _=>cases e
 refine Hy _ ws s (pr.mem_iff.mpr hs) hw (λx hx hxw=>?_) (ai s hs i hw).1;have hx:=pr.mem_iff.mp hx;have e   :=(ai x hx i hxw).2.trans (ai s hs i hw).2.symm;exact Ev hn hx hs e
theorem Hx   (hw:s.w=zP)(hb:s.b=t):∀R:List Stp,s∈R->nIn t R<(R.map Stp.b).count t
 |x::R,hs=>by
  have le:=N6 t R;rw[QD,Up];by_cases c:s∈R
  .have ih:=Hx hw hb R c
   unfold nIn at ih⊢;rw[List.filter_cons];split
   .simp_all
   .lia
  .have hx:x=s:=by
    rcases Qx.mp hs with h|h
    .exact h.symm
    .exact absurd h c
   subst hx;unfold nIn at le⊢;rw[List.filter_cons_of_neg (by rw[hw];simp),if_pos (by rw[hb];simp)]
   lia
def xK(hp:Zy cs.length m qs)(hd:Zx cs qs m ws){r:List Stp}(hr:∀s∈r,IsSt cs f qs ws s)(hn:(r.map Stp.a).Nodup)(hb:(r.map Stp.b).Perm (r.map Stp.a))(h:W0 cs.length ws r us){s:Stp}(hs:s∈r)(hw:s.w=zP){k:Nat}(hk:k<cs.length)(hsb:s.b=k):((us.count (O (k:Int)):Nat):Int)<cs.getD k 0:=by
 obtain⟨b,rfl⟩:=h;have pr:=Pr b r;have hR   :=λs hs=>hr s (pr.mem_iff.mp hs);have hnR   :=(pr.map Stp.a).nodup_iff.mpr hn;have hbR   :=((pr.map Stp.b).trans hb).trans (pr.map Stp.a).symm
 obtain⟨k1,k2,k3,k4⟩:=Oj hp hd (rot b r) ws hR hnR (λs hs i e=>rfl) zO hd.wish;rw[k4 k hk];have hc:cs[k]?=O (cs.getD k 0):=by rw[Qn,Qe hk];rfl
 have h0:=hd.cop k _ hc;have h1   :=List.nodup_iff_count.mp hnR k;have h2:=Hx hw hsb (rot b r) (pr.mem_iff.mpr hs);rw[hbR.count_eq]at h2;have hmem:k∈(rot b r).map Stp.a:=List.count_pos_iff.mp (by lia);obtain⟨x,hx,hxt⟩:=Qs.mp hmem;cases hR x hx with
 |@mv i o o' h hne aq=>
  have:1<=XZ k (rot b r):=by unfold XZ;exact List.length_pos_iff.mpr (List.ne_nil_of_mem (List.mem_filter.mpr ⟨hx,by simpa using hxt⟩))
  lia
 |@left u c' h hl=>
  have hxt:u=k:=hxt;subst hxt;rw[h]at hc;cases hc
  lia
 |@give u h=>
  lia
def OM(wq:WebQ cs f qs m ws T as ps L){k}(hk:k<cs.length):ps.getD k 0=K6 T (prW cs f qs ws) cs.length k:=by rw[wq.ep,Qn,Qd,QT hk];rfl
def LN(hp:Zy cs.length m qs)(wq:WebQ cs f qs m ws T as ps L):K6 T (prW cs f qs ws) cs.length cs.length=0:=by have vn:=(Oi (V:=prW cs f qs ws) hp wq.dl (XU hp wq.dl) (Sd hp wq.dl) (λp=>rfl) wq.st).2;unfold K6;simp_all
def Et(hp:Zy cs.length m qs)(wq:WebQ cs f qs m ws T as ps L):N5 cs f ((cs.length+1:Nat):Int) as ps ws:=(Lr hp wq.dl wq.ok).2.mp wq.cl.symm
def Lc(hp:Zy cs.length m qs)(wq:WebQ cs f qs m ws T as ps L){s:Stp}(hs:IsSt cs f qs ws s)(e:K6 T (prW cs f qs ws) cs.length s.a+((cs.length+1:Nat):Int)*s.g=K6 T (prW cs f qs ws) cs.length s.b)(hl:¬(s.w=zP/\s.b=cs.length)):∃us∈L,∃r,s∈r/\(∀x∈r,IsSt cs f qs ws x)/\(r.map Stp.a).Nodup/\(r.map Stp.b).Perm (r.map Stp.a)/\W0 cs.length ws r us:=by
 obtain⟨st,vn⟩:=Oi  hp wq.dl (XU hp wq.dl) (Sd hp wq.dl) (λp=>rfl) wq.st;have hS:∀s∈Ym cs f qs ws,s.a<cs.length+1/\s.b<cs.length+1:=λs hs=>(XU hp wq.dl s hs).lt hp wq.dl;rw[wq.tt]at e
 obtain⟨h1,h2⟩:=xL hS st (Sd hp wq.dl s hs) e;rw[←wq.tt]at h1 h2;obtain⟨us,hu,w,p1,p2,p3⟩:=wq.shw s h1 h2 hl;obtain⟨r1,r2⟩:=DX h1 p1 p2;refine⟨us,hu,s::w,Ql,λx hx=>?_,r2,LB r1,p3⟩;have:=r1.mem x hx;rw[wq.tt]at this;exact XU hp wq.dl x (QP.mp this).1
def xJ{n:Nat}{t:Int}(h0:0<=t)(h1:t<n):ZV n t.toNat=O t:=by
 unfold ZV
 grind
def xI(hp:Zy cs.length m qs)(wq:WebQ cs f qs m ws T as ps L){i:Nat}{t:Int}(hq:((i:Int),t)∈qs)(e:((cs.length+1:Nat):Int)*f ((i:Int),t)=as.getD i 0+ps.getD t.toNat 0):∃us∈L,us[i]?=O (O t):=by
 have hb:=hp.lo _ hq;have ak:i<ws.length:=by rw[wq.dl.len];have:=hb.2.1;omega
 have hw   :=Qe ak;generalize ws[i]=o at hw;have tw:=Et hp wq;by_cases c:o=O t
 .exact⟨ws,wq.fst,by rw[hw,c]⟩
 .have hs:IsSt cs f qs ws ⟨plF cs.length o,plF cs.length (O t),KD f i (O t)-KD f i o,O i⟩:=.mv hw (λz=>c z.symm) λu e=>by cases e;exact hq
  have hpt:=OM wq (k:=t.toNat) (by have:=hb.2.2;omega)
  have he:K6 T (prW cs f qs ws) cs.length (plF cs.length o)+((cs.length+1:Nat):Int)*(f ((i:Int),t)-KD f i o)=K6 T (prW cs f qs ws) cs.length t.toNat:=by
   rw[←hpt,Int.mul_sub];cases o with
   |none=>have h1:=tw.non i hw;have h2:=LN hp wq;show K6 T (prW cs f qs ws) cs.length cs.length+(_-((cs.length+1:Nat):Int)*0)=_;rw[h2,Uj];omega
   |some u=>have h1:=tw.got i u hw;have hu:=hp.lo _ (wq.dl.wish i u hw);have h2:=OM wq (k:=u.toNat) (by have:=hu.2.2;omega);show K6 T (prW cs f qs ws) cs.length u.toNat+(_-((cs.length+1:Nat):Int)*f ((i:Int),u))=_;omega
  obtain⟨us,hu,r,r1,r2,r3,_,r4⟩:=Lc hp wq hs he (λz=>by cases z.1);refine⟨us,hu,?_⟩;rw[Gj hp wq.dl r2 r3 r4 r1 zO];show O (ZV cs.length t.toNat)=_;rw[xJ hb.2.2.1 hb.2.2.2]
def wo(hp:Zy cs.length m qs)(wq:WebQ cs f qs m ws T as ps L){i:Nat}(hi:i<m)(e:as.getD i 0=0):∃us∈L,us[i]?=O zP:=by
 have ak:i<ws.length:=by rw[wq.dl.len];exact hi
 have hw   :=Qe ak;generalize ws[i]=o at hw;have tw:=Et hp wq;cases o with
 |none=>exact⟨ws,wq.fst,hw⟩
 |some u=>
  have hs:IsSt cs f qs ws ⟨plF cs.length (O u),plF cs.length zP,KD f i zP-KD f i (O u),O i⟩:=.mv hw (λz=>by cases z) λu e=>by cases e
  have h1:=tw.got i u hw;have hu:=hp.lo _ (wq.dl.wish i u hw);have h2:=OM wq (k:=u.toNat) (by lia);have h3:=LN hp wq;have he:K6 T (prW cs f qs ws) cs.length u.toNat+((cs.length+1:Nat):Int)*(0-f ((i:Int),u))=K6 T (prW cs f qs ws) cs.length cs.length:=by rw[h3,←h2,Int.mul_sub,Uj];omega
  obtain⟨us,hu,r,r1,r2,r3,_,r4⟩:=Lc hp wq hs he (λz=>by cases z.1);refine⟨us,hu,?_⟩;rw[Gj hp wq.dl r2 r3 r4 r1 zO];show O (ZV cs.length cs.length)=_;unfold ZV;rw[Qu zO]
def wn(hp:Zy cs.length m qs)(wq:WebQ cs f qs m ws T as ps L){k}(hk:k<cs.length)(e:ps.getD k 0=0):∃us∈L,((us.count (O (k:Int)):Nat):Int)<cs.getD k 0:=by
 have h2:=OM wq hk;have h3:=LN hp wq;have he:K6 T (prW cs f qs ws) cs.length cs.length+((cs.length+1))*0=K6 T (prW cs f qs ws) cs.length k:=by rw[h3,←h2,e];rfl
 obtain⟨us,hu,r,r1,r2,r3,r5,r4⟩:=Lc hp wq (.give hk) he (λz=>by lia);exact⟨us,hu,xK hp wq.dl r2 r3 r5 r4 r1 zO hk zO⟩
structure WR(cs:zT)(f:Int×Int->Int)(qs:LP)(m:Nat)(us:LO):Prop where
 dl:Zx cs qs m us
 mx:∀vs,Zx cs qs m vs->Kl f 0 vs<=Kl f 0 us
end
noncomputable def KM(xs:zT):zT:=((UH xs.length).filter λi=>decide (0<xs.getD i 0)).map λi:Nat=>(i:Int)
def xH{xs:zT}(hl:xs.length<=1000){Z:U5}(h:∃x,Z=[x,zP,zP]):Zf (gT 2 (gNC (gN 1) (gNC (gN 2) gN0))) (Zp (oIB λi j=>decide (j<i)) 2 (U2 (.int 0))) (UW 1) (Yu 0 (xs.map int)) Z []=O ((KM xs).map int):=by
 have e:Yu 0 (xs.map int)=(UH xs.length).map λi=>PyData.tuple [.int (i:Nat),.int (xs.getD i 0)]:=by
  apply J0;intro i;rw[OB,Qd,Qd,QX];by_cases c:i<xs.length
  .rw[QT c]
   show Option.map _ (Option.map _ xs[i]?)=O (PyData.tuple [.int (i:Nat),.int (xs.getD i 0)]);rw[Qn,Qe c];rfl
  .rw[Jx (by lia),Jx  (by rw[Qp];lia)]
   rfl
 rw[e];have h:∃x y z,Z=[x,y,z]:=let ⟨x,e⟩:=h;⟨x,_,_,e⟩
 refine(Yn _ _ (λi:Nat=>int (i:Nat)) (λZ=>∃x y z,Z=[x,y,z]) (UH xs.length) _ [] ?_ h (by rw[Qm,Qp];lia)).trans (by rw[Qw];unfold KM;rw[QL];rfl);rintro i hi Z ⟨x,y,z,rfl⟩;exact⟨[x,O _,O _],Kr zO (U9 (U4 (Qa zO) zO) (U9 (U4 (Qa zO) zO) Ks)),ZO zO Ka Wp,λ_=>UX zO,WT x,_,_,rfl⟩
def qd{xs:zS}{a:Nat}:DL.cutD xs zP (O (a:Int))=xs.take a:=by
 unfold DL.cutD HT.sIx;dsimp only;rw[QJ (by omega),List.drop_zero,Nat.sub_zero,QQ];rcases Nat.le_total a xs.length with h|h
 .rw[Ub h]
 .rw[Nat.min_eq_right h,Je,List.take_of_length_le h]
def Es{xs:zS}{a:Nat}:DL.cutD xs (O (a:Int)) zP=xs.drop a:=by
 unfold DL.cutD HT.sIx;dsimp only;rw[QJ (by omega),QQ];rcases Nat.le_total a xs.length with h|h
 .rw[Ub h,←Q8,Je]
 .rw[Nat.min_eq_right h,List.drop_length,List.drop_of_length_le h,Nat.sub_self];rfl
def FE(n:Nat):Ys 0 ((n:Nat):Int)=(UH n).map λk=>.int (k:Int):=by
 unfold Ys;have:((n:Int)-0).toNat=n:=by omega
 rw[this];exact List.map_congr_left λk _=>by rw[Jj]
section
variable{cs:zT}{ls:L3}{ws:LO}{W:List (Nat×zZ)}
def MA(d:D):XA [d]=O (.bool (whB d)):=by
 cases d with
 |dict kvs=>exact K3 (Z:=[pb (.dict kvs)]) zO (Kv (Wi (t:=zR) (u:=zR) (Mc (UX zO)) λz=>by cases z) zO)
 |_=>rfl
end
section
variable{cs:zT}{ls:L3}{ws:LO}{W:List (Nat×zZ)}{o:Ord}{old:ae}{ts:zT}
def xG(g:Good cs ls)(ga:Yo cs.length ls.length old ts)(dl:Deal cs ls ws):Td [Kz cs ls,KI o old ts,Kp ws]=O (.int (ZQ (YM (Zz ls o old ts) 0 ls ws))):=by
 let S0:Option Sl:=O (.pub (Kz cs ls))
 let S1:Option Sl:=O (.pub (KI o old ts))
 let S2:Option Sl:=O (.pub (Kp ws))
 have hl:=dl.len
 let G:=YM (Zz ls o old ts) 0 ls ws
 refine K3 (Z:=[S0,S1,S2,zP,zP,zP]) zO ?_;unfold SY;refine Kq (KY Ka (Qa zO) zO) ?_;apply KW;apply ZD (λk Z=>∃x4 x5,Z=[S0,S1,S2,pb (.int (ZQ (G.take k))),x4,x5])
 case h1=>exact Y9 (U0 (UX zO) U6) Xa
 case h0=>exact⟨_,_,rfl⟩
 case hst=>
  rintro k d Z hk ⟨x4,x5,rfl⟩;obtain⟨x,hx,rfl⟩:=Xo hk;rw[QX];rw[Qd]at hx;cases hp:ws[k]? with
  |none=>rw[hp]at hx;cases hx
  |some w=>
  rw[hp]at hx;cases hx;have aN:k<ls.length:=by have:=(Qg.mp hp).1;lia
  have hs:ls[k]?=O ls[k]:=Qe aN;have hG   :=by have:=Lh (W:=Zz ls o old ts) (k:=0) hs hp;rw[QX]at this;exact this
  have cc:ZQ (G.take (k+1))=ZQ (G.take k)+(w.map (Zz ls o old ts k ls[k])).getD 0:=by
   rw[JS,hG,yw]
   congr 1
   exact(De (l:=[])).trans (Int.add_zero _)
  refine⟨_,Kr zO (U9 (U4 (Qa zO) zO) (U9 (U4 (Qa zO) zO) Ks)),?_⟩;unfold Gs;cases w with
  |none=>
   refine KE (b:=zR) (PP (d:=.none) (UX zO) zO) (λz=>by cases z) λ_=>K1 (Zd ⟨O (.pub (.int (k:Nat))),O (.pub .none),?_⟩)
   rw[cc];show _=[S0,S1,S2,pb (.int (ZQ (G.take k)+0)),_,_];rw[Int.add_zero];rfl
  |some t=>
   refine KE (b:=zQ) (PP (d:=.int t) (UX zO) zO) (λ_=>Yp (KY (Kf (UX zO) (Ko (U0 (UX zO) (U0 (UX zO) (U0 (UX zO) (U0 (UX zO) U6)))) zO (LJ g ga hs (dl.wish k t _ hp hs))) Ze) (Qa zO) zO) (Zd ⟨O (.pub (.int (k:Nat))),pb (.int t),?_⟩)) λz=>by cases z
   rw[cc];rfl
 case hend=>rintro Z ⟨x4,x5,rfl⟩;refine KU (Kv (UX rfl) ?_);rw[YH,Qb,List.take_of_length_le (by rw[Li hl];lia)]
def zL(g:Good cs ls)(dl:Deal cs ls ws):Ta [Kz cs ls,Kp ws]=O (.bool zQ):=by
 let S0:Option Sl:=O (.pub (Kz cs ls))
 let S1:Option Sl:=O (.pub (Kp ws))
 refine K3 (Z:=[S0,S1,zP,zP,zP]) zO ?_;unfold SW;have l7:=g.l7;have c6:=g.c6;have hl:=dl.len;have al:Kn [.list (ls.map Zm)]=O (.int ls.length):=by rw[Zg,Qb]
 have aw:Kn [.list (cs.map int)]=O (.int cs.length):=by rw[Zg,Qb]
 have hul:Kn [Kp ws]=O (.int ws.length):=by unfold Kp;rw[Zg,Qb]
 have hne:oNe (.int ws.length) (.int ls.length)=O zR:=by rw[Wg,hl,QB zO];rfl
 apply KW;refine KE (b:=zR) (Z1:=[S0,S1,zP,zP,zP]) (ZZ (Yv (UX zO) zO) (Kf (Zu zO hul) (Zj (U0 (Kt zO Ka XS) U6) al) hne)) (λz=>by cases z) λ_=>K1 (KU ?_)
 apply KW;apply ZD (λi Z=>∃x2 x3:zU,Z=[S0,S1,x2.map Sl.pub,x3.map Sl.pub,zP])
 case h1=>exact Y9 (U0 (UX zO) U6) Xa
 case h0=>exact⟨zP,zP,rfl⟩
 case hst=>
  rintro i d Z hi ⟨x2,x3,rfl⟩;obtain⟨z,hz,rfl⟩:=Xo hi;rw[Qd]at hz;cases hwi:ws[i]? with
  |none=>rw[hwi]at hz;cases hz
  |some w=>
  rw[hwi]at hz;cases hz;have ak:i<ls.length:=by have:=(Qg.mp hwi).1;omega
  have hls:ls[i]?=O ls[i]:=Qe ak;rw[QX];refine⟨_,Kr zO (U9 (U4 (Qa zO) zO) (U9 (U4 (Qa zO) zO) Ks)),?_⟩;unfold Gr
  let R:U5:=[S0,S1,pb (.int (i:Nat)),pb (Ky w),zP]
  have nn:Kb (λd=>!isNon d) (UW 3) R=.ok (!isNon (Ky w)) R:=PP (UX zO) zO;have hfl:ls[i].flatten.length<64:=by have:=Pu (g.rk ls[i] (JI ak));omega
  apply KW;refine KE (b:=zR) (Z1:=R) (Fc nn (λz=>?_) λ_=>rfl) (λz=>by cases z) λ_=>K1 (KU ?_)
  .cases w with
   |none=>cases z
   |some t=>exact Z9 (Yj (t:=zQ) (Ko (U0 (UX zO) U6) zO (MA (.int t))))
  refine KE (b:=zR) (Z1:=R) (Fc nn (λz=>?_) λ_=>rfl) (λz=>by cases z) λ_=>K1 (Zd ⟨O _,O _,rfl⟩)
  cases w with
  |none=>cases z
  |some t=>exact ZO zO (Ko (U0 (UX zO) (U0 (UX zO) U6)) zO (Ll hls hfl)) (by show Y1 (.int t) _=_;unfold Y1;rw[Nh];have:(Xm ls[i].flatten).contains t=zQ:=List.contains_iff_mem.mpr ((W4 ls[i].flatten).mem_iff.mpr (dl.wish i t _ hwi hls));rw[this];rfl)
 case hend=>
  rintro Z ⟨x2,x3,rfl⟩;refine KU ?_
  have hc:Zf (gN 5) (U1 (oIB λi j=>decide (j<i)) (Vy (UW 1) (UZ (UW 5) (UY))) (U1 oIx (U8 0 (U2 (.int 0))) (UW 5))) (UW 5) (Ys 0 cs.length) (KR [S0,S1,x2.map Sl.pub,x3.map Sl.pub,zP]++UI 1 zP) []=O (([]:zT).map int):=by
   rw[W6 (λ_=>zR) (λd=>d) (λZ=>∃y2 y3 x,Z=[S0,S1,y2,y3,zP,x]),List.filter_eq_nil_iff.mpr (λ_ _ h=>by cases h)]
   .rfl
   .rintro d hm Z ⟨y2,y3,x,rfl⟩
    obtain⟨k,hk⟩:=Ud.mp hm;obtain⟨rfl,aN⟩:=XY hk;rw[Jj];have hkc:k<cs.length:=by omega
    have hix:oIx (.list (cs.map int)) (.int ((k:Nat):Int))=O (.int cs[k]):=Zv (by rw[Qd,Qe hkc];rfl);have:=dl.cop k _ (Qe hkc);exact⟨_,U4 (Qa zO) zO,Kf (Oq (UX zO) (U0 (UX zO) U6) Oz) (Kf (Kt zO Ka Wl) (UX zO) hix) (by rw[Wp,QG (by omega)]),(λz=>by cases z),_,_,_,rfl⟩
   .exact⟨_,_,zP,rfl⟩
   .rw[YZ,Qm];omega
  refine Kq (Z1:=[S0,S1,x2.map Sl.pub,x3.map Sl.pub,O (.own (([]:zT).map int))]) (Z8 (Zi (Y7 (U0 (Zj (U0 (Kt zO Ka Wl) U6) aw) U6) (Y8 (by omega) (by omega))) hc) (Qa zO) zO) ?_;exact Kv (KJ (M8 zO (ZN U6 (Qa zO)) zO (show oEq (.list []) (.list [])=O zQ by kernel_rfl))) zO
end
def X1(n:Nat):D->Bool
 |.list xs=>decide (xs.length=n)&&xs.all (λx=>isNon x || whB x)
 |_=>zR
def Nj(n)(xs:zS):X1 n (.list xs)=(decide (xs.length=n)&&xs.all (λx=>isNon x || whB x)):=rfl
theorem FD:∀{xs},xs.all (λx=>isNon x || whB x)=zQ->∃ws:LO,xs=ws.map Ky
 |[],_=>⟨[],rfl⟩
 |x::r,h=>by
  rw[Uv,QM]at h;obtain⟨ws,rfl⟩:=FD h.2;cases x with
  |int i=>exact⟨O i::ws,rfl⟩
  |none=>exact⟨none::ws,rfl⟩
  |_=>have z:=h.1;cases z
def Lb   (h:X1 n d=zQ):∃ws,d=Kp ws/\ws.length=n:=by
 cases d with
 |list xs=>rw[Nj,QM]at h;obtain⟨ws,rfl⟩:=FD h.2;exact⟨ws,rfl,by have:=Qa h.1;rw[Qb]at this;exact this⟩
 |_=>cases h
def yF{d:D}{n:Nat}(hl:∀xs,d=.list xs->xs.length<=1000):Vo [d,.int n]=O (.bool (X1 n d)):=by
 refine K3  rfl ?_;unfold V5;apply KW;cases d with
 |list xs=>
  have hl:=hl xs zO;refine KE   (ZZ (Yv (UX zO) zO) (Kf (Zu zO Zg) (UX zO) Wg)) (λhh=>?_) (λhh=>?_)
  .have h3   :=by simpa using hh
   refine Kv Ka (ZP ?_);rw[Nj,QG (by omega)];rfl
  .have h3:(xs.length:Int)=(n:Int):=by simpa using hh
   refine K1 (KU ?_)
   have hc:Zf (gN 2) (U2 zQ) (Xf (Kb (λd=>.bool (isNon d)) (UW 2)) (U7 1 Yr (UZ (UW 2) (UY)))) xs (KR [pb (.list xs),pb (.int n)]++UI 1 zP) []=O ((xs.map λd=>isNon d || whB d).map UK):=by
    rw[W6 (λ_=>zQ) (λd=>.bool (isNon d || whB d)) (λZ=>∃x,Z=[pb (.list xs),pb (.int n),x])]
    .rw[QR.mpr (λ_ _=>rfl),Qw,QL];rfl
    .rintro d hm Z ⟨x,rfl⟩
     exact⟨_,U4 (Qa zO) zO,rfl,λ_=>Sv (KJ  (UX zO)) (λ_=>Ko (U0 (UX zO) U6) zO (On d)),_,rfl⟩
    .exact⟨zP,rfl⟩
    .rw[Qm];omega
   refine Kv (Zj (U0 (KJ (Zi (Zh (UX zO) Zt) hc)) U6) VP) ?_;rw[Nj,QB (by omega),Ua];rfl
 |dict kvs=>exact KE (b:=zQ) (Vx (Nd (UX zO))) (λ_=>Kv Ka (ZP zO)) (λz=>by cases z)
 |_=>exact KE (b:=zQ) (Vx (Yv (UX zO) zO)) (λ_=>Kv Ka (ZP zO)) (λz=>by cases z)
noncomputable def Xc(ls:L3)(ws:LO)(i:Nat):Bool:=match ws[i]? with
 |some (O t)=>decide (ZC t (ls.getD i [])=0)
 |_=>zR
noncomputable def WB(cs:zT)(ws:LO)(k:Nat):Bool:=decide (cs.getD k 0<((ws.count (O (k:Int)):Nat):Int))
def P3(cs:zT)(ws:LO):D:=match (UH cs.length).find? (WB cs ws)with
 |some k=>.tuple [.str "copies", .int k]
 |none=>.none
def Sy(cs:zT)(ls:L3)(ws:LO):D:=match (UH ws.length).find? (Xc ls ws)with
 |some i=>.tuple [.str "wish", .int i]
 |none=>P3 cs ws
noncomputable def Gi  {n i}(hi:i<n)(h:p i=zQ)(hb:∀j,j<i->p j=zR):(UH n).find? p=O i:=by simp_all
noncomputable def Gh  {n}(hb:∀j,j<n->p j=zR):(UH n).find? p=zP:=by simp_all
section
variable{cs:zT}{ls:L3}{ws:LO}
def Gg   {t}(h1:ws[i]?=O (O t))(h2:ls[i]?=O rs):Xc ls ws i=decide (ZC t rs=0):=by unfold Xc;simp_all
def Ge   (h:cs[k]?=O c):WB cs ws k=decide (c<((ws.count (O (k:Int)):Nat):Int)):=by unfold WB;simp_all
def xF(g:Good cs ls)(hl:ws.length=ls.length):Vn [Kz cs ls,Kp ws]=O (Sy cs ls ws):=by
 have l7:=g.l7;refine K3  rfl ?_;unfold RK
 let S0:Option Sl:=O (.pub (Kz cs ls))
 let S1:Option Sl:=O (.pub (Kp ws))
 let S2:Option Sl:=O (.pub (.list (cs.map int)))
 let S3:Option Sl:=O (.pub (.list (ls.map Zm)))
 refine Kq (Wh (Ko (U0 (UX zO) U6) zO (SH g))) ?_;refine Kq (Z1:=[S0,S1,S2,S3,zP,zP,zP,zP]) (YD (UX zO) (Kr zO (U9 (U4 (Qa zO) zO) (U9 (U4 (Qa zO) zO) Ks)))) ?_;apply KW;have hlen:Kn [.list (ls.map Zm)]=O (.int ws.length):=by rw[Zg,Qb,hl]
 refine KE (b:=zR) (Z1:=[S0,S1,S2,S3,zP,zP,zP,zP]) (Z9 (Yj (t:=zQ) (Ko (U0 (UX zO) (U0 (Zu zO hlen) U6)) zO (yA (ws:=ws) (by omega))))) (λz=>by cases z) (λ_=>K1 (KU ?_));apply KW;apply ZD (λi Z=>∃x4 x5,Z=[S0,S1,S2,S3,x4,x5,zP,zP]/\∀j,j<i->Xc ls ws j=zR)
 case h1=>exact Y9 (U0 (UX zO) U6) Xa
 case h0=>exact⟨_,_,rfl,λj h=>absurd h (Jq _)⟩
 case hst=>
  rintro i d Z hi ⟨x4,x5,rfl,hI⟩;obtain⟨x,hx,rfl⟩:=Xo hi;rw[Qd]at hx;obtain⟨w,hw,rfl⟩:=Jr.mp hx;rw[QX];have hiw:i<ws.length:=(Qg.mp hw).1;refine⟨[S0,S1,S2,S3,pb (.int i),pb (Ky w),zP,zP],Kr zO (U9 (U4 (Qa zO) zO) (U9 (U4 (Qa zO) zO) Ks)),?_⟩;unfold Gx
  have nxt:∀j,Xc ls ws i=zR->j<i+1->Xc ls ws j=zR:=λj h hj=>by
   by_cases e:j=i
   .rw[e];exact h
   .exact hI j (by omega)
  cases w with
  |none=>exact KE (b:=zR) (Pl (PP (UX zO) zO)) (λz=>by cases z) (λ_=>K1 (Zd ⟨_,_,rfl,λj hj=>nxt j (by unfold Xc;rw[hw]) hj⟩))
  |some t=>
   have hls:ls[i]?=O (ls[i]'(by omega)):=Qe (by omega);refine KE (b:=decide (((ZC t (ls[i]'(by omega)):Nat):Int)=0))  (Sa (PP (UX zO) zO) (Kf (Ko (U0 (Kt zO (UX zO) (NM hls)) (U0 (UX zO) U6)) zO (Dv t _)) Ka Yk)) (λh=>?_) (λh=>?_)
   .have h0:ZC t (ls[i]'(by omega))=0:=by have:=Qa h;omega
    refine Kv (ZU (U0 Ka (U0 (UX zO) U6)) (Qa zO)) (VI (ZP ?_));unfold Sy;rw[Gi hiw (by rw[Gg hw hls,h0];rfl) hI]
   .have h0:¬ZC t (ls[i]'(by omega))=0:=by have:=Jc h;omega
    exact K1 (Zd ⟨_,_,rfl,λj hj=>nxt j (by rw[Gg hw hls];exact QG h0) hj⟩)
 case hend=>
  rintro Z ⟨x4,x5,rfl,hI⟩;rw[YH,Qb]at hI;have hW:Sy cs ls ws=P3 cs ws:=by unfold Sy;rw[Gh hI]
  rw[hW];refine KU ?_;apply KW;apply ZD (λi Z=>∃x4 x5 x6 x7,Z=[S0,S1,S2,S3,x4,x5,x6,x7]/\∀j,j<i->WB cs ws j=zR)
  case h1=>exact Y9 (U0 (UX zO) U6) Xa
  case h0=>exact⟨_,_,_,_,rfl,λj h=>absurd h (Jq _)⟩
  case hst=>
   rintro i d Z hi ⟨x4,x5,x6,x7,rfl,hJ⟩;obtain⟨x,hx,rfl⟩:=Xo hi;rw[Qd]at hx;obtain⟨c,hc,rfl⟩:=Jr.mp hx;rw[QX];have hic:i<cs.length:=(Qg.mp hc).1;refine⟨[S0,S1,S2,S3,x4,x5,pb (.int i),pb (.int c)],Kr zO (U9 (U4 (Qa zO) zO) (U9 (U4 (Qa zO) zO) Ks)),?_⟩;unfold Gy;refine KE (Z1:=[S0,S1,S2,S3,x4,x5,pb (.int i),pb (.int c)]) (Kf (Oq (UX zO) (U0 (UX zO) U6) Oz) (UX zO) Wp) (λh=>?_) (λh=>?_)
   .refine Kv (ZU (U0 Ka (U0 (UX zO) U6)) (Qa zO)) (VI (ZP ?_))
    unfold P3;rw[Gi hic (by rw[Ge hc];exact h) hJ]
   .exact K1 (Zd ⟨_,_,_,_,rfl,λj hj=>by
     by_cases e:j=i
     .rw[e,Ge hc];exact h
     .exact hJ j (by omega)⟩)
  case hend=>rintro Z ⟨x4,x5,x6,x7,rfl,hJ⟩;rw[YH,Qb]at hJ;refine KU (Kv Ka ?_);unfold P3;rw[Gh hJ]
end
noncomputable abbrev K5(tm:Int)(as ps:zT)(L:z9):D:=.tuple [KG tm as ps,.list (L.map Kp)]
def qc(os:LO):oIn .none (.list (os.map Ky))=O (os.any Option.isNone):=by
 show(if(PyData.none).canLay0=zQ/\UN _=zQ/\(PyData.none).depth<=60 then O _ else zP)=_
 rw[if_pos ⟨rfl,Ow os,by simp[UO]⟩]
 congr 1
 rw[Ui]
 congr 1
 funext o;cases o<;>rfl
def Er(xs:zT):Yu 0 (xs.map int)=(UH xs.length).map λi=>PyData.tuple [.int (i:Nat),.int (xs.getD i 0)]:=by
 apply J0;intro i;rw[OB,Qd,Qd,QX];by_cases c:i<xs.length
 .simp_all
 .simp_all
def wl(l:List Bool):(l.map UK).all flat=zQ:=by rw[Q2];intro x hx;obtain⟨y,_,rfl⟩:=Qs.mp hx;rfl
section
variable{cs:zT}{ls:L3}{o:Ord}{old:ae}{ts:zT}{tm:Int}{as ps:zT}{ws us:LO}{L:z9}{m:Nat}
noncomputable def Sk(L:z9)(T:LP):Bool:=T.all λq=>L.any λus=>decide (us.getD q.1.toNat zP=O q.2)
noncomputable def PL(L:z9)(as:zT):Bool:=(UH as.length).all λi=>decide (0<as.getD i 0) || L.any λus=>(us.getD i zP).isNone
noncomputable def PK(cs:zT)(L:z9)(ps:zT):Bool:=(UH ps.length).all λk=>decide (0<ps.getD k 0) || L.any λus=>decide (0<(YQ cs us).getD k 0)
def zG{T:LP}(hT:∀q∈T,0<=q.1/\q.1<m)(bd:T.length<=1000)(hL:∀us∈L,us.length=m)(aU:L.length<=1000):Vl [.list (L.map Kp),.list (T.map Kx)]=O (.bool (Sk L T)):=by
 refine K3  rfl ?_
 let S0:Option Sl:=O (.pub (.list (L.map Kp)))
 let S1:Option Sl:=O (.pub (.list (T.map Kx)))
 refine Kv (Zj (U0 (KJ (Zi (Zh (UX zO) Zt) ((Yn Kx (λ_=>zQ) (λq=>UK (L.any λus=>decide (us.getD q.1.toNat zP=O q.2))) (λZ=>∃x y,Z=[S0,S1,x,y]) T _ [] ?_ ⟨zP,zP,rfl⟩ (by rw[Qm];lia)).trans (by rw[Qw,QR.mpr (λ_ _=>rfl)])))) U6) ?_) zO
 .rintro q hq Z ⟨x,y,rfl⟩
  obtain⟨a1,a2⟩:=hT q hq;refine⟨_,Kr zO (U9 (U4 (Qa zO) zO) (U9 (U4 (Qa zO) zO) Ks)),rfl,λ_=>Zj (U0 (KJ (Zi (Zh (UX zO) Zt) ((Yn Kp (λ_=>zQ) (λus=>UK (decide (us.getD q.1.toNat zP=O q.2))) (λZ=>∃x,Z=[S0,S1,pb (.int q.1),pb (.int q.2),x]) L _ [] ?_ ⟨zP,rfl⟩ (by rw[Qm];lia)).trans (by rw[Qw,QR.mpr (λ_ _=>rfl)])))) U6) ?_,_,_,rfl⟩
  .rintro us hu Z ⟨x,rfl⟩
   exact⟨_,U4 (Qa zO) zO,rfl,λ_=>KJ (Kf (Kt zO (UX zO) (T9 a1 (by have:=hL us hu;lia))) (UX zO) (Pb (b:=O q.2))),_,rfl⟩
  .rw[show(L.map λus=>UK _)=(L.map λus=>decide _).map UK by rw[QL];rfl,GA,Ui]
   rfl
 .rw[show(T.map λq=>UK _)=(T.map λq=>L.any λus=>decide _).map UK by rw[QL];rfl,VP,Ua]
  rfl
def zK(ha:as.length=m)(hm:m<=1000)(hL:∀us∈L,us.length=m)(aU:L.length<=1000):TB [.list (L.map Kp),.list (as.map int)]=O (.bool (PL L as)):=by
 refine K3  rfl ?_
 let S0:Option Sl:=O (.pub (.list (L.map Kp)))
 let S1:Option Sl:=O (.pub (.list (as.map int)))
 refine Kv (Zj (U0 (KJ (Zi (Y9 (U0 (UX zO) U6) (Xa.trans (by rw[Er]))) ((Yn _ (λ_=>zQ) (λi=>UK (decide (0<as.getD i 0) || L.any λus=>(us.getD i zP).isNone)) (λZ=>∃x y,Z=[S0,S1,x,y]) _ _ [] ?_ ⟨zP,zP,rfl⟩ (by rw[Qm,Qp];lia)).trans (by rw[Qw,QR.mpr (λ_ _=>rfl)])))) U6) ?_) zO
 .rintro i hi Z ⟨x,y,rfl⟩
  have hi:=QE.mp hi;refine⟨_,Kr zO (U9 (U4 (Qa zO) zO) (U9 (U4 (Qa zO) zO) Ks)),rfl,λ_=>Sv (KJ (ZO zO Ka Wp)) λ_=>KJ (Kf Ka (KJ (Zi (Zh (UX zO) Zt) ((Yn Kp (λ_=>zQ) (λus=>Ky (us.getD i zP)) (λZ=>∃x,Z=[S0,S1,pb (.int (i:Nat)),pb (.int (as.getD i 0)),x]) L _ [] ?_ ⟨zP,rfl⟩ (by rw[Qm];lia)).trans (by rw[Qw,QR.mpr (λ_ _=>rfl)])))) ?_),_,_,rfl⟩
  .rintro us hu Z ⟨x,rfl⟩
   have hix:=T9 (ws:=us) (k:=(i:Int)) (by lia) (by have:=hL us hu;lia);exact⟨_,U4 (Qa zO) zO,rfl,λ_=>Kt zO (UX zO) hix,_,rfl⟩
  .rw[show(L.map λus=>Ky _)=(L.map λus=>us.getD i zP).map Ky by rw[QL];rfl,qc,Ui]
   rfl
 .rw[show((UH as.length).map λi=>UK _)=((UH as.length).map λi=>decide (0<as.getD i 0) || L.any λus=>(us.getD i zP).isNone).map UK by rw[QL];rfl,VP,Ua]
  rfl
def zx(g:Good cs ls)(hp:ps.length=cs.length)(aU:L.length<=1000):Tz [Kz cs ls,.list (L.map Kp),.list (ps.map int)]=O (.bool (PK cs L ps)):=by
 have c6:=g.c6;refine K3  rfl ?_;unfold Ry
 let S0:Option Sl:=O (.pub (Kz cs ls))
 let S1:Option Sl:=O (.pub (.list (L.map Kp)))
 let S2:Option Sl:=O (.pub (.list (ps.map int)))
 let lfD:LO->D:=λus=>.list ((YQ cs us).map int)
 refine Kq  (Z8 (Zi (Zh (UX zO) Zt) ((Yn Kp (λ_=>zQ) lfD (λZ=>∃x,Z=[S0,S1,S2,zP,x]) L _ [] ?_ ⟨zP,rfl⟩ (by rw[Qm];lia)).trans (by rw[Qw,QR.mpr (λ_ _=>rfl)]))) (Qa zO) zO) ?_
 .rintro us hu Z ⟨x,rfl⟩
  exact⟨_,U4 (Qa zO) zO,rfl,λ_=>Ko (U0 (UX zO) (U0 (UX zO) U6)) zO (D4 g),_,rfl⟩
 refine Kv (Zj (U0 (KJ (FZ (Y9 (U0 (UX zO) U6) (Xa.trans (by rw[Er]))) ((Yn _ (λ_=>zQ) _ (λZ=>∃x y,Z=[S0,S1,S2,pb (.list (L.map lfD)),x,y]) (UH ps.length) _ [] ?_ ⟨zP,zP,rfl⟩ (by rw[Qm,Qp];lia)).trans (by rw[Qw,QR.mpr (λ_ _=>rfl),show((UH ps.length).map λi=>UK _)=((UH ps.length).map λi=>decide (0<ps.getD i 0) || L.any λus=>decide (0<(YQ cs us).getD i 0)).map UK by rw[QL];rfl])) (wl _))) U6) ?_) zO
 .rintro i hi Z ⟨x,y,rfl⟩
  have hi:=QE.mp hi;refine⟨_,Kr zO (U9 (U4 (Qa zO) zO) (U9 (U4 (Qa zO) zO) Ks)),rfl,λ_=>Sv (KJ (ZO zO Ka Wp)) λ_=>Zj (U0 (KJ (Zi (Zh (UX zO) Zt) ((Yn lfD (λ_=>zQ) (λus=>UK (decide (0<(YQ cs us).getD i 0))) (λZ=>∃x,Z=[S0,S1,S2,pb (.list (L.map lfD)),pb (.int (i:Nat)),pb (.int (ps.getD i 0)),x]) L _ [] ?_ ⟨zP,rfl⟩ (by rw[Qm];lia)).trans (by rw[Qw,QR.mpr (λ_ _=>rfl)])))) U6) ?_,_,_,rfl⟩
  .rintro us hu Z ⟨x,rfl⟩
   have hix:oIx (lfD us) (.int (i:Int))=O _:=Xs (by lia) (by unfold YQ;rw[Qb,Qp];lia);rw[QQ]at hix;exact⟨_,U4 (Qa zO) zO,rfl,λ_=>KJ (Kf (Kt zO (UX zO) hix) Ka Wp),_,rfl⟩
  .rw[show(L.map λus=>UK _)=(L.map λus=>decide (0<(YQ cs us).getD i 0)).map UK by rw[QL];rfl,GA,Ui]
   rfl
 .rw[VP,Ua]
  rfl
end
section
variable{cs:zT}{ls:L3}{o:Ord}{old:ae}{ts:zT}{tm:Int}{as ps:zT}{ws us:LO}{L:z9}{m:Nat}{f:Int×Int->Int}{qs:LP}
theorem Gd(h0:∀q∈qs,0<=f q):∀(ws)(k),(∀(i) t,ws[i]?=O (O t)->(((k+i:Nat):Int),t)∈qs)->0<=Kl f k ws
 |[],_,_=>Jd _
 |o::r,k,h=>by
  have ih:=Gd h0 r _ λi t e=>by rw[show k+1+i=k+(i+1)by lia];exact h _ t e
  cases o with
  |none=>show 0<=0+Kl f _ r;lia
  |some t=>
   have:=h0 _ (h 0 t zO);show 0<=f ((k),t)+Kl f _ r;rw[Nat.add_zero]at this
   lia
def Ep(g:Good cs ls)(ga:Yo cs.length ls.length old ts)(hd:Zx cs (Ke 0 ls) ls.length us):0<=Kl (Kd (Km ls o old ts)) 0 us/\Kl (Kd (Km ls o old ts)) 0 us<18446744073709551616:=by
 have l7:=g.l7;have hw:∀(i:Nat) t,us[i]?=O _->(((0+i:Nat):Int),t)∈Ke 0 ls:=λi t e=>by rw[QX];exact hd.wish i t e
 have h1:=Mo  (f:=Kd (Km ls o old ts))  (by decide) (λq hq=>Ut (LG  g ga hq).2) us 0 hw;have h2:=Gd   (λq hq=>(LG (o:=o) g ga hq).1) us 0 hw;rw[hd.len]at h1;exact⟨h2,by lia⟩
def LX(g:Good cs ls)(ga:Yo cs.length ls.length old ts)(hla:as.length=ls.length)(aM:ps.length=cs.length):WL [Kz cs ls,KI o old ts,KG tm as ps]=O (.list ((Zs (Kd (Km ls o old ts)) (Ke 0 ls) tm as ps).map Kx)):=by
 have hp:=VH g;have aV:=Sz g;refine K3  rfl ?_;unfold Rz
 let S0:Option Sl:=O (.pub (Kz cs ls))
 let S1:Option Sl:=O (.pub (KI o old ts))
 let S2:Option Sl:=O (.pub (KG tm as ps))
 let S3:Option Sl:=O (.pub (.int tm))
 let S4:Option Sl:=O (.pub (.list (as.map int)))
 let S5:Option Sl:=O (.pub (.list (ps.map int)))
 let S6:Option Sl:=O (.pub (.list ((Ke 0 ls).map (ZM (Km ls o old ts)))))
 refine Kq  (YD (UX zO) (Kr zO (U9 (U4 (Qa zO) zO) (U9 (U4 (Qa zO) zO) (U9 (U4 (Qa zO) zO) Ks))))) ?_;refine Kq  (KY (Ko (U0 (UX zO) (U0 (UX zO) U6)) zO (NK g ga)) (Qa zO) zO) ?_;refine Kv (KJ (Zi (Zh (UX zO) Zt) ((Yn _ _ Kx (λZ=>∃x y z,Z=[S0,S1,S2,S3,S4,S5,S6,x,y,z]) (Ke 0 ls) _ [] ?_ ⟨zP,zP,zP,rfl⟩ (by rw[Qm];lia)).trans (by rw[Qw];rfl)))) zO;rintro q hqm Z ⟨x,y,z,rfl⟩;obtain⟨a1,a2,a3,a4⟩:=hp.lo q hqm;obtain⟨b1,b2⟩:=Pt (o:=o) g ga hqm;exact⟨_,Kr zO (U9 (U4 (Qa zO) zO) (U9 (U4 (Qa zO) zO) (U9 (U4 (Qa zO) zO) Ks))),Kf (Kf (Kt zO (UX zO) (Xs a1 (by lia))) (Kt zO (UX zO) (Xs a3 (by lia))) Ze) (Kf (UX zO) (UX zO) (Xb (by lia) b2)) Yk,λ_=>ZU (U0 (UX zO) (U0 (UX zO) U6)) (Qa zO),_,_,_,rfl⟩
def LM(hl:us.length=ls.length):isNon (Sy cs ls us)=zQ ↔ Deal cs ls us:=by
 unfold Sy;split
 .rename_i i e
  refine⟨λz=>(by cases z),λdl=>?_⟩;have hb:=List.find?_some e;unfold Xc at hb;split at hb
  .rename_i t hw
   have ak:i<ls.length:=by rw[←hl];exact(Qg.mp hw).1
   have:=Lw (dl.wish i t _ hw (Qe ak));simp_all
  simp_all
 .rename_i e
  have h1:=Ur.mp e;unfold P3;split
  .rename_i k e2
   refine⟨λz=>(by cases z),λdl=>?_⟩;have hk:=QE.mp (List.mem_of_find?_eq_some e2);have hb   :=Qa  (List.find?_some (p:=WB cs us) e2);have:=dl.cop k (cs.getD k 0) (by simp_all)
   lia
  .rename_i e2
   have h2:=Ur.mp e2;refine⟨λ_=>⟨hl,λi t rs hw hrs=>?_,λk c hc=>?_⟩,λ_=>rfl⟩
   .have:=h1 i (QE.mpr (Qg.mp hw).1)
    unfold Xc at this;rw[hw]at this;rw[Qn,hrs]at this;exact wz λz=>this (QB z)
   .have hk:=(Qg.mp hc).1
    have:=h2 k (QE.mpr hk);unfold WB at this;simp_all
noncomputable def W7:D->LO
 |.list xs=>xs.map whI
 |_=>[]
def PB(ws):W7 (Kp ws)=ws:=by
 show(ws.map Ky).map whI=ws
 have:whI ∘ Ky=id:=by funext o;cases o<;>rfl
 simp_all
def R9(cs:zT)(ls:L3)(d:D):D:=if X1 ls.length d=zQ then Sy cs ls (W7 d)else .tuple [.str "form"]
def ju(g:Good cs ls){d}(hl:∀xs,d=.list xs->xs.length<=1000):Vn [Kz cs ls,d]=O (R9 cs ls d):=by
 unfold R9;cases h:X1 ls.length d with
 |true=>obtain⟨ws,rfl,hw⟩:=Lb h;rw[PB];exact xF g hw
 |false=>
  refine K3  rfl ?_;refine Kq (Wh (Ko (U0 (UX zO) U6) zO (SH g))) ?_;refine Kq  (YD (UX zO) (Kr zO (U9 (U4 (Qa zO) zO) (U9 (U4 (Qa zO) zO) Ks)))) ?_;apply KW;have hlen:Kn [.list (ls.map Zm)]=O (.int ls.length):=by rw[Zg,Qb]
  have hf:=yF (n:=ls.length) hl;rw[h]at hf;exact KE   (Z9 (Yj  (Ko (U0 (UX zO) (U0 (Zu zO hlen) U6)) zO hf))) (λ_=>Kv (ZU (U0 Ka U6) (Qa zO)) (ZP zO)) (λz=>by cases z)
def clB(cs:zT)(ls:L3)(f:Int×Int->Int)(tm:Int)(as ps:zT)(d:D):Bool:=isNon (R9 cs ls d)&&decide (tm*Kl f 0 (W7 d)=ZT cs as ps)
def zB(g:Good cs ls)(ga:Yo cs.length ls.length old ts){d}(hl:∀xs,d=.list xs->xs.length<=1000):X8 [Kz cs ls,KI o old ts,KG tm as ps,d]=O (.bool (clB cs ls (Kd (Km ls o old ts)) tm as ps d)):=by
 refine K3  rfl ?_;apply KW;refine KE  (KJ (Ko (U0 (UX zO) (U0 (UX zO) U6)) zO (ju g hl))) (λh=>Kv Ka (ZP ?_)) λh=>K1 (KU ?_)
 .unfold clB
  simp_all
 .have h   :=by simpa using h
  have hx:=h;unfold R9 at hx;split at hx
  .rename_i hf
   obtain⟨us,rfl,hu⟩:=Lb hf;rw[PB]at hx;have du:=(LM hu).mp hx;have e:=Mn (o:=o) (old:=old) (ts:=ts) ls us ls 0 (λj rs h=>by simp_all) hu;have hw:=yv (o:=o) g ga hu;rw[←e]at hw;obtain⟨t1,t2⟩:=Ep  g ga (No du);refine Kv (KJ (Kf (Kf (Kt zO Ka Vt) (Ko (U0 (UX zO) (U0 (UX zO) (U0 (UX zO) U6))) zO hw) (Xb (by lia) t2)) (Ko (U0 (UX zO) (U0 (UX zO) U6)) zO (LR g)) Yk)) ?_;unfold clB;rw[h,PB];rfl
  .cases hx
structure GWeb(cs:zT)(f:Int×Int->Int)(qs:LP)(m:Nat)(tm:Int)(as ps:zT)(L:z9):Prop where
 one:1<=tm
 ok:OkP cs.length m (λa b=>f (a,b)) qs tm as ps
 ne:L≠[]
 best:∀us∈L,Zx cs qs m us/\tm*Kl f 0 us=ZT cs as ps
 wish:Sk L (Zs f qs tm as ps)=zQ
 noth:PL L as=zQ
 left:PK cs L ps=zQ
theorem Hw:∀{ds},ds.all (clB cs ls f tm as ps)=zQ->∃L:z9,ds=L.map Kp/\∀us∈L,Deal cs ls us/\tm*Kl f 0 us=ZT cs as ps
 |[],_=>⟨[],rfl,λ_ h=>by cases h⟩
 |d::ds,h=>by
  rw[Uv,QM]at h;obtain⟨L,rfl,hL⟩:=Hw h.2;have hd:=h.1;unfold clB at hd;rw[QM,Jl]at hd;have hx:=hd.1;unfold R9 at hx;split at hx
  .rename_i hf
   obtain⟨us,rfl,hu⟩:=Lb hf;have h2:=hd.2;rw[PB]at hx h2;exact⟨us::L,rfl,λx hx'=>(Qx.mp hx').elim (λe=>e ▸ ⟨(LM hu).mp hx,h2⟩) (hL x)⟩
  .cases hx
def qb(du:Deal cs ls us)(h:tm*Kl f 0 us=ZT cs as ps):clB cs ls f tm as ps (Kp us)=zQ:=by
 unfold clB R9;have hf:X1 ls.length (Kp us)=zQ:=by show X1 _ (.list _)=zQ;rw[Nj,QM];refine⟨QB (by rw[Qb];exact du.len),Q2.mpr λx hx=>?_⟩;obtain⟨o,_,rfl⟩:=Qs.mp hx;cases o<;>rfl
 rw[Qu hf,PB,(LM du.len).mpr du,h];simp
def ShW(d:D):Prop:=∀p w,d=.tuple [p,w]->ShP p/\∀ds,w=.list ds->ds.length<=1000/\∀x∈ds,∀xs,x=.list xs->xs.length<=1000
def CO{xs:zS}(h:xs.length=2):∃a b,xs=[a,b]:=by
 match xs,h with
 |[a,b],_=>exact⟨a,b,rfl⟩
def Gc{L1 L2:z9}(h:L1.map Kp=L2.map Kp):L1=L2:=by
 have:=J5 (List.map W7) h;rw[QL,QL]at this;have e:W7 ∘ Kp=id:=by funext x;exact PB x
 rwa[e,List.map_id,List.map_id]at this
def Se{p w:D}(e:PyData.tuple [p,w]=K5 tm as ps L):p=KG tm as ps/\w=.list (L.map Kp):=⟨(Jm (PyData.tuple.inj e)).1,(Jm (Jm (PyData.tuple.inj e)).2).1⟩
def MR   (e:KG tm as ps=KG aC ap am):tm=aC/\as=ap/\ps=am:=by
 have e3:=PyData.tuple.inj e;have i:∀{x y:zT},x.map int=y.map int->x=y:=λh=>(List.map_inj_right (λ_ _ h=>PyData.int.inj h)).mp h
 exact⟨PyData.int.inj (Jm e3).1,i (PyData.list.inj (Jm (Jm e3).2).1),i (PyData.list.inj (Jm (Jm (Jm e3).2).2).1)⟩
def DW(g:Good cs ls)(ga:Yo cs.length ls.length old ts){d:D}(hs:ShW d):∃b,WK [Kz cs ls,KI o old ts,d]=O (.bool b)/\(b=zQ ↔ ∃tm as ps L,d=K5 tm as ps L/\GWeb cs (Kd (Km ls o old ts)) (Ke 0 ls) ls.length tm as ps L):=by
 have hp:=VH g;have aV:=Sz g;have l7:=g.l7;have c6:=g.c6
 suffices ∃r,WK [Kz cs ls,KI o old ts,d]=O r/\∃b,r=.bool b/\(b=zQ ↔ ∃tm as ps L,d=K5 tm as ps L/\GWeb cs (Kd (Km ls o old ts)) (Ke 0 ls) ls.length tm as ps L)by obtain⟨_,h1,b,rfl,h2⟩:=this;exact⟨b,h1,h2⟩
 refine W2 (Z:=[pb (Kz cs ls),pb (KI o old ts),pb d,zP,zP,zP,zP,zP]) zO ?_;unfold Rx
 let S0:Option Sl:=O (.pub (Kz cs ls))
 let S1:Option Sl:=O (.pub (KI o old ts))
 let S2:Option Sl:=O (.pub d)
 refine Kq (Z1:=[S0,S1,S2,zP,zP,zP,zP,zP]) (Wh (Ko (U0 (UX zO) (U0 (UX zO) U6)) zO (OP g ga))) ?_;apply KW;have no:(¬∃tm as ps L,d=K5 tm as ps L/\GWeb cs (Kd (Km ls o old ts)) (Ke 0 ls) ls.length tm as ps L)->∃r,Out.rt (UK zR)=.rt r/\∃b,r=UK b/\(b=zQ ↔ ∃tm as ps L,d=K5 tm as ps L/\GWeb cs (Kd (Km ls o old ts)) (Ke 0 ls) ls.length tm as ps L):=λh=>⟨_,rfl,zR,rfl,λz=>(by cases z),λz=>absurd z h⟩
 cases d with
 |tuple xs=>
  by_cases h2:¬xs.length=2
  .refine KE (b:=zQ) (Z1:=[S0,S1,S2,zP,zP,zP,zP,zP]) ((ZZ (Yv (UX zO) zO) (Kf (Zu zO Oy) Ka Wg)).trans (by rw[show decide ((xs.length:Int)=2)=zR from QG (by lia)];rfl)) (λ_=>Kv Ka (ZP (no ?_))) λz=>by cases z
   rintro⟨_,_,_,_,e,_⟩;cases e;exact h2 zO
  obtain⟨p,w,rfl⟩:=CO (Decidable.not_not.mp h2);obtain⟨hP,hW⟩:=hs p w zO;refine KE (b:=zR) (Z1:=[S0,S1,S2,zP,zP,zP,zP,zP]) (ZZ (Yv (UX zO) zO) (Kf (Zu zO Oy) Ka Wg)) (λz=>by cases z) λ_=>K1 (KU ?_)
  let S3:Option Sl:=O (.pub p)
  let S4:Option Sl:=O (.pub w)
  refine Kq (Z1:=[S0,S1,S2,S3,S4,zP,zP,zP]) (YD (UX zO) (Kr zO (U9 (U4 (Qa zO) zO) (U9 (U4 (Qa zO) zO) Ks)))) ?_;apply KW;have a9:=jD (o:=o) g ga hP;cases hb:Xx cs.length ls.length (Km ls o old ts) (Ke 0 ls) p with
  |false=>
   rw[hb]at a9;refine KE (b:=zQ) (Z1:=[S0,S1,S2,S3,S4,zP,zP,zP]) (Vx (Z9 (t:=zR) (Yj (Ko (U0 (UX zO) (U0 (UX zO) (U0 (UX zO) U6))) zO a9)))) (λ_=>Kv Ka (ZP (no ?_))) λz=>by cases z
   rintro⟨_,_,_,_,e,gw⟩;have e1:=(Se e).1;subst e1;exact absurd (HX.mpr ⟨gw.one,gw.ok⟩) (by rw[show Xx cs.length ls.length (λa b=>Kd (Km ls o old ts) (a,b)) (Ke 0 ls) _=zR from hb];exact Bool.false_ne_true)
  |true=>
  rw[hb]at a9;have aM:KF (Zq (U7 3 Vm (UZ (UW 0) (UZ (UW 1) (UZ (UW 3) (UY)))))) [S0,S1,S2,S3,S4,zP,zP,zP]=.ok zR [S0,S1,S2,S3,S4,zP,zP,zP]:=Z9 (t:=zQ) (Yj (Ko (U0 (UX zO) (U0 (UX zO) (U0 (UX zO) U6))) zO a9));have hpb:YL cs.length ls.length p=zQ:=by unfold Xx at hb;rw[QM]at hb;exact hb.1
  obtain⟨tm,as,ps,rfl,h1,_,_,_⟩:=FT hpb;obtain⟨one,ok⟩:=HX.mp hb;have la:=ok.la;have lp:=ok.lp;cases w with
  |list ds=>
   obtain⟨w1,w2⟩:=hW ds zO;by_cases h0:ds.length=0
   .refine KE (b:=zQ) (Z1:=[S0,S1,S2,S3,S4,zP,zP,zP]) (ZZ aM (ZZ (Yv (UX zO) zO) ((Kf (Zu zO Zg) Ka Yk).trans (by rw[show decide ((ds.length:Int)=0)=zQ from QB (by lia)])))) (λ_=>Kv Ka (ZP (no ?_))) λz=>by cases z
    rintro⟨_,_,_,L,e,gw⟩;have e2:=PyData.list.inj (Se e).2;subst e2;rw[Qb]at h0;exact gw.ne (List.length_eq_zero_iff.mp h0)
   refine KE (b:=zR) (Z1:=[S0,S1,S2,S3,S4,zP,zP,zP]) (ZZ aM (ZZ (Yv (UX zO) zO) ((Kf (Zu zO Zg) Ka Yk).trans (by rw[show decide ((ds.length:Int)=0)=zR from QG (by lia)])))) (λz=>by cases z) λ_=>K1 (KU ?_)
   let C:=clB cs ls (Kd (Km ls o old ts)) tm as ps
   have hc:Zf (gN 8) (U2 zQ) (U7 4 X8 (UZ (UW 0) (UZ (UW 1) (UZ (UW 3) (UZ (UW 8) (UY)))))) ds (KR [S0,S1,S2,S3,S4,zP,zP,zP]++UI 1 zP) []=O ((ds.map C).map UK):=by have e:=Yn (s:=gN 8) (t:=U2 zQ) (g:=U7 4 X8 (UZ (UW 0) (UZ (UW 1) (UZ (UW 3) (UZ (UW 8) (UY)))))) (λd:D=>d) (λ_=>zQ) (λd=>UK (C d)) (λZ=>∃x,Z=[S0,S1,S2,S3,S4,zP,zP,zP,x]) ds (KR [S0,S1,S2,S3,S4,zP,zP,zP]++UI 1 zP) [] (by rintro d hd Z ⟨x,rfl⟩;exact⟨_,U4 (Qa zO) zO,rfl,λ_=>Ko (U0 (UX zO) (U0 (UX zO) (U0 (UX zO) (U0 (UX zO) U6)))) zO (zB g ga (w2 d hd)),_,rfl⟩) ⟨zP,rfl⟩ (by rw[Qm];lia);rw[List.map_id',Qw,QR.mpr (λ_ _=>rfl)]at e;rw[e,QL];rfl
   apply KW;have hall:KF (Zq (Zb ZK (UZ (Kb UJ (Za (K4 (UW 4)) 1 (gN 8) (U2 zQ) (U7 4 X8 (UZ (UW 0) (UZ (UW 1) (UZ (UW 3) (UZ (UW 8) (UY)))))))) (UY)))) [S0,S1,S2,S3,S4,zP,zP,zP]=.ok (!ds.all C) [S0,S1,S2,S3,S4,zP,zP,zP]:=Z9 (Yj (Zj (U0 (KJ (Zi (Zh (UX zO) Zt) hc)) U6) (by rw[VP,Ua];rfl)));cases ha:ds.all C with
   |false=>
    rw[ha]at hall;refine KE (b:=zQ) hall (λ_=>Kv Ka (ZP (no ?_))) λz=>by cases z
    rintro⟨_,_,_,L,e,gw⟩;obtain⟨e1,e2⟩:=Se e;obtain⟨rfl,rfl,rfl⟩:=MR e1;have e2:=PyData.list.inj e2;subst e2;have:(L.map Kp).all C=zQ:=Q2.mpr λx hx=>by obtain⟨us,hu,rfl⟩:=Qs.mp hx;obtain⟨b1,b2⟩:=gw.best us hu;exact qb (Ex b1) b2
    rw[this]at ha;cases ha
   |true=>
   rw[ha]at hall;refine KE (b:=zR) hall (λz=>by cases z) λ_=>K1 (KU ?_)
   obtain⟨L,rfl,hL⟩:=Hw ha;rw[Qb]at w1 h0;have aU:∀us∈L,us.length=ls.length:=λus hu=>(hL us hu).1.len
   let S5:Option Sl:=O (.pub (.int tm))
   let S6:Option Sl:=O (.pub (.list (as.map int)))
   let S7:Option Sl:=O (.pub (.list (ps.map int)))
   refine Kq (Z1:=[S0,S1,S2,S3,S4,S5,S6,S7]) (YD (UX zO) (Kr zO (U9 (U4 (Qa zO) zO) (U9 (U4 (Qa zO) zO) (U9 (U4 (Qa zO) zO) Ks))))) ?_
   let TW:=Zs (Kd (Km ls o old ts)) (Ke 0 ls) tm as ps
   have hsw:Vl [.list (L.map Kp),.list (TW.map Kx)]=O (.bool (Sk L TW)):=zG (m:=ls.length) (λq hq=>let ⟨a,b,_⟩:=hp.lo q (QP.mp hq).1;⟨a,b⟩) (by have:TW.length<=(Ke 0 ls).length:=Jn _ _;lia) aU w1
   have fin:(∃aD as' ps' L',PyData.tuple [KG tm as ps,.list (L.map Kp)]=K5 aD as' ps' L'/\GWeb cs (Kd (Km ls o old ts)) (Ke 0 ls) ls.length aD as' ps' L') ↔ (Sk L TW&&(PL L as&&PK cs L ps))=zQ:=by
    rw[QM,QM];constructor
    .rintro⟨aD,as',ps',L',e,gw⟩
     obtain⟨e1,e2⟩:=Se e;obtain⟨f1,i1,i2⟩:=MR e1;have e2:=Gc (PyData.list.inj e2);subst f1 i1 i2 e2;exact⟨gw.wish,gw.noth,gw.left⟩
    .rintro⟨a,b,c⟩
     exact⟨tm,as,ps,L,rfl,one,ok,λz=>h0 (by rw[z];rfl),λus hu=>⟨No (hL us hu).1,(hL us hu).2⟩,a,b,c⟩
   apply KW;cases hw:Sk L TW with
   |false=>
    rw[hw]at hsw;refine KE (b:=zQ) (Z1:=[S0,S1,S2,S3,S4,S5,S6,S7]) (Z9 (t:=zR) (Yj (Ko (U0 (UX zO) (U0 (Ko (U0 (UX zO) (U0 (UX zO) (U0 (UX zO) U6))) zO (LX g ga la lp)) U6)) zO hsw))) (λ_=>Kv Ka (ZP (no ?_))) λz=>by cases z
    intro z;have:=fin.mp z;rw[hw]at this;cases this
   |true=>
   rw[hw]at hsw;refine KE (b:=zR) (Z1:=[S0,S1,S2,S3,S4,S5,S6,S7]) (Z9 (t:=zQ) (Yj (Ko (U0 (UX zO) (U0 (Ko (U0 (UX zO) (U0 (UX zO) (U0 (UX zO) U6))) zO (LX g ga la lp)) U6)) zO hsw))) (λz=>by cases z) λ_=>K1 (KU ?_)
   refine Kv (Wi (Ko (U0 (UX zO) (U0 (UX zO) U6)) zO (zK la (by lia) aU w1)) λ_=>Ko (U0 (UX zO) (U0 (UX zO) (U0 (UX zO) U6))) zO (zx g lp w1)) ⟨_,rfl,_,rfl,?_⟩;rw[fin,hw,Bool.true_and]
  |dict kvs=>
   refine KE (b:=zQ) (Z1:=[S0,S1,S2,S3,S4,zP,zP,zP]) (ZZ aM (Vx (Nd (UX zO)))) (λ_=>Kv Ka (ZP (no ?_))) λz=>by cases z
   rintro⟨_,_,_,_,e,_⟩;cases (Se e).2
  |_=>
   refine KE (b:=zQ) (Z1:=[S0,S1,S2,S3,S4,zP,zP,zP]) (ZZ aM (Vx (Yv (UX zO) zO))) (λ_=>Kv Ka (ZP (no ?_))) λz=>by cases z
   rintro⟨_,_,_,_,e,_⟩;cases (Se e).2
 |dict kvs=>
  refine KE (b:=zQ) (Z1:=[S0,S1,S2,zP,zP,zP,zP,zP]) (Vx (Nd (UX zO))) (λ_=>Kv Ka (ZP (no ?_))) λz=>by cases z
  rintro⟨_,_,_,_,e,_⟩;cases e
 |_=>
  refine KE (b:=zQ) (Z1:=[S0,S1,S2,zP,zP,zP,zP,zP]) (Vx (Yv (UX zO) zO)) (λ_=>Kv Ka (ZP (no ?_))) λz=>by cases z
  rintro⟨_,_,_,_,e,_⟩;cases e
end
section
variable{cs:zT}{tm aC:Int}{as ps ap am:zT}{ws us:LO}{L L2:z9}{m:Nat}{f:Int×Int->Int}{qs:LP}{T:List Stp}
def V0{T}:Sk L T=zQ ↔ ∀q∈T,∃us∈L,us.getD q.1.toNat zP=O q.2:=by unfold Sk;simp only[Q2,J7,Jl]
def VZ:PL L as=zQ ↔ ∀i,i<as.length->as.getD i 0<=0->∃us∈L,us.getD i zP=zP:=by unfold PL;simp only[Q2,J7,Bool.or_eq_true,Jl,QE,Option.isNone_iff_eq_none];exact⟨λh i hi h0=>(h i hi).resolve_left (Uu.mpr h0),λh i hi=>(Int.lt_or_le 0 _).imp id (h i hi)⟩
def Sc(hp:ps.length=cs.length):PK cs L ps=zQ ↔ ∀k,k<cs.length->ps.getD k 0<=0->∃us∈L,((us.count (O (k:Int)):Nat):Int)<cs.getD k 0:=by
 unfold PK;have e:∀us , ∀k,k<cs.length->(0<(YQ cs us).getD k 0 ↔ ((us.count (O (k:Int))))<cs.getD k 0):=λus k hk=>by unfold YQ;simp_all
 simp only[Q2,J7,Bool.or_eq_true,Jl,QE,hp];exact⟨λh k hk h0=>let ⟨us,hu,z⟩:=(h k hk).resolve_left (Uu.mpr h0);⟨us,hu,(e us k hk).mp z⟩,λh k hk=>(Int.lt_or_le 0 _).imp id λh0=>let ⟨us,hu,z⟩:=h k hk h0;⟨us,hu,(e us k hk).mpr z⟩⟩
noncomputable def MQ   : us.getD i zP=O t ↔ us[i]?=O (O t):=by
 rw[Qn];cases us[i]? with
 |none=>simp
 |some x=>simp
def F7  (h:i<us.length):us.getD i zP=zP ↔ us[i]?=O zP:=by simp_all
noncomputable def WW{xs:zT}(h:∀a∈xs,0<=a)(i):0<=xs.getD i 0:=by
 rw[Qn];cases hx:xs[i]? with
 |none=>exact Jd 0
 |some a=>exact h a (Qr hx)
def F6(hp:Zy cs.length m qs){q}(h:q∈qs):((q.1.toNat:Int),q.2)=q:=by have:=(hp.lo _ h).1;rw[Ul this]
def xE    (h:q∈Zs f qs tm as ps):q∈qs:=(QP.mp h).1
def jt(hp:Zy cs.length m qs)(one:1<=tm)(ok:OkP cs.length m (λa b=>f (a,b)) qs tm as ps)(hd:Zx cs qs m us)(h:tm*Kl f 0 us=ZT cs as ps):WR cs f qs m us:=
 ⟨hd,λvs hv=>by have:=(Lr hp hv ok).1;rw[←h]at this;exact Int.le_of_mul_le_mul_left this (by lia)⟩
def js(hp:Zy cs.length m qs)(h1:WR cs f qs m us)(h2:WR cs f qs m ws)(h:tm*Kl f 0 us=ZT cs as ps):tm*Kl f 0 ws=ZT cs as ps:=by rw[JV (h1.mx ws h2.dl) (h2.mx us h1.dl)];exact h
variable(hp:Zy cs.length m qs)(gw:GWeb cs f qs m tm as ps L)
include hp gw
theorem R8(h:us∈L):WR cs f qs m us:=jt hp gw.one gw.ok (gw.best us h).1 (gw.best us h).2
theorem NQ(h:WR cs f qs m us):tm*Kl f 0 us=ZT cs as ps:=by obtain⟨vs,hv⟩:=JH _ gw.ne;exact js hp (R8 hp gw hv) h (gw.best vs hv).2
theorem O5(h:WR cs f qs m us):N5 cs f tm as ps us:=(Lr hp h.dl gw.ok).2.mp (NQ hp gw h)
theorem LY  (hq:q∈qs):q∈Zs f qs tm as ps ↔ ∃us,WR cs f qs m us/\us[q.1.toNat]?=O (O q.2):=by
 constructor
 .intro h
  obtain⟨us,hu,e⟩:=V0.mp gw.wish q h;exact⟨us,R8 hp gw hu,MQ.mp e⟩
 .rintro⟨us,hu,e⟩
  have:=(O5 hp gw hu).got _ _ e;rw[F6 hp hq]at this;exact QP.mpr ⟨hq,QB this.symm⟩
theorem Hv  (hi:i<m):as.getD i 0=0 ↔ ∃us,WR cs f qs m us/\us[i]?=O zP:=by
 constructor
 .intro h
  obtain⟨us,hu,e⟩:=VZ.mp gw.noth i (by rw[gw.ok.la];simp_all) (by lia);have hm:=R8 hp gw hu;exact⟨us,hm,(F7 (by rw[hm.dl.len];simp_all)).mp e⟩
 .rintro⟨us,hu,e⟩
  exact(O5 hp gw hu).non i e
theorem Hu  (hk:k<cs.length):ps.getD k 0=0 ↔ ∃us,WR cs f qs m us/\((us.count (O (k:Int)):Nat):Int)<cs.getD k 0:=by
 constructor
 .intro h
  obtain⟨us,hu,e⟩:=(Sc gw.ok.lp).mp gw.left k hk (by lia);exact⟨us,R8 hp gw hu,e⟩
 .rintro⟨us,hu,e⟩
  rcases(O5 hp gw hu).all k hk with z|z
  .exact z
  .lia
theorem CN(g2:GWeb cs f qs m aC ap am L2):Zs f qs tm as ps=Zs f qs aC ap am/\KM as=KM ap/\KM ps=KM am:=by
 refine⟨List.filter_congr λq hq=>?_,?_,?_⟩
 .have h1:=LY hp gw hq
  have h2:=LY hp g2 hq;unfold Zs at h1 h2;rw[List.mem_filter]at h1 h2;rw[JU];exact⟨λz=>(h2.mpr (h1.mp ⟨hq,z⟩)).2,λz=>(h1.mpr (h2.mp ⟨hq,z⟩)).2⟩
 .unfold KM
  rw[gw.ok.la,g2.ok.la]
  congr 1
  refine List.filter_congr λi hi=>?_;have hi:=QE.mp hi;have n1:=WW gw.ok.aa i;have n2:=WW g2.ok.aa i;have   :=(Hv hp gw hi).trans (Hv hp g2 hi).symm;rw[Js]
  lia
 .unfold KM
  rw[gw.ok.lp,g2.ok.lp]
  congr 1
  refine List.filter_congr λi hi=>?_;have hi:=QE.mp hi;have n1:=WW gw.ok.pp i;have n2:=WW g2.ok.pp i;have   :=(Hu hp gw hi).trans (Hu hp g2 hi).symm;rw[Js]
  lia
theorem Ma(h1:∀us∈L,us∈L2)(h2:∀us∈L2,WR cs f qs m us):GWeb cs f qs m tm as ps L2 where
 one:=gw.one
 ok:=gw.ok
 ne:=λz=>by obtain⟨vs,hv⟩:=JH _ gw.ne;simp_all
 best:=λus hu=>⟨(h2 us hu).dl,NQ hp gw (h2 us hu)⟩
 wish:=V0.mpr λq hq=>let ⟨us,hu,e⟩:=V0.mp gw.wish q hq;⟨us,h1 us hu,e⟩
 noth:=VZ.mpr λi hi h0=>let ⟨us,hu,e⟩:=VZ.mp gw.noth i hi h0;⟨us,h1 us hu,e⟩
 left:=(Sc gw.ok.lp).mpr λk hk h0=>let ⟨us,hu,e⟩:=(Sc gw.ok.lp).mp gw.left k hk h0;⟨us,h1 us hu,e⟩
end
section
variable{cs:zT}{as ps:zT}{ws:LO}{L:z9}{m:Nat}{f:Int×Int->Int}{qs:LP}{T:List Stp}
def CB(hp:Zy cs.length m qs)(wq:WebQ cs f qs m ws T as ps L):GWeb cs f qs m ((cs.length+1:Nat):Int) as ps L where
 one:=by lia
 ok:=wq.ok
 ne:=λz=>by
  have:=wq.fst
  grind
 best:=λus hu=>⟨(wq.best us hu).1,by rw[(wq.best us hu).2,wq.cl]⟩
 wish:=V0.mpr λq hq=>by obtain⟨h1,h2⟩:=QP.mp hq;have e:=F6 hp h1;obtain⟨us,hu,k⟩:=xI hp wq   (by rw[e];simp_all) (by rw[e];exact(of_decide_eq_true h2).symm);exact⟨us,hu,MQ.mpr k⟩
 noth:=VZ.mpr λi hi h0=>by have n1:=WW wq.ok.aa i;rw[wq.ok.la]at hi;obtain⟨us,hu,k⟩:=wo hp wq hi (by lia);exact⟨us,hu,(F7 (by rw[(wq.best us hu).1.len];exact hi)).mpr k⟩
 left:=(Sc wq.ok.lp).mpr λk hk h0=>by have n1:=WW wq.ok.pp k;exact wn hp wq hk (by lia)
end
noncomputable def K9(k:Int)(xs ys:zT):zT:=(xs.zip ys).map λp=>p.1+k*p.2
def MP   (h:xs.length=ys.length):(K9 k xs ys).length=xs.length:=by unfold K9;grind
theorem SD  : ∀{xs ys}(i),xs.length=ys.length->(K9 k xs ys).getD i 0=xs.getD i 0+k*ys.getD i 0
 |[],[],i,_=>by show(0)=0+k*0;lia
 |x::xs,y::ys,0,_=>rfl
 |x::xs,y::ys,i+1,h=>SD   i (by simpa using h)
def F5  (hk:0<=k){xs ys}(hx:∀x∈xs,0<=x)(hy:∀y∈ys,0<=y):∀z∈K9 k xs ys,0<=z:=λz hz=>by
 obtain⟨p,hp,rfl⟩:=Qs.mp hz;have h1:=hx p.1 (JT hp).1;have h2:=JR hk (hy p.2 (JT hp).2)
 lia
theorem F4  : ∀{xs ys},xs.length=ys.length->(K9 k xs ys).sum=xs.sum+k*ys.sum
 |[],[],_=>by show(0)=0+k*0;lia
 |x::xs,y::ys,h=>by
  have ih:=F4 (k:=k)   (by simpa using h)
  show(x+k*y)+(K9 k xs ys).sum=(x+xs.sum)+k*(y+ys.sum)
  rw[ih,Uf]
  lia
theorem F3  : ∀{xs ys cs},xs.length=ys.length->(XJ (K9 k xs ys) cs).sum=(XJ xs cs).sum+k*(XJ ys cs).sum
 |[],[],cs,_=>by show(0)=0+k*0;lia
 |x::xs,y::ys,[],_=>by show(0)=0+k*0;lia
 |x::xs,y::ys,c::cs,h=>by
  have ih:=F3 (k:=k)   (cs:=cs) (by simpa using h)
  show(x+k*y)*c+(XJ (K9 k xs ys) cs).sum=(x*c+(XJ xs cs).sum)+k*(y*c+(XJ ys cs).sum)
  rw[ih,Uf,Int.add_mul,Int.mul_assoc]
  lia
def xD  {cs as as' ps ps'}(h1:as.length=as'.length)(h2:ps.length=ps'.length):ZT cs (K9 k as as') (K9 k ps ps')=ZT cs as ps+k*ZT cs as' ps':=by
 unfold ZT;rw[F4 h1,F3 h2,Uf]
 lia
section
variable{cs:zT}{tm aC k:Int}{as ps ap am:zT}{ws us:LO}{L L2:z9}{m:Nat}{f:Int×Int->Int}{qs:LP}
noncomputable def CM{a b k v t t2:Int}(h1:t*v<=a)(h2:t2*v<=b)(hk:0<=k):(t+k*t2)*v<=a+k*b:=by
 have:=Jv h2 hk
 lia
noncomputable def CL{a b k v t t2:Int}(h1:t*v<=a)(h2:t2*v<=b)(hk:0<=k)(h:a+k*b=(t+k*t2)*v):a=t*v:=by
 have:=Jv h2 hk
 lia
def NP(gw:GWeb cs f qs m tm as ps L)(aE:OkP cs.length m (λa b=>f (a,b)) qs aC ap am)(h2:∀us∈L,aC*Kl f 0 us=ZT cs ap am)(hk:0<=k):GWeb cs f qs m (tm+k*aC) (K9 k as ap) (K9 k ps am) L:=by
 have ok:=gw.ok;have ea:as.length=ap.length:=by rw[ok.la,aE.la]
 have ep:ps.length=am.length:=by rw[ok.lp,aE.lp]
 have ok':OkP cs.length m (λa b=>f (a,b)) qs (tm+k*aC) _ (K9 k ps am):={
  t0:=by have:=JR hk aE.t0;have:=ok.t0;lia
  la:=by rw[MP ea];exact ok.la
  lp:=by rw[MP ep];exact ok.lp
  aa:=F5 hk ok.aa aE.aa
  pp:=F5 hk ok.pp aE.pp
  le:=λq hq=>by
   have:=CM (ok.le q hq) (aE.le q hq) hk;rw[SD _ ea,SD _ ep]
   lia}
 refine⟨?_,ok',gw.ne,λus hu=>⟨(gw.best us hu).1,?_⟩,?_,?_,?_⟩
 .have:=JR hk aE.t0
  have:=gw.one
  lia
 .rw[xD ea ep,Int.add_mul,(gw.best us hu).2,Int.mul_assoc,h2 us hu]
 .refine V0.mpr λq hq=>V0.mp gw.wish q ?_
  obtain⟨h1,h3⟩:=QP.mp hq;have h3:=Qa h3;rw[SD _ ea,SD _ ep]at h3;refine QP.mpr ⟨h1,QB ?_⟩;exact CL (ok.le q h1) (aE.le q h1) hk (by rw[Uf];lia)
 .refine VZ.mpr λi hi h0=>VZ.mp gw.noth i (by rw[MP ea]at hi;exact hi) ?_
  rw[SD _ ea]at h0;have:=JR hk (WW aE.aa i)
  lia
 .refine(Sc ok'.lp).mpr λi hi h0=>(Sc ok.lp).mp gw.left i hi ?_
  rw[SD _ ep]at h0;have:=JR hk (WW aE.pp i)
  lia
def Eo{S:U5}(hS:S=[pb (KG tm as ps),pb (KG aC ap am),pb (.int k),y3,y4])(h0:KR S=S)(hk:0<=k/\k<18446744073709551616){xs ys}(hl:xs.length<=1000):Zf (gT 2 (gNC (gN 5) (gNC (gN 6) (gN0)))) (U2 zQ) (U1 Kg (UW 5) (U1 KB (UW 2) (UW 6))) (YE (xs.map int) (ys.map int)) (S++UI 2 zP) []=O ((K9 k xs ys).map int):=by
 subst hS;rw[Lm,Yn _ _ _ (λZ=>∃z3 z4 x y,Z=[pb (KG tm as ps),pb (KG aC ap am),pb (.int k),z3,z4,x,y])]
 .rw[QR.mpr (λ_ _=>rfl)]
  unfold K9;rw[QL];rfl
 .rintro p hp Z ⟨z3,z4,x,y,rfl⟩
  exact⟨_,Kr zO (U9 (U4 (Qa zO) zO) (U9 (U4 (Qa zO) zO) Ks)),rfl,λ_=>Kf (UX zO) (Kf (UX zO) (UX zO) (VJ (by lia) hk.2)) Ze,_,_,_,_,rfl⟩
 .exact⟨_,_,zP,zP,rfl⟩
 .rw[Qm,JG];lia
end
section
variable{tm aC k:Int}{as ps ap am:zT}
def N9(hk:0<=k/\k<18446744073709551616)(h1:as.length<=1000)(h2:ps.length<=1000):WD [KG tm as ps,KG aC ap am,.int k]=O (KG (tm+k*aC) (K9 k as ap) (K9 k ps am)):=by refine K3  rfl ?_;refine Kq  (Z8 (Zi (OR (U0 (Kt zO Ka WS) (U0 (Kt zO Ka WS) U6)) zO) (Eo zO zO hk h1)) (Qa zO) zO) ?_;refine Kq  (Z8 (Zi (OR (U0 (Kt zO Ka Vs) (U0 (Kt zO Ka Vs) U6)) zO) (Eo zO zO hk h2)) (Qa zO) zO) ?_;exact Kv (ZU (U0 (Kf (Kt zO Ka Vt) (Kf (UX zO) (Kt zO Ka Vt) (VJ (by lia) hk.2)) Ze) (U0 (YC zO zO) (U0 (YC zO zO) U6))) (Qa zO)) zO
end
def Ni(X):oEq (.list (X.map Kp)) (.list [])=O (decide (X=[])):=by
 cases X with
 |nil=>decide +kernel
 |cons a r=>
  have lay:UN ((a::r).map Kp)=zQ:=VW λx hx=>by obtain⟨y,_,rfl⟩:=Qs.mp hx;exact Ow y
  have dep:(UJ ((a::r).map Kp)).depth<=60:=by
   have h:=Lu  (xs:=(a::r).map Kp) λx hx=>by obtain⟨y,_,rfl⟩:=Qs.mp hx;exact FY y
   simp only[UO]
   lia
  unfold oEq;rw[Qu ⟨lay,rfl,by lia⟩];rfl
def EL{xs:zT}{n:Nat}(h:∀a∈xs,0<=a)(hl:xs.length=n)(hn:n<=1000):Vg [.list (xs.map int),.int (n:Int)]=O (.bool zQ):=by
 refine K3  rfl ?_
 let S0:Option Sl:=O (.pub (.list (xs.map int)))
 let S1:Option Sl:=O (.pub (.int (n:Int)))
 apply KW;refine KE (b:=zR)  ((ZZ (Yv (UX zO) zO) (Kf (Zu zO Zg) (UX zO) Wg)).trans (by rw[Qb,hl,QB zO];rfl)) (λz=>by cases z) λ_=>K1 (KU ?_)
 refine Kv (KJ (Kf (KJ (Zi (Zh (UX zO) Zt) ((Yn int (λ_=>zR) int (λZ=>∃x,Z=[S0,S1,x]) xs _ [] ?_ ⟨zP,rfl⟩ (by rw[List.length_nil];lia)).trans (by rw[List.filter_eq_nil_iff.mpr (λ_ _=>by simp)];rfl)))) (ZN U6 (of_decide_eq_true zO)) (show oEq (.list []) _=O zQ by decide +kernel))) zO;rintro a ha Z ⟨x,rfl⟩;have:=h a ha;exact⟨_,U4 (Qa zO) zO,(ZZ (Z9  (Yj (Ko (U0 (UX zO) U6) zO (MA (.int a))))) (ZO zO Ka Wp)).trans (by rw[QG (by lia)]),λz=>(by cases z),_,rfl⟩
section
variable{cs:zT}{ls:L3}{o:Ord}{old:ae}{ts:zT}{tm:Int}{as ps:zT}{ws us:LO}{L:z9}{m:Nat}
def zj(g:Good cs ls)(ga:Yo cs.length ls.length old ts)(one:1<=tm)(ok:OkP cs.length ls.length (Km ls o old ts) (Ke 0 ls) tm as ps):Tc [Kz cs ls,KI o old ts,KG tm as ps]=O (.bool zQ):=by
 have l7:=g.l7;have c6:=g.c6;have la:=ok.la;have lp:=ok.lp
 let S0:Option Sl:=O (.pub (Kz cs ls))
 let S1:Option Sl:=O (.pub (KI o old ts))
 let S2:Option Sl:=O (.pub (KG tm as ps))
 have al:Kn [.list (ls.map Zm)]=O (.int (ls.length:Nat)):=by rw[Zg,Qb]
 have aw:Kn [.list (cs.map int)]=O (.int (cs.length:Nat)):=by rw[Zg,Qb]
 refine K3 (Z:=[S0,S1,S2,zP,zP]) zO ?_;unfold SX;apply KW;refine KE (b:=zR) (Z1:=[S0,S1,S2,zP,zP]) (ZZ (Yv (UX zO) zO) (Kf (Zu zO Oy) Ka Wg)) (λz=>by cases z) λ_=>K1 (KU ?_)
 apply KW;refine KE (b:=zR) (Z1:=[S0,S1,S2,zP,zP]) ((ZZ (Z9 (t:=zQ) (Yj (Ko (U0 (Kt zO Ka Vt) U6) zO (MA (.int tm))))) (Kf (Kt zO Ka Vt) Ka Wp)).trans (by rw[QG (by lia)])) (λz=>by cases z) λ_=>K1 (KU ?_)
 apply KW;refine KE (b:=zR) (Z1:=[S0,S1,S2,zP,zP]) (ZZ (Z9 (t:=zQ) (Yj (Ko (U0 (Kt zO Ka WS) (U0 (Zj (U0 (Kt zO Ka XS) U6) al) U6)) zO (EL ok.aa la (by lia))))) (Z9 (t:=zQ) (Yj (Ko (U0 (Kt zO Ka Vs) (U0 (Zj (U0 (Kt zO Ka Wl) U6) aw) U6)) zO (EL ok.pp lp (by lia)))))) (λz=>by cases z) λ_=>K1 (KU ?_)
 apply KW;apply ZD (λ_ Z=>∃x3 x4,Z=[S0,S1,S2,x3,x4])
 case h1=>exact Y7 (U0 (Zj (U0 (Kt zO Ka XS) U6) al) U6) (Y8 (by lia) (by lia))
 case h0=>exact⟨_,_,rfl⟩
 case hst=>
  rintro i d Z hi ⟨x3,x4,rfl⟩;obtain⟨rfl,hlt⟩:=XY hi;have ak:i<ls.length:=by lia
  have hls:ls[i]?=O ls[i]:=Qe ak;have gr:=g.rk _ (Qr hls);have hfl:=Pu gr;refine⟨_,U4 (Qa zO) zO,?_⟩;rw[Jj];unfold Gp;apply ZD (λ_ Z=>∃x4,Z=[S0,S1,S2,pb (.int (i:Nat)),x4])
  case h1=>exact Zh (Ko (U0 (UX zO) (U0 (UX zO) U6)) zO (Ll (cs:=cs) hls (by lia))) Zt
  case h0=>exact⟨_,rfl⟩
  case hst=>
   rintro j d Z hj ⟨x4,rfl⟩;rw[Qd]at hj;obtain⟨t,hz,rfl⟩:=Jr.mp hj;have htf:t∈ls[i].flatten:=(W4 _).mem_iff.mp (Qr hz);obtain⟨r,hr,htr⟩:=Uh.mp htf;have htb:=gr.there r hr t htr;have b6:=LJ (o:=o) g ga hls htf;have hq:=Nq (k:=0) hls htf;rw[QX]at hq;have hF:Km ls o old ts (i:Int) t=Zz ls o old ts i ls[i] t:=by unfold Km;rw[QQ,Qn,hls];rfl
   have hb:=Pt (o:=o) g ga hq;have hle:=ok.le _ hq;rw[←hF]at b6;dsimp only at hb hle;rw[QQ]at hle;have ax:oIx (.list (as.map int)) (.int (i:Nat))=O (.int (as.getD i 0)):=Xs (k:=(i:Int)) (by lia) (by lia);have bS:oIx (.list (ps.map int)) (.int t)=O (.int (ps.getD t.toNat 0)):=Xs htb.1 (by lia);refine⟨_,U4 (Qa zO) zO,?_⟩;unfold Gq;exact KE (b:=zR)  ((Kf (Kf (Kf (Kt zO Ka WS) (UX zO) ax) (Kf (Kt zO Ka Vs) (UX zO) bS) Ze) (Kf (Kt zO Ka Vt) (Ko (U0 (UX zO) (U0 (UX zO) (U0 (UX zO) (U0 (UX zO) U6)))) zO b6) (Xb (by lia) hb.2)) Wp).trans (by rw[QG (by lia)];rfl)) (λz=>by cases z) λ_=>K1 (Zd ⟨_,rfl⟩)
  case hend=>rintro Z ⟨x4,rfl⟩;exact Zd ⟨_,_,rfl⟩
 case hend=>rintro Z ⟨x3,x4,rfl⟩;exact KU (Kv Ka rfl)
def yE(g:Good cs ls)(ga:Yo cs.length ls.length old ts)(one:1<=tm)(ok:OkP cs.length ls.length (Km ls o old ts) (Ke 0 ls) tm as ps)(hL:∀us∈L,Deal cs ls us/\tm*Kl (Kd (Km ls o old ts)) 0 us=ZT cs as ps)(aU:L.length<=1000):∃b,Vf [Kz cs ls,KI o old ts,K5 tm as ps L]=O (.bool b)/\(b=zQ ↔ GWeb cs (Kd (Km ls o old ts)) (Ke 0 ls) ls.length tm as ps L):=by
 have l7:=g.l7;have c6:=g.c6;have la:=ok.la;have lp:=ok.lp;have hp:=VH g;have aV:=Sz g
 let T:=Zs (Kd (Km ls o old ts)) (Ke 0 ls) tm as ps
 have hT:T.length<=42:=QK (Jn _ _) aV;have hlen:∀us∈L,us.length=ls.length:=λus hu=>(hL us hu).1.len
 suffices ∃r,Vf [Kz cs ls,KI o old ts,K5 tm as ps L]=O r/\∃b,r=.bool b/\(b=zQ ↔ GWeb cs (Kd (Km ls o old ts)) (Ke 0 ls) ls.length tm as ps L)by obtain⟨_,h1,b,rfl,h2⟩:=this;exact⟨b,h1,h2⟩
 have no:(¬GWeb cs (Kd (Km ls o old ts)) (Ke 0 ls) ls.length tm as ps L)->∃r,Out.rt (UK zR)=.rt r/\∃b,r=UK b/\(b=zQ ↔ GWeb cs (Kd (Km ls o old ts)) (Ke 0 ls) ls.length tm as ps L):=λh=>⟨_,rfl,zR,rfl,λz=>(by cases z),λz=>absurd z h⟩
 let S0:Option Sl:=O (.pub (Kz cs ls))
 let S1:Option Sl:=O (.pub (KI o old ts))
 let S2:Option Sl:=O (.pub (K5 tm as ps L))
 let S3:Option Sl:=O (.pub (KG tm as ps))
 let S4:Option Sl:=O (.pub (.list (L.map Kp)))
 refine W2 (Z:=[S0,S1,S2,zP,zP,zP,zP,zP,zP]) zO ?_;unfold SV;have b9:oIx (K5 tm as ps L) (.int 0)=O (KG tm as ps):=Zv (j:=0) zO;apply KW;refine KE (b:=zR) (Z1:=[S0,S1,S2,zP,zP,zP,zP,zP,zP]) (ZZ (Yv (UX zO) zO) (ZZ (Kf (Zu zO Oy) Ka Wg) (Z9 (t:=zQ) (Yj (Ko (U0 (UX zO) (U0 (UX zO) (U0 (Kt zO Ka b9) U6))) zO (zj g ga one ok)))))) (λz=>by cases z) λ_=>K1 (KU ?_)
 refine Kq (Z1:=[S0,S1,S2,S3,S4,zP,zP,zP,zP]) (YD (UX zO) (Kr zO (U9 (U4 (Qa zO) zO) (U9 (U4 (Qa zO) zO) Ks)))) ?_;apply KW;refine KE (b:=decide (L=[])) (Z1:=[S0,S1,S2,S3,S4,zP,zP,zP,zP]) (ZZ (Yv (UX zO) zO) (ZO zO (ZN U6 (Qa zO)) (Ni L))) (λh=>Kv Ka (ZP (no λgw=>gw.ne (Qa h)))) λh=>K1 (KU ?_);have ne:L≠[]:=Jc h;apply KW;apply ZD (λ_ Z=>∃x5,Z=[S0,S1,S2,S3,S4,x5,zP,zP,zP])
 case h1=>exact Zh (UX zO) Zt
 case h0=>exact⟨_,rfl⟩
 case hst=>
  rintro i d Z hi ⟨x5,rfl⟩;rw[Qd]at hi;obtain⟨us,hz,rfl⟩:=Jr.mp hi;obtain⟨du,hcl⟩:=hL us (Qr hz);refine⟨_,U4 (Qa zO) zO,?_⟩;unfold Fa;apply KW;refine KE (b:=zR) (Z1:=[S0,S1,S2,S3,S4,pb (Kp us),zP,zP,zP]) (Z9 (t:=zQ) (Yj (Ko (U0 (UX zO) (U0 (UX zO) U6)) zO (zL g du)))) (λz=>by cases z) λ_=>K1 (KU ?_)
  have e:=Mn (o:=o) (old:=old) (ts:=ts) ls us ls 0 (λj rs h=>by rw[QX,Qn,h];rfl) du.len;have hw:=xG (o:=o) g ga du;rw[←e]at hw;obtain⟨t1,t2⟩:=Ep (o:=o) g ga (No du);exact KE (b:=zR) (Z1:=[S0,S1,S2,S3,S4,pb (Kp us),zP,zP,zP]) ((Kf (Kf (Kt zO Ka Vt) (Ko (U0 (UX zO) (U0 (UX zO) (U0 (UX zO) U6))) zO hw) (Xb (by lia) t2)) (Ko (U0 (UX zO) (U0 (UX zO) U6)) zO (zm g)) Wg).trans (by rw[hcl,QB zO];rfl)) (λz=>by cases z) λ_=>K1 (Zd ⟨_,rfl⟩)
 case hend=>
 rintro Z ⟨x5,rfl⟩;refine KU ?_;apply KW;apply ZD (λi Z=>(∃x6 x7,Z=[S0,S1,S2,S3,S4,x5,x6,x7,zP])/\∀q∈T.take i,∃us∈L,us.getD q.1.toNat zP=O q.2)
 case h1=>exact Zh (Ko (U0 (UX zO) (U0 (UX zO) (U0 (UX zO) U6))) zO (Dl g ga la lp)) Zt
 case h0=>exact⟨⟨_,_,rfl⟩,λq hq=>by cases hq⟩
 case hst=>
  rintro i d Z hi ⟨⟨x6,x7,rfl⟩,hI⟩;rw[Qd]at hi;obtain⟨q,hz,rfl⟩:=Jr.mp hi;have hqT:q∈T:=Qr hz;obtain⟨a1,a2,a3,a4⟩:=hp.lo q (QP.mp hqT).1;refine⟨_,Kr zO (U9 (U4 (Qa zO) zO) (U9 (U4 (Qa zO) zO) Ks)),?_⟩;unfold Gm
  let Y:=L.filter λus=>decide (us.getD q.1.toNat zP=O q.2)
  refine KE (b:=decide (Y=[])) (Z1:=[S0,S1,S2,S3,S4,x5,pb (.int q.1),pb (.int q.2),zP]) (Kf (KJ (Zi (Zh (UX zO) Zt) ((Yn Kp (λus=>decide (us.getD q.1.toNat zP=O q.2)) Kp (λZ=>∃y5 x,Z=[S0,S1,S2,S3,S4,y5,pb (.int q.1),pb (.int q.2),zP,x]) L _ [] ?_ ⟨_,zP,rfl⟩ (by rw[Qm];lia)).trans (by rw[Qw])))) (ZN U6 (Qa zO)) (Ni Y)) (λh=>Kv Ka (VI (ZP (no λgw=>?_)))) λh=>K1 (Zd ⟨⟨_,_,rfl⟩,λq' aq=>?_⟩)
  .rintro us hu Z ⟨y5,x,rfl⟩
   exact⟨_,U4 (Qa zO) zO,Kf (Kt zO (UX zO) (T9 a1 (by have:=hlen us hu;lia))) (UX zO) (Pb (b:=O q.2)),λ_=>UX zO,_,_,rfl⟩
  .obtain⟨us,hu,e⟩:=V0.mp gw.wish q hqT
   have:us∈Y:=QP.mpr ⟨hu,QB e⟩;rw[Qa h]at this;cases this
  .rw[Ue,hz,Qz]at aq
   rcases aq with aq|aq
   .exact hI q' aq
   .rw[Qt.mp aq]
    obtain⟨us,hu⟩:=JH _ (Jc h);obtain⟨h1,h2⟩:=QP.mp hu;exact⟨us,h1,Qa h2⟩
 case hend=>
 rintro Z ⟨⟨x6,x7,rfl⟩,hI⟩;rw[Qb,Je]at hI;refine KU ?_;have al:Kn [.list (ls.map Zm)]=O (.int (ls.length:Nat)):=by rw[Zg,Qb]
 have aw:Kn [.list (cs.map int)]=O (.int (cs.length:Nat)):=by rw[Zg,Qb]
 apply KW;apply ZD (λi Z=>(∃x6,Z=[S0,S1,S2,S3,S4,x5,x6,x7,zP])/\∀j,j<i->as.getD j 0<=0->∃us∈L,us.getD j zP=zP)
 case h1=>exact Y7 (U0 (Zj (U0 (Kt zO Ka XS) U6) al) U6) (Y8 (by lia) (by lia))
 case h0=>exact⟨⟨_,rfl⟩,λj h=>absurd h (Jq _)⟩
 case hst=>
  rintro i d Z hi ⟨⟨x6,rfl⟩,hJ⟩;obtain⟨rfl,hlt⟩:=XY hi;refine⟨_,U4 (Qa zO) zO,?_⟩;rw[Jj];unfold Gn;have ax:oIx (.list (as.map int)) (.int (i:Nat))=O (.int (as.getD i 0)):=Xs (k:=(i:Int)) (by lia) (by lia);have nn:=WW ok.aa i
  let Y:=L.filter λus=>isNon (Ky (us.getD i zP))
  have hc:Zf (gN 9) (Kb isNon (U8 9 (UW 6))) (UW 9) (L.map Kp) (KR [S0,S1,S2,S3,S4,x5,pb (.int (i:Nat)),x7,zP]++UI 1 zP) []=O (Y.map Kp):=by refine(Yn Kp (λus=>isNon (Ky (us.getD i zP))) Kp (λZ=>∃y5 y7 x,Z=[S0,S1,S2,S3,S4,y5,pb (.int (i:Nat)),y7,zP,x]) L _ [] ?_ ⟨_,_,zP,rfl⟩ (by rw[Qm];lia)).trans (by rw[Qw]);rintro us hu Z ⟨y5,y7,x,rfl⟩;have hix:=T9 (ws:=us) (k:=(i:Int)) (by lia) (by rw[hlen us hu];lia);rw[QQ]at hix;exact⟨_,U4 (Qa zO) zO,KJ (Kt zO (UX zO) hix),λ_=>UX zO,_,_,_,rfl⟩
  have inY:∀us,us∈Y ↔ us∈L/\us.getD i zP=zP:=λus=>by refine QP.trans (and_congr_right λ_=>?_);cases us.getD i zP<;>simp[Ky,isNon]
  refine KE (b:=decide (as.getD i 0=0)&&decide (Y=[])) (Z1:=[S0,S1,S2,S3,S4,x5,pb (.int (i:Nat)),x7,zP]) (OS (Kf (Kf (Kt zO Ka WS) (UX zO) ax) Ka Yk) λ_=>Kf (KJ (Zi (Zh (UX zO) Zt) hc)) (ZN U6 (Qa zO)) (Ni Y)) (λh=>Kv Ka (VI (ZP (no λgw=>?_)))) λh=>K1 (Zd ⟨⟨_,rfl⟩,λj hj h0=>?_⟩)
  .rw[QM,Jl,Jl]at h
   obtain⟨us,hu,e⟩:=VZ.mp gw.noth i (by lia) (by lia);have:=(inY us).mpr ⟨hu,e⟩;rw[h.2]at this;cases this
  .by_cases z:j=i
   .subst z
    rw[Bool.and_eq_false_iff,decide_eq_false_iff_not,decide_eq_false_iff_not]at h;obtain⟨us,hu⟩:=JH _ (h.resolve_left λk=>k (by lia));exact⟨us,(inY us).mp hu⟩
   .exact hJ j (by lia) h0
 case hend=>
 rintro Z ⟨⟨x6,rfl⟩,hJ⟩;rw[YZ,show((ls.length:Int)-0).toNat=ls.length by lia]at hJ;refine KU ?_;apply KW;apply ZD (λi Z=>(∃x7 x8,Z=[S0,S1,S2,S3,S4,x5,x6,x7,x8])/\∀j,j<i->ps.getD j 0<=0->∃us∈L,((us.count (O (j:Int)):Nat):Int)<cs.getD j 0)
 case h1=>exact Y7 (U0 (Zj (U0 (Kt zO Ka Wl) U6) aw) U6) (Y8 (by lia) (by lia))
 case h0=>exact⟨⟨_,_,rfl⟩,λj h=>absurd h (Jq _)⟩
 case hst=>
  rintro i d Z hi ⟨⟨x7,x8,rfl⟩,hK⟩;obtain⟨rfl,hlt⟩:=XY hi;refine⟨_,U4 (Qa zO) zO,?_⟩;rw[Jj];unfold Go;have bS:oIx (.list (ps.map int)) (.int (i:Nat))=O (.int (ps.getD i 0)):=Xs (k:=(i:Int)) (by lia) (by lia);have hic:oIx (.list (cs.map int)) (.int (i:Nat))=O (.int (cs.getD i 0)):=Xs (k:=(i:Int)) (by lia) (by lia);have nn:=WW ok.pp i
  let Y:=L.filter λus=>decide (((us.count (O (i:Int)):Nat):Int)<cs.getD i 0)
  refine Kq (Z1:=[S0,S1,S2,S3,S4,x5,x6,pb (.int (i:Nat)),O (.own (Y.map Kp))]) (Z8 (Zi (Zh (UX zO) Zt) ((Yn Kp (λus=>decide (((us.count (O (i:Int)):Nat):Int)<cs.getD i 0)) Kp (λZ=>∃y5 y6 y8 x,Z=[S0,S1,S2,S3,S4,y5,y6,pb (.int (i:Nat)),y8,x]) L _ [] ?_ ⟨_,_,_,zP,rfl⟩ (by rw[Qm];lia)).trans (by rw[Qw]))) (Qa zO) zO) ?_
  .rintro us hu Z ⟨y5,y6,y8,x,rfl⟩
   exact⟨_,U4 (Qa zO) zO,Kf (Oq (UX zO) (U0 (UX zO) U6) Oz) (Kf (Kt zO Ka Wl) (UX zO) hic) Wp,λ_=>UX zO,_,_,_,_,rfl⟩
  have inY:∀us,us∈Y ↔ us∈L/\((us.count (O (i:Int)):Nat):Int)<cs.getD i 0:=λus=>by refine QP.trans (and_congr_right λ_=>?_);exact decide_eq_true_iff
  by_cases z:ps.getD i 0=0
  .refine KE (b:=decide (Y=[])) (Z1:=[S0,S1,S2,S3,S4,x5,x6,pb (.int (i:Nat)),O (.own (Y.map Kp))]) (Sa ((Kf (Kf (Kt zO Ka Vs) (UX zO) bS) Ka Yk).trans (by rw[QB z])) (M8 zO (ZN U6 (Qa zO)) zO (Ni Y))) (λh=>Kv Ka (VI (ZP (no λgw=>?_)))) λh=>K1 (Zd ⟨⟨_,_,rfl⟩,λj hj h0=>?_⟩)
   .obtain⟨us,hu,e⟩:=(Sc lp).mp gw.left i (by lia) (by lia)
    have:=(inY us).mpr ⟨hu,e⟩;rw[Qa h]at this;cases this
   .by_cases z2:j=i
    .subst z2
     obtain⟨us,hu⟩:=JH _ (Jc h);exact⟨us,(inY us).mp hu⟩
    .exact hK j (by lia) h0
  .refine KE (b:=zR) (Z1:=[S0,S1,S2,S3,S4,x5,x6,pb (.int (i:Nat)),O (.own (Y.map Kp))]) (Pl ((Kf (Kf (Kt zO Ka Vs) (UX zO) bS) Ka Yk).trans (by rw[QG z]))) (λz=>by cases z) λh=>K1 (Zd ⟨⟨_,_,rfl⟩,λj hj h0=>?_⟩)
   by_cases z2:j=i
   .subst z2;exact absurd (by lia) z
   .exact hK j (by lia) h0
 case hend=>
 rintro Z ⟨⟨x7,x8,rfl⟩,hK⟩;rw[YZ,show((cs.length:Int)-0).toNat=cs.length by lia]at hK;exact KU (Kv Ka ⟨_,rfl,zQ,rfl,λ_=>⟨one,ok,ne,λus hu=>⟨No (hL us hu).1,(hL us hu).2⟩,V0.mpr hI,VZ.mpr λi hi=>hJ i (by lia),(Sc lp).mpr hK⟩,λ_=>rfl⟩)
end
def F2(A:LP):PyData.canLay0 (.list (A.map Kx))=zQ:=VW λx hx=>by obtain⟨q,_,rfl⟩:=Qs.mp hx;rfl
def F1(A:LP):(UJ (A.map Kx)).depth<=3:=Oe (Lu λx hx=>by obtain⟨q,_,rfl⟩:=List.mem_map.mp hx;unfold Kx;simp[UO,PyData.depthAll])
def O4  {i:Nat}(h:i<xs.length):(i:Int)∈KM xs ↔ 0<xs.getD i 0:=by
 unfold KM;rw[List.mem_map];constructor
 .rintro⟨j,hj,e⟩
  obtain⟨h1,h2⟩:=QP.mp hj;have:j=i:=by lia
  subst this;exact Qa h2
 .intro h2
  exact⟨i,QP.mpr ⟨QE.mpr h,QB h2⟩,rfl⟩
noncomputable def R7(T:LP)(A:zT):LP:=T.filter λq=>decide ((T.map Prod.fst).count q.1=1)&&decide (q.1∈A)
noncomputable def Wy(T:LP)(A:zT)(i:Nat):D:=.tuple [.list (((T.filter λq=>decide (q.1=(i:Int))).map Prod.snd).map int),.bool (!decide ((i:Int)∈A))]
noncomputable def TY(T:LP)(A P:zT)(m:Nat):D:=.list ([.list (T.map Kx),.list ((R7 T A).map Kx),.list (A.map int),.list (P.map int)]++(UH m).map (Wy T A))
def EK(T)(A P)(m):oNe (TY T A P m) (TY T A P m)=O zR:=by
 refine Fe (VW λx hx=>?_) ?_
 .rcases Qz.mp hx with hx|hx
  .rcases Qx.mp hx with rfl|hx
   .exact F2 _
   rcases Qx.mp hx with rfl|hx
   .exact F2 _
   rcases Qx.mp hx with rfl|hx
   .exact Nt _
   .rw[Qt.mp hx];exact Nt _
  .obtain⟨i,_,rfl⟩:=Qs.mp hx
   refine VW λx hx=>?_;rcases Qx.mp hx with rfl|hx
   .exact Nt _
   .rw[Qt.mp hx];rfl
 .refine QK (Oe (n:=5) (PD λx hx=>?_)) (by decide)
  rcases Qz.mp hx with hx|hx
  .rcases Qx.mp hx with rfl|hx
   .exact QK (F1 _) (by decide)
   rcases Qx.mp hx with rfl|hx
   .exact QK (F1 _) (by decide)
   rcases Qx.mp hx with rfl|hx
   .exact QK (Nr _) (by decide)
   .rw[Qt.mp hx];exact QK (Nr _) (by decide)
  .obtain⟨i,_,rfl⟩:=Qs.mp hx
   have:PyData.depthAll [UJ (((T.filter λq=>decide (q.1=(i:Int))).map Prod.snd).map int),.bool (!decide ((i:Int)∈A))]<=4:=PD λx hx=>by
    rcases Qx.mp hx with rfl|hx
    .exact QK (Nr _) (by decide)
    .rw[List.mem_singleton.mp hx];simp[UO]
   show(PyData.tuple _).depth<=5
   simp only[UO]
   lia
section
variable{cs:zT}{ls:L3}{o:Ord}{old:ae}{ts:zT}{tm:Int}{as ps:zT}{ws us:LO}{L:z9}{m:Nat}
def EJ  {n j}{S}(hl:xs.length=n)(hn:n<=1000){I:U5->Prop}{t}(h:∀i:Nat,i<n->∀Z,I Z->∃Z1,gN j (.int (i:Int)) Z=O Z1/\t Z1=.ok (decide (0<xs.getD i 0)) Z1/\UW j Z1=.ok (.int (i:Int)) Z1/\I (KR Z1))(h0:I S):Zf (gN j) t (UW j) (Ys 0 (n:Int)) S []=O ((KM xs).map int):=by
 rw[FE,Yn _ _ _ I _ S []]
 .unfold KM
  rw[QL,hl];rfl
 .intro i hi Z hZ
  obtain⟨Z1,a,b,c,d⟩:=h i (QE.mp hi) Z hZ;exact⟨Z1,a,b,λ_=>c,d⟩
 .simp_all
 .rw[Qm,Qp];lia
def CK(g:Good cs ls)(ga:Yo cs.length ls.length old ts)(ok:OkP cs.length ls.length (Km ls o old ts) (Ke 0 ls) tm as ps):V9 [Kz cs ls,KI o old ts,KG tm as ps]=O (TY (Zs (Kd (Km ls o old ts)) (Ke 0 ls) tm as ps) (KM as) (KM ps) ls.length):=by
 have c6:=g.c6;have l7:=g.l7;have hp:=VH g;have aV:=Sz g;have la:=ok.la;have lp:=ok.lp
 let T:=Zs (Kd (Km ls o old ts)) (Ke 0 ls) tm as ps
 have hT:T.length<=42:=QK (Jn _ _) aV;have hTm:∀q∈T,q∈Ke 0 ls:=λq hq=>(QP.mp hq).1;refine K3  rfl ?_;unfold SS
 let S0:Option Sl:=O (.pub (Kz cs ls))
 let S1:Option Sl:=O (.pub (KI o old ts))
 let S2:Option Sl:=O (.pub (KG tm as ps))
 let S3:Option Sl:=O (.pub (.list (T.map Kx)))
 let S4:Option Sl:=O (.pub (.list ((T.map Prod.fst).map int)))
 refine Kq (Z1:=[S0,S1,S2,S3,zP,zP,zP,zP]) (KY (Ko (U0 (UX zO) (U0 (UX zO) (U0 (UX zO) U6))) zO (Dl g ga la lp)) (Qa zO) zO) ?_;refine Kq (Z1:=[S0,S1,S2,S3,S4,zP,zP,zP]) (C1 (Z8 (Zi (Zh (UX zO) Zt) ((Yn Kx (λ_=>zQ) (λq=>int q.1) (λZ=>∃x y,Z=[S0,S1,S2,S3,zP,zP,zP,zP,x,y]) T _ [] ?_ ⟨zP,zP,rfl⟩ (by rw[Qm];lia)).trans (by rw[Qw,QR.mpr (λ_ _=>rfl),show(T.map λq=>int q.1)=(T.map Prod.fst).map int by rw[QL];rfl]))) (Qa zO) zO) zO zO) ?_
 .rintro q hq Z ⟨x,y,rfl⟩
  exact⟨_,Kr zO (U9 (U4 (Qa zO) zO) (U9 (U4 (Qa zO) zO) Ks)),rfl,λ_=>UX zO,_,_,rfl⟩
 have cu:∀q:Int×Int,oIx (Kx q) (.int 0)=O (.int q.1):=λq=>Zv (j:=0) zO;refine Kq (Z1:=[S0,S1,S2,S3,S4,O (.own ((R7 T (KM as)).map Kx)),zP,zP]) (Z8 (Zi (Zh (UX zO) Zt) ((Yn Kx (λq=>decide ((T.map Prod.fst).count q.1=1)&&decide (q.1∈KM as)) Kx (λZ=>∃x,Z=[S0,S1,S2,S3,S4,zP,zP,zP,x]) T _ [] ?_ ⟨zP,rfl⟩ (by rw[Qm];lia)).trans (by rw[Qw];rfl))) (Qa zO) zO) ?_
 .rintro q hq Z ⟨x,rfl⟩
  obtain⟨a1,a2,a3,a4⟩:=hp.lo q (hTm q hq);have ax:oIx (.list (as.map int)) (.int q.1)=O (.int (as.getD q.1.toNat 0)):=Xs a1 (by lia);have e:decide (q.1∈KM as)=decide (0<as.getD q.1.toNat 0):=by have:=O4 (xs:=as) (i:=q.1.toNat) (by lia);rw[Ul a1]at this;exact Js.mpr this
  have e2:decide ((T.map Prod.fst).count q.1=1)=decide ((((T.map Prod.fst).count q.1:Nat):Int)=1):=Js.mpr (by lia);rw[e,e2];exact⟨_,U4 (Qa zO) zO,OS (Kf (Oq (UX zO) (U0 (Kt zO Ka (cu q)) U6) wA) Ka Yk) (λ_=>Kf (Kf (Kt zO Ka WS) (Kt zO Ka (cu q)) ax) Ka Wp),λ_=>UX zO,_,rfl⟩
 let S5:Option Sl:=O (.pub (.list ((R7 T (KM as)).map Kx)))
 let B:zS:=[.list (T.map Kx),.list ((R7 T (KM as)).map Kx),.list ((KM as).map int)]
 have la1:Kn [.list (as.map int)]=O (.int (ls.length:Nat)):=by rw[Zg,Qb,la]
 have lp1:Kn [.list (ps.map int)]=O (.int (cs.length:Nat)):=by rw[Zg,Qb,lp]
 refine Kq (Z1:=[S0,S1,S2,S3,S4,S5,O (.own B),zP]) (Z8 (W3 (U0 (UX zO) (U0 (YC zO zO) (U0 (KJ (Zi (Y7 (U0 (Zj (U0 (Kt zO Ka WS) U6) la1) U6) (Y8 (by lia) (by lia))) (EJ la (by lia) (I:=λZ=>∃x,Z=[S0,S1,S2,S3,S4,S5,zP,zP,x]) ?_ ⟨zP,rfl⟩))) U6))) (Qa zO)) (Qa zO) zO) ?_
 .rintro i hi Z ⟨x,rfl⟩
  have ax:oIx (.list (as.map int)) (.int (i:Nat))=O (.int (as.getD i 0)):=Xs (k:=(i:Int)) (by lia) (by lia);exact⟨_,U4 (Qa zO) zO,Kf (Kf (Kt zO Ka WS) (UX zO) ax) Ka Wp,UX zO,_,rfl⟩
 refine Kq (Z1:=[S0,S1,S2,S3,S4,S5,O (.own (B++[.list ((KM ps).map int)])),zP]) (XT zO (KJ (Zi (Y7 (U0 (Zj (U0 (Kt zO Ka Vs) U6) lp1) U6) (Y8 (by lia) (by lia))) (EJ lp (by lia) (I:=λZ=>∃x,Z=[S0,S1,S2,S3,S4,S5,zP,zP,x]) ?_ ⟨zP,rfl⟩))) zO (by show 3<1000000;decide) zO) ?_
 .rintro i hi Z ⟨x,rfl⟩
  have ax:oIx (.list (ps.map int)) (.int (i:Nat))=O (.int (ps.getD i 0)):=Xs (k:=(i:Int)) (by lia) (by lia);exact⟨_,U4 (Qa zO) zO,Kf (Kf (Kt zO Ka Vs) (UX zO) ax) Ka Wp,UX zO,_,rfl⟩
 apply KW;apply ZD (λi Z=>∃x7,Z=[S0,S1,S2,S3,S4,S5,O (.own ((B++[.list ((KM ps).map int)])++(UH i).map (Wy T (KM as)))),x7])
 case h1=>exact Y7 (U0 (Zj (U0 (Kt zO Ka WS) U6) la1) U6) (Y8 (by lia) (by lia))
 case h0=>exact⟨_,rfl⟩
 case hst=>
  rintro i d Z hi ⟨x7,rfl⟩;obtain⟨rfl,hlt⟩:=XY hi;have ak:i<as.length:=by lia
  refine⟨_,U4 (Qa zO) zO,?_⟩;rw[Jj];unfold GZ;have ax:oIx (.list (as.map int)) (.int (i:Nat))=O (.int (as.getD i 0)):=Xs (k:=(i:Int)) (by lia) (by lia)
  have e:(!decide ((i:Int)∈KM as))=decide (as.getD i 0=0):=by
   have h1:=O4 ak;have h2:=WW ok.aa i;rw[Js.mpr h1];by_cases z:as.getD i 0=0
   .rw[QB z,QG (by lia)];rfl
   .rw[QG z,QB (by lia)];rfl
  refine Yp (XT zO (ZU (U0 (KJ (Zi (Zh (UX zO) Zt) ((Yn Kx (λq=>decide (q.1=(i:Int))) (λq=>int q.2) (λZ=>∃x y,Z=[S0,S1,S2,S3,S4,S5,zP,pb (.int (i:Nat)),x,y]) T _ [] ?_ ⟨zP,zP,rfl⟩ (by rw[Qm];lia)).trans (by rw[Qw,show((T.filter λq=>decide (q.1=(i:Int))).map λq=>int q.2)=((T.filter λq=>decide (q.1=(i:Int))).map Prod.snd).map int by rw[QL];rfl])))) (U0 (KJ (Kf (Kf (Kt zO Ka WS) (UX zO) ax) Ka Yk)) U6)) (Qa zO)) zO ?_ zO) (Zd ⟨O (.pub (.int (i:Nat))),?_⟩)
  .rintro q hq Z ⟨x,y,rfl⟩
   exact⟨_,Kr zO (U9 (U4 (Qa zO) zO) (U9 (U4 (Qa zO) zO) Ks)),ZO zO (UX zO) Yk,λ_=>UX zO,_,_,rfl⟩
  .rw[Qi,Qb,Qp]
   show 4+i<1000000
   lia
  .rw[Uq,QC,←Q5,←e]
   rfl
 case hend=>rintro Z ⟨x7,rfl⟩;rw[YZ,show((ls.length:Int)-0).toNat=ls.length by lia];exact KU (Kv (YC zO zO) zO)
def Lq(g:Good cs ls)(ga:Yo cs.length ls.length old ts)(hla:as.length=ls.length)(aM:ps.length=cs.length):XF [Kz cs ls,KI o old ts,K5 tm as ps L]=O (.list ((Zs (Kd (Km ls o old ts)) (Ke 0 ls) tm as ps).map Kx)):=by refine K3  rfl ?_;refine Kq (Wh (Ko (U0 (UX zO) (U0 (UX zO) U6)) zO (OP g ga))) ?_;exact Kv (Ko (U0 (UX zO) (U0 (UX zO) (U0 (Kt zO Ka (Zv  rfl)) U6))) zO (LX g ga hla aM)) zO
def CA(g:Good cs ls)(ga:Yo cs.length ls.length old ts)(hla:as.length=ls.length)(aM:ps.length=cs.length)(hL:∀us∈L,us.length=ls.length)(aU:L.length<=1000):Tk [Kz cs ls,KI o old ts,K5 tm as ps L]=O (.list (((Zs (Kd (Km ls o old ts)) (Ke 0 ls) tm as ps).filter λq=>L.all λus=>decide (us.getD q.1.toNat zP=O q.2)).map Kx)):=by
 have hp:=VH g;have aV:=Sz g;refine K3  rfl ?_;unfold Rf
 let S0:Option Sl:=O (.pub (Kz cs ls))
 let S1:Option Sl:=O (.pub (KI o old ts))
 let S2:Option Sl:=O (.pub (K5 tm as ps L))
 let W:=Zs (Kd (Km ls o old ts)) (Ke 0 ls) tm as ps
 let S3:Option Sl:=O (.pub (.list (W.map Kx)))
 have hW:W.length<=42:=QK (Jn _ _) aV;refine Kq  (KY (Ko (U0 (UX zO) (U0 (UX zO) (U0 (UX zO) U6))) zO (Lq g ga hla aM)) (Qa zO) zO) ?_;have hw1:oIx (K5 tm as ps L) (.int 1)=O _:=Zv (j:=1) zO;refine Kv (KJ (Zi (Zh (UX zO) Zt) ((Yn Kx _ Kx (λZ=>∃x y,Z=[S0,S1,S2,S3,x,y]) W _ [] ?_ ⟨zP,zP,rfl⟩ (by rw[Qm];lia)).trans (by rw[Qw])))) zO;rintro q hqm Z ⟨x,y,rfl⟩;obtain⟨a1,a2,a3,a4⟩:=hp.lo q (xE hqm);refine⟨_,Kr zO (U9 (U4 (Qa zO) zO) (U9 (U4 (Qa zO) zO) Ks)),Yj (Zj (U0 (KJ (Zi (Zh (Kt zO Ka hw1) Zt) ((Yn Kp (λ_=>zQ) (λus=>UK (decide (us.getD q.1.toNat zP=O q.2))) (λZ=>∃x,Z=[S0,S1,S2,S3,pb (.int q.1),pb (.int q.2),x]) L _ [] ?_ ⟨zP,rfl⟩ (by rw[Qm];lia)).trans (by rw[Qw,QR.mpr (λ_ _=>rfl)])))) U6) ?_),λ_=>ZU (U0 (UX zO) (U0 (UX zO) U6)) (Qa zO),_,_,rfl⟩
 .rintro us hu Z ⟨x,rfl⟩
  exact⟨_,U4 (Qa zO) zO,rfl,λ_=>KJ (Kf (Kt zO (UX zO) (T9 a1 (by have:=hL us hu;lia))) (UX zO) (Pb (b:=O q.2))),_,rfl⟩
 .rw[show(L.map λus=>UK _)=(L.map λus=>decide _).map UK by rw[QL];rfl,VP,Ua]
  rfl
def EI  (hl:xs.length<=1000):WP [.list (xs.map int)]=O (.list ((KM xs).map int)):=by refine K3  rfl ?_;exact Kv (KJ (Zi (Y9 (U0 (UX zO) U6) Xa) (xH hl ⟨_,rfl⟩))) zO
def qa(hl:as.length<=1000):Tj [K5 tm as ps L]=O (.list ((KM as).map int)):=by refine K3  rfl ?_;refine Kq (YD (UX zO) (Kr zO (U9 (U4 (Qa zO) zO) (U9 (U4 (Qa zO) zO) Ks)))) ?_;refine Kq (YD (UX zO) (Kr zO (U9 (U4 (Qa zO) zO) (U9 (U4 (Qa zO) zO) (U9 (U4 (Qa zO) zO) Ks))))) ?_;exact Kv (Ko (U0 (UX zO) U6) zO (EI hl)) zO
def Cz(hl:ps.length<=1000):Ti [K5 tm as ps L]=O (.list ((KM ps).map int)):=by refine K3  rfl ?_;refine Kq (YD (UX zO) (Kr zO (U9 (U4 (Qa zO) zO) (U9 (U4 (Qa zO) zO) Ks)))) ?_;refine Kq (YD (UX zO) (Kr zO (U9 (U4 (Qa zO) zO) (U9 (U4 (Qa zO) zO) (U9 (U4 (Qa zO) zO) Ks))))) ?_;exact Kv (Ko (U0 (UX zO) U6) zO (EI hl)) zO
def wk(g:Good cs ls)(ga:Yo cs.length ls.length old ts)(ok:OkP cs.length ls.length (Km ls o old ts) (Ke 0 ls) tm as ps){i:Nat}(hi:i<ls.length):Vh [Kz cs ls,KI o old ts,K5 tm as ps L,.int i]=O (Wy (Zs (Kd (Km ls o old ts)) (Ke 0 ls) tm as ps) (KM as) i):=by
 have aV:=Sz g;have la:=ok.la
 let T:=Zs (Kd (Km ls o old ts)) (Ke 0 ls) tm as ps
 have hT:T.length<=42:=QK (Jn _ _) aV;refine K3  rfl ?_;unfold Re
 let S0:Option Sl:=O (.pub (Kz cs ls))
 let S1:Option Sl:=O (.pub (KI o old ts))
 let S2:Option Sl:=O (.pub (K5 tm as ps L))
 let S3:Option Sl:=O (.pub (.int (i:Nat)))
 refine Kq  (Z8 (Zi (Zh (Ko (U0 (UX zO) (U0 (UX zO) (U0 (UX zO) U6))) zO (Lq g ga ok.la ok.lp)) Zt) ((Yn Kx _ (λq=>int q.2) (λZ=>∃x y,Z=[S0,S1,S2,S3,zP,zP,zP,zP,x,y]) T _ [] ?_ ⟨zP,zP,rfl⟩ (by rw[Qm];lia)).trans (by rw[Qw,show((T.filter λq=>decide (q.1=(i:Int))).map λq=>int q.2)=((T.filter λq=>decide (q.1=(i:Int))).map Prod.snd).map int by rw[QL];rfl]))) (Qa zO) zO) ?_
 .rintro q hq Z ⟨x,y,rfl⟩
  exact⟨_,Kr zO (U9 (U4 (Qa zO) zO) (U9 (U4 (Qa zO) zO) Ks)),ZO zO (UX zO) Yk,λ_=>UX zO,_,_,rfl⟩
 have b9:oIx (K5 tm as ps L) (.int 0)=O (KG tm as ps):=Zv (j:=0) zO;refine Kq (YD (Kt zO Ka b9) (Kr zO (U9 (U4 (Qa zO) zO) (U9 (U4 (Qa zO) zO) (U9 (U4 (Qa zO) zO) Ks))))) ?_;have ax:oIx (.list (as.map int)) (.int (i:Nat))=O (.int (as.getD i 0)):=Xs (k:=(i:Int)) (by lia) (by lia);refine Kv (ZU (U0 (YC zO zO) (U0 (KJ (Kf (Kt zO (UX zO) ax) Ka Yk)) U6)) (Qa zO)) ?_
 have e:(!decide ((i:Int)∈KM as))=decide (as.getD i 0=0):=by
  have h1:=O4 (xs:=as) (i:=i) (by lia);have h2:=WW ok.aa i;rw[Js.mpr h1];by_cases z:as.getD i 0=0
  .rw[QB z,QG (by lia)];rfl
  .rw[QG z,QB (by lia)];rfl
 unfold Wy;rw[e]
def A9{T:LP}(nd:T.Nodup){q}(hq:q∈T):(T.map Prod.fst).count q.1=1 ↔ ∀q'∈T,q'.1=q.1->q'=q:=by
 have e:(T.map Prod.fst).count q.1=(T.filter λx=>x.1==q.1).length:=by rw[List.count,List.countP_map,List.countP_eq_length_filter];rfl
 have hm:q∈T.filter λx=>x.1==q.1:=List.mem_filter.mpr ⟨hq,by simp⟩
 rw[e];constructor
 .intro h q' aq z
  have hm':q'∈T.filter λx=>x.1==q.1:=List.mem_filter.mpr ⟨aq,by simp[z]⟩
  obtain⟨a,ha⟩:=List.length_eq_one_iff.mp h;rw[ha]at hm hm';rw[Qt.mp hm,Qt.mp hm']
 .intro h
  have nf:(T.filter λx=>x.1==q.1).Nodup:=nd.filter _;have ha:∀x∈T.filter λx=>x.1==q.1,x=q:=λx hx=>by obtain⟨h1,h2⟩:=QP.mp hx;exact h x h1 (by simpa using h2)
  generalize T.filter _=F at nf ha hm
  match F,hm,nf,ha with
  |[a],_,_,_=>rfl
  |a::b::r,_,nf,ha=>have:=ha a Ql;have:=ha b (Qk _ Ql);simp_all
def wj(hp:Zy cs.length m qs)(gw:GWeb cs f qs m tm as ps L):((Zs f qs tm as ps).filter λq=>L.all λus=>decide (us.getD q.1.toNat zP=O q.2))=R7 (Zs f qs tm as ps) (KM as):=by
 refine List.filter_congr λq hq=>?_;have hqs:=(QP.mp hq).1
 obtain⟨a1,a2,_,_⟩:=hp.lo q hqs;have nd:(Zs f qs tm as ps).Nodup:=hp.nd.filter _;have bQ:=O4  (i:=q.1.toNat) (by rw[gw.ok.la];lia);rw[Ul a1]at bQ;rw[JU,QM,Jl,Jl,Q2,A9 nd hq,bQ];constructor
 .intro h
  refine⟨λq' aq z=>?_,?_⟩
  .obtain⟨us,hu,e⟩:=V0.mp gw.wish q' aq
   have:=Qa (h us hu);rw[z,this]at e;exact Prod.ext z (Ja e).symm
  .by_cases z:as.getD q.1.toNat 0<=0
   .obtain⟨us,hu,e⟩:=VZ.mp gw.noth q.1.toNat (by rw[gw.ok.la];lia) z
    have:=Qa (h us hu);rw[this]at e;cases e
   .lia
 .rintro⟨h1,h2⟩ us hu
  have hm:=R8 hp gw hu;have tg:=O5 hp gw hm;have hl:q.1.toNat<us.length:=by rw[hm.dl.len];lia
  have hg:=Qe hl;generalize us[q.1.toNat]=o at hg;refine QB (MQ.mpr ?_);cases o with
  |none=>have:=tg.non _ hg;lia
  |some t=>have hq2:=hm.dl.wish _ _ hg;have:((q.1.toNat:Int),t)∈Zs f qs tm as ps:=QP.mpr ⟨hq2,QB (tg.got _ _ hg).symm⟩;have e:=h1 _ this (Ul a1);rw[hg,(J5 Prod.snd e).symm]
def EH(g:Good cs ls)(ga:Yo cs.length ls.length old ts)(gw:GWeb cs (Kd (Km ls o old ts)) (Ke 0 ls) ls.length tm as ps L)(aU:L.length<=1000):Ve [Kz cs ls,KI o old ts,K5 tm as ps L]=O (TY (Zs (Kd (Km ls o old ts)) (Ke 0 ls) tm as ps) (KM as) (KM ps) ls.length):=by
 have c6:=g.c6;have l7:=g.l7;have hp:=VH g;have ok   :=gw.ok;have la:=ok.la;have lp:=ok.lp
 let T:=Zs (Kd (Km ls o old ts)) (Ke 0 ls) tm as ps
 let S0:Option Sl:=O (.pub (Kz cs ls))
 let S1:Option Sl:=O (.pub (KI o old ts))
 let S2:Option Sl:=O (.pub (K5 tm as ps L))
 have hs:=CA (o:=o) (tm:=tm) g ga la lp (λus hu=>(gw.best us hu).1.len) aU;rw[wj hp gw]at hs
 let B:zS:=[.list (T.map Kx),.list ((R7 T (KM as)).map Kx),.list ((KM as).map int),.list ((KM ps).map int)]
 refine K3  rfl ?_;unfold SU;refine Kq  (Z8 (W3 (U0 (Ko (U0 (UX zO) (U0 (UX zO) (U0 (UX zO) U6))) zO (Lq g ga la lp)) (U0 (Ko (U0 (UX zO) (U0 (UX zO) (U0 (UX zO) U6))) zO hs) (U0 (Ko (U0 (UX zO) U6) zO (qa (by lia))) (U0 (Ko (U0 (UX zO) U6) zO (Cz (by lia))) U6)))) (Qa zO)) (Qa zO) zO) ?_
 let S3:Option Sl:=O (.pub (.list B))
 have hlen:Kn [.list (ls.map Zm)]=O (.int (ls.length:Nat)):=by rw[Zg,Qb]
 have hc:Zf (gN 4) (U2 zQ) (U7 4 Vh (UZ (UW 0) (UZ (UW 1) (UZ (UW 2) (UZ (UW 4) (UY)))))) (Ys 0 ((ls.length:Nat):Int)) [S0,S1,S2,S3,zP] []=O ((UH ls.length).map (Wy T (KM as))):=by rw[FE];refine(Yn _ (λ_=>zQ) (Wy T (KM as)) (λZ=>∃x,Z=[S0,S1,S2,S3,x]) (UH ls.length) _ [] ?_ ⟨zP,rfl⟩ (by rw[Qm,Qp];lia)).trans (by rw[Qw,QR.mpr (λ_ _=>rfl)]);rintro i hi Z ⟨x,rfl⟩;exact⟨_,U4 (Qa zO) zO,rfl,λ_=>Ko (U0 (UX zO) (U0 (UX zO) (U0 (UX zO) (U0 (UX zO) U6)))) zO (wk g ga ok (QE.mp hi)),_,rfl⟩
 exact Kv (Kf (YC zO zO) (KJ (Zi (Y7 (U0 (Zj (U0 (Kt zO Ka XS) U6) hlen) U6) (Y8 (by lia) (by lia))) hc)) (Wj (by rw[Qb,Qp];show 4+_<=_;lia))) zO
end
def N8{a b:D}:oIx (.tuple [a,b]) (.int 0)=O a/\oIx (.tuple [a,b]) (.int 1)=O b:=⟨Zv  rfl,Zv  rfl⟩
def jr:∀ns:zT,ns.length<=63->V8 [.list (ns.map int)]=O (.bool zQ):=by
 intro ns hns;refine K3 (Z:=[pb (.list (ns.map int)),zP,zP,zP,zP,zP,zP,zP,zP,zP,zP,zP,zP,zP]) zO ?_;unfold SR;obtain⟨r,hr,cs,ls,rfl,g,_⟩:=zo (ns:=ns) (T:=6) (A:=7) (R:=5) (by lia) 0;have l7:=g.l7;have c6:=g.c6;have hp:=VH g;obtain⟨v8,hv8⟩:=LK ns 8 (by lia)
 let S0:Option Sl:=O (.pub (.list (ns.map int)))
 let S1:Option Sl:=O (.pub (Kz cs ls))
 refine Kq (Z1:=[S0,S1,zP,zP,zP,zP,zP,zP,zP,zP,zP,zP,zP,zP]) (KY (Ko (U0 (UX zO) (U0 Ka (U0 Ka (U0 Ka (U0 Ka U6))))) zO hr) (Qa zO) zO) ?_
 have hadd:Kg (.list [.int v8]) (.list (DL.cutD (ns.map int) (O 9) (O 10)))=O (.list (.int v8::DL.cutD (ns.map int) (O 9) (O 10))):=by
  rw[Wj]
  .rfl
  .unfold DL.cutD
   rw[QY,Q8,Qb,Q0]
   lia
 apply KW;apply ZD (λ_ Z=>∃x2 x3 x4 x5 x6 x7 x8 x9 au aj av ao,Z=[S0,S1,x2,x3,x4,x5,x6,x7,x8,x9,au,aj,av,ao])
 case h1=>exact Y9 (U0 (Kf (ZN (U0 (Ko (U0 (UX zO) (U0 Ka U6)) zO hv8) U6) (Qa zO)) (W1 (UX zO) (Xq Ka) (Xq Ka) W5) hadd) U6) Xa
 case h0=>exact⟨_,_,_,_,_,_,_,_,_,_,_,_,rfl⟩
 case hend=>rintro Z ⟨x2,x3,x4,x5,x6,x7,x8,x9,au,aj,av,ao,rfl⟩;exact KU (Kv Ka rfl)
 case hst=>
 rintro i d Z hi ⟨x2,x3,x4,x5,x6,x7,x8,x9,au,aj,av,ao,rfl⟩;obtain⟨x,hx,rfl⟩:=Xo hi
 obtain⟨c,rfl⟩:∃c:Int,x=.int c:=by
  rcases Qx.mp (Qr hx)with h|h
  .exact⟨_,h⟩
  .unfold DL.cutD at h
   obtain⟨c,_,rfl⟩:=Qs.mp (List.mem_of_mem_drop (JL h));exact⟨c,rfl⟩
 refine⟨_,Kr zO (U9 (U4 (Qa zO) zO) (U9 (U4 (Qa zO) zO) Ks)),?_⟩;rw[QX];unfold GJ;obtain⟨r,ha,o,old,ts,rfl,ga⟩:=vi g c (20+(i:Int));obtain⟨ws,T,as,ps,L,hweb,wq⟩:=xM (o:=o) g ga;have gw:=CB hp wq;obtain⟨bs,hbd,bT,hst⟩:=zI (o:=o) g ga;obtain⟨aE,bc⟩:=FM hp bT (XU hp bT) (Sd hp bT) (V:=prW cs (Kd (Km ls o old ts)) (Ke 0 ls) bs) (λ_=>rfl) hst;have mbs:WR cs (Kd (Km ls o old ts)) (Ke 0 ls) ls.length bs:=⟨bT,λvs hv=>wp hp bT hst hv⟩
 let F:=Kd (Km ls o old ts)
 let ap:=Vd ls.length F (prW cs F (Ke 0 ls) bs) (Ke 0 ls)
 let am:=(UH cs.length).map (prW cs F (Ke 0 ls) bs)
 have aE:OkP cs.length ls.length (λa b=>F (a,b)) (Ke 0 ls) 1 ap am:=aE;have bc:ZT cs ap am=Kl F 0 bs:=bc;have aU:=wq.len;have la:=gw.ok.la;have lp:=gw.ok.lp
 let tm:Int:=((cs.length+1:Nat):Int)
 have gw:GWeb cs F (Ke 0 ls) ls.length tm as ps L:=gw;have ok:OkP cs.length ls.length (Km ls o old ts) (Ke 0 ls) tm as ps:=gw.ok
 let S2:Option Sl:=O (.pub (.int (i:Nat)))
 let S3:Option Sl:=O (.pub (.int c))
 let S4:Option Sl:=O (.pub (KI o old ts))
 let S5:Option Sl:=O (.pub (K5 tm as ps L))
 let S6:Option Sl:=O (.pub (KG tm as ps))
 let S7:Option Sl:=O (.pub (.list (L.map Kp)))
 let S8:Option Sl:=O (.pub (.tuple [Kp bs,KG 1 ap am]))
 let DU:=TY (Zs F (Ke 0 ls) tm as ps) (KM as) (KM ps) ls.length
 let S9:Option Sl:=O (.pub DU)
 refine Kq (Z1:=[S0,S1,S2,S3,S4,x5,x6,x7,x8,x9,au,aj,av,ao]) (KY (Ko (U0 (UX zO) (U0 (UX zO) (U0 (Kf Ka (UX zO) Ze) U6))) zO ha) (Qa zO) zO) ?_;refine Kq (Z1:=[S0,S1,S2,S3,S4,S5,x6,x7,x8,x9,au,aj,av,ao]) (KY (Ko (U0 (UX zO) (U0 (UX zO) U6)) zO hweb) (Qa zO) zO) ?_;refine Kq (Z1:=[S0,S1,S2,S3,S4,S5,S6,S7,x8,x9,au,aj,av,ao]) (YD (UX zO) (Kr zO (U9 (U4 (Qa zO) zO) (U9 (U4 (Qa zO) zO) Ks)))) ?_;refine Kq (Z1:=[S0,S1,S2,S3,S4,S5,S6,S7,S8,x9,au,aj,av,ao]) (KY (Ko (U0 (UX zO) (U0 (UX zO) U6)) zO hbd) (Qa zO) zO) ?_;have hclm:ZT cs ap am*tm=ZT cs as ps*1:=by rw[bc,Int.mul_one,←NQ hp gw mbs,Int.mul_comm]
 have b8:=(N8 (a:=Kp bs) (b:=KG 1 ap am)).2;have a8:=(N8 (a:=Kp bs) (b:=KG 1 ap am)).1;have a5:=(N8 (a:=KG tm as ps) (b:=.list (L.map Kp))).1;apply KW;refine KE (b:=zR) (Z1:=[S0,S1,S2,S3,S4,S5,S6,S7,S8,x9,au,aj,av,ao]) ((Kf (Kf (Ko (U0 (UX zO) (U0 (Kt zO Ka b8) U6)) zO (LR g)) (Kt zO Ka Vt) (Xb (by show -18446744073709551616<((cs.length+1:Nat):Int);lia) (by show((cs.length+1:Nat):Int)<_;lia))) (Kf (Ko (U0 (UX zO) (U0 (UX zO) U6)) zO (LR g)) (Kf (Kt zO Ka b8) Ka Vt) (Xb (by decide) (by decide))) Wg).trans (by rw[hclm,QB zO];rfl)) (λz=>by cases z) λ_=>K1 (KU ?_)
 refine Kq (Z1:=[S0,S1,S2,S3,S4,S5,S6,S7,S8,S9,au,aj,av,ao]) (KY (Ko (U0 (UX zO) (U0 (UX zO) (U0 (Kt zO Ka a5) U6))) zO (CK g ga ok)) (Qa zO) zO) ?_;apply KW;refine KE (b:=zR) (Z1:=[S0,S1,S2,S3,S4,S5,S6,S7,S8,S9,au,aj,av,ao]) (Kf (Ko (U0 (UX zO) (U0 (UX zO) (U0 (UX zO) U6))) zO (EH g ga gw (by lia))) (UX zO) (EK _ _ _ _)) (λz=>by cases z) λ_=>K1 (KU ?_)
 obtain⟨r,hn,dg,rfl,hdl,hdb⟩:=NL c (50+(i:Int)) (sizes:=[5,61]) (λx hx=>by
  rcases Qx.mp hx with rfl|hx
  .decide
  .rw[Qt.mp hx];decide) (by decide)
 obtain⟨d0,hd0⟩:∃d0:Int,dg[0]?=O d0:=⟨_,Qe (by rw[hdl];decide)⟩
 obtain⟨d1,hd1⟩:∃d1:Int,dg[1]?=O d1:=⟨_,Qe (by rw[hdl];decide)⟩
 have hb0:=hdb 0 d0 5 hd0 zO;have hi0:oIx (.list (dg.map int)) (.int 0)=O (.int d0):=Zv (j:=0) (by rw[Qd,hd0];rfl);have hi1:oIx (.list (dg.map int)) (.int 1)=O (.int d1):=Zv (j:=1) (by rw[Qd,hd1];rfl)
 let S10:Option Sl:=O (.pub (.list (dg.map int)))
 refine Kq (Z1:=[S0,S1,S2,S3,S4,S5,S6,S7,S8,S9,S10,aj,av,ao]) (KY (Ko (U0 (UX zO) (U0 (Kf Ka (UX zO) Ze) (U0 (ZN (U0 Ka (U0 Ka U6)) (Qa zO)) U6))) zO hn) (Qa zO) zO) ?_;have hLp:0<L.length:=List.length_pos_iff.mpr gw.ne;have hm0:=Int.emod_nonneg d1 (b:=(L.length:Int)) (by lia);have hm1:=Int.emod_lt_of_pos d1 (b:=(L.length:Int)) (by lia);obtain⟨k,hk⟩:∃k:Nat,d1 % (L.length:Int)=k:=⟨(d1 % (L.length:Int)).toNat,by lia⟩
 have aN:k<L.length:=by lia
 let S11:Option Sl:=O (.pub (.int (k:Nat)))
 have cr:Kn [.list (L.map Kp)]=O (.int (L.length:Nat)):=by rw[Zg,Qb]
 refine Kq (Z1:=[S0,S1,S2,S3,S4,S5,S6,S7,S8,S9,S10,S11,av,ao]) (KY (Kf (Kt zO Ka hi1) (Zu zO cr) (by rw[Sb (by lia),hk])) (Qa zO) zO) ?_;have mL:∀us∈L,WR cs F (Ke 0 ls) ls.length us:=λus hu=>R8 hp gw hu
 have w1:GWeb cs F (Ke 0 ls) ls.length (tm+(d0+1)*1) (K9 (d0+1) as ap) (K9 (d0+1) ps am) (L++[bs]):=Ma hp (NP gw aE (λus hu=>by rw[Int.one_mul,bc];exact JV (mbs.mx us (mL us hu).dl) ((mL us hu).mx bs bT)) (by lia)) (λus hu=>Q4 _ hu) λus hu=>(Qz.mp hu).elim (mL us) λz=>by rw[Qt.mp z];exact mbs
 have w2:GWeb cs F (Ke 0 ls) ls.length (tm+3*tm) (K9 3 as as) (K9 3 ps ps) L.reverse:=Ma hp (NP gw gw.ok (λus hu=>(gw.best us hu).2) (by decide)) (λus hu=>List.mem_reverse.mpr hu) λus hu=>mL us (List.mem_reverse.mp hu)
 have w3:GWeb cs F (Ke 0 ls) ls.length tm as ps (L.drop k++L):=Ma hp gw (λus hu=>QN _ hu) λus hu=>(Qz.mp hu).elim (λz=>mL us (List.mem_of_mem_drop z)) (mL us);have w4:GWeb cs F (Ke 0 ls) ls.length (tm+10 ^ 19*tm) (K9 (10 ^ 19) as as) (K9 (10 ^ 19) ps ps) L:=NP gw gw.ok (λus hu=>(gw.best us hu).2) (by decide)
 have cutF:DL.cutD (L.map Kp) (O (k:Int)) zP=(L.drop k).map Kp:=by rw[Es,List.map_drop]
 have cutT:DL.cutD (L.map Kp) zP (O (k:Int))=(L.take k).map Kp:=by rw[qd,Uw]
 have cutN:DL.cutD (L.map Kp) (O ((k:Int)+1)) zP=(L.drop (k+1)).map Kp:=by rw[show((k:Int)+1)=((k+1:Nat):Int)by lia,Es,List.map_drop]
 have addL:∀X Y:z9,X.length<=100->Y.length<=100->Kg (.list (X.map Kp)) (.list (Y.map Kp))=O (.list ((X++Y).map Kp)):=λX Y hX hY=>by rw[Wj (by rw[Qb,Qb];lia),QC]
 let Os:zS:=[K5 (tm+(d0+1)*1) (K9 (d0+1) as ap) (K9 (d0+1) ps am) (L++[bs]),K5 (tm+3*tm) (K9 3 as as) (K9 3 ps ps) L.reverse,K5 tm as ps (L.drop k++L),K5 (tm+10 ^ 19*tm) (K9 (10 ^ 19) as as) (K9 (10 ^ 19) ps ps) L]
 refine Kq (Z1:=[S0,S1,S2,S3,S4,S5,S6,S7,S8,S9,S10,S11,O (.own [K5 (tm+(d0+1)*1) (K9 (d0+1) as ap) (K9 (d0+1) ps am) (L++[bs])]),ao]) (Z8 (W3 (U0 (ZU (U0 (Ko (U0 (UX zO) (U0 (Kt zO Ka b8) (U0 (Kf (Kt zO Ka hi0) Ka Ze) U6))) zO (N9 (by lia) (by lia) (by lia))) (U0 (Kf (UX zO) (ZN (U0 (Kt zO Ka a8) U6) (Qa zO)) (addL L [bs] (by lia) (by show 1<=100;decide))) U6)) (Qa zO)) U6) (Qa zO)) (Qa zO) zO) ?_;refine Kq (Z1:=[S0,S1,S2,S3,S4,S5,S6,S7,S8,S9,S10,S11,O (.own (Os.take 2)),ao]) (XT zO (ZU (U0 (Ko (U0 (UX zO) (U0 (UX zO) (U0 Ka U6))) zO (N9 (by decide) (by lia) (by lia))) (U0 (HI (UX zO) Ka Ka (Xq (Sw Ka))) U6)) (Qa zO)) zO (by show 1<1000000;decide) (by rw[←List.map_reverse];rfl)) ?_;refine Kq (Z1:=[S0,S1,S2,S3,S4,S5,S6,S7,S8,S9,S10,S11,O (.own (Os.take 3)),ao]) (XT zO (ZU (U0 (UX zO) (U0 (Kf (W1 (UX zO) (Xq (UX zO)) Ka (W5.trans (by rw[cutF]))) (UX zO) (addL (L.drop k) L (by rw[Q8];lia) (by lia))) U6)) (Qa zO)) zO (by show 2<1000000;decide) zO) ?_;refine Kq (Z1:=[S0,S1,S2,S3,S4,S5,S6,S7,S8,S9,S10,S11,O (.own Os),ao]) (XT zO (ZU (U0 (Ko (U0 (UX zO) (U0 (UX zO) (U0 (Kf Ka Ka (Fl (by decide))) U6))) zO (N9 (by decide) (by lia) (by lia))) (U0 (UX zO) U6)) (Qa zO)) zO (by show 3<1000000;decide) zO) ?_
 have all4:∀d∈Os,∃aD as' ps' L',d=K5 aD as' ps' L'/\GWeb cs F (Ke 0 ls) ls.length aD as' ps' L'/\L'.length<=200:=λd hd=>by
  rcases Qx.mp hd with rfl|hd
  .exact⟨_,_,_,_,rfl,w1,by rw[Qi,Q0];lia⟩
  rcases Qx.mp hd with rfl|hd
  .exact⟨_,_,_,_,rfl,w2,by rw[List.length_reverse];lia⟩
  rcases Qx.mp hd with rfl|hd
  .exact⟨_,_,_,_,rfl,w3,by rw[Qi,Q8];lia⟩
  .rw[Qt.mp hd]
   exact⟨_,_,_,_,rfl,w4,by lia⟩
 have shw:∀{aD:Int}{as' ps':zT}{L':z9},as'.length=ls.length->ps'.length=cs.length->(∀us∈L',us.length=ls.length)->L'.length<=1000->ShW (K5 aD as' ps' L'):=λha hb hc hd p w e=>by
  obtain⟨e1,e2⟩:=Se e.symm;subst e1 e2;refine⟨λt a p z=>?_,λds z=>?_⟩
  .have e3:=PyData.tuple.inj z
   have f2:=(Jm (Jm e3).2).1;have f3:=(Jm (Jm (Jm e3).2).2).1;subst f2 f3;exact⟨λxs h=>by rw[←PyData.list.inj h,Qb];lia,λxs h=>by rw[←PyData.list.inj h,Qb];lia⟩
  .rw[←PyData.list.inj z]
   refine⟨by rw[Qb];exact hd,λx hx xs h=>?_⟩;obtain⟨us,hu,rfl⟩:=Qs.mp hx;rw[←PyData.list.inj h,Qb,hc us hu]
   lia
 have same:∀{aD:Int}{as' ps':zT}{L':z9},GWeb cs F (Ke 0 ls) ls.length aD as' ps' L'->TY (Zs F (Ke 0 ls) aD as' ps') (KM as') (KM ps') ls.length=DU:=λg2=>by obtain⟨e1,e2,e3⟩:=CN hp gw g2;show TY _ _ _ _=TY (Zs F (Ke 0 ls) tm as ps) (KM as) (KM ps) ls.length;rw[e1,e2,e3]
 apply KW;apply ZD (λ_ Z=>∃av ao,Z=[S0,S1,S2,S3,S4,S5,S6,S7,S8,S9,S10,S11,av,ao])
 case h1=>exact Zh (YC zO zO) Zt
 case h0=>exact⟨_,_,rfl⟩
 case hst=>rintro j d Z hj ⟨y12,y13,rfl⟩;obtain⟨aD,as',ps',L',rfl,g2,hl2⟩:=all4 d (Qr hj);refine⟨_,U4 (Qa zO) zO,?_⟩;unfold GK;obtain⟨b,hb,hbi⟩:=DW (o:=o) g ga (d:=K5 aD as' ps' L') (shw g2.ok.la g2.ok.lp (λus hu=>(g2.best us hu).1.len) (by lia));have hbt:b=zQ:=hbi.mpr ⟨_,_,_,_,rfl,g2⟩;subst hbt;have hr:=EH g ga g2 (by lia);rw[same g2]at hr;exact KE (b:=zR) (Z1:=[S0,S1,S2,S3,S4,S5,S6,S7,S8,S9,S10,S11,y12,pb (K5 aD as' ps' L')]) (ZZ (Kf (Ko (U0 (UX zO) (U0 (UX zO) (U0 (UX zO) U6))) zO hb) Ka (by rfl)) (Kf (Ko (U0 (UX zO) (U0 (UX zO) (U0 (UX zO) U6))) zO hr) (UX zO) (EK _ _ _ _))) (λz=>by cases z) λ_=>K1 (Zd ⟨_,_,rfl⟩)
 case hend=>
 rintro Z ⟨y12,y13,rfl⟩;refine KU ?_
 let L':=L.take k++L.drop (k+1)
 have sub:∀us∈L',us∈L:=λus hu=>(Qz.mp hu).elim JL List.mem_of_mem_drop
 have hl2:L'.length<=200:=by
  show(L.take k++L.drop (k+1)).length<=200
  rw[Qi,QY,Q8]
  lia
 have hL':∀us∈L',Deal cs ls us/\tm*Kl F 0 us=ZT cs as ps:=λus hu=>⟨Ex (gw.best us (sub us hu)).1,(gw.best us (sub us hu)).2⟩
 obtain⟨b,hb,hbi⟩:=DW (o:=o) g ga (d:=K5 tm as ps L') (shw la lp (λus hu=>(hL' us hu).1.len) (by lia));obtain⟨b2,hb2,hbi2⟩:=yE (o:=o) g ga gw.one ok hL' (by lia);have cC:b=b2:=by rw[JU,hbi,hbi2];refine⟨?_,λz=>⟨_,_,_,_,rfl,z⟩⟩;rintro⟨_,_,_,_,e,z⟩;obtain⟨e1,e2⟩:=Se e;obtain⟨rfl,rfl,rfl⟩:=MR e1;rw[Gc (PyData.list.inj e2)];exact z
 subst cC;refine Kq (Z1:=[S0,S1,S2,S3,S4,S5,S6,S7,S8,S9,S10,S11,y12,pb (K5 tm as ps L')]) (KY (ZU (U0 (UX zO) (U0 (Kf (W1 (UX zO) Ka (Xq (UX zO)) (W5.trans (by rw[cutT]))) (W1 (UX zO) (Xq (Kf (UX zO) Ka Ze)) Ka (W5.trans (by rw[cutN]))) (addL _ _ (by rw[QY];lia) (by rw[Q8];lia))) U6)) (Qa zO)) (Qa zO) zO) ?_;exact KE (b:=zR) (Z1:=[S0,S1,S2,S3,S4,S5,S6,S7,S8,S9,S10,S11,y12,pb (K5 tm as ps L')]) (Kf (Ko (U0 (UX zO) (U0 (UX zO) (U0 (UX zO) U6))) zO hb) (Ko (U0 (UX zO) (U0 (UX zO) (U0 (UX zO) U6))) zO hb2) As) (λz=>by cases z) λ_=>K1 (Zd ⟨_,_,_,_,_,_,_,_,_,_,_,_,rfl⟩)
end W
open PySem PySem.W PyProof.Rows
set_option maxRecDepth 100000 in
set_option maxHeartbeats 0 in
theorem PySem.Challenge.cw_wishdeal_k63_whole_webs_put_together_holds : PySem.Challenge.rw_wishdeal_k63_whole_webs_put_together.Holds := by
 w_on;o_law
 refine holds_open (q:=W.q0) (loose:=[]) (Xt:=λs=>xlAt W.q0 [] s&&recOk [] s) (XP:=XL W.q0 []) (Yf:=Hook.obs .none) (Ya:=Hook.val .none) (YP:=Hook.says .none) (N:=6946) (d:=W.d_df) (kwd:=[])
  W.CH (Hook.of .none) (Hook.keeps .none) (λs e=>xl_of s (Ug.mp e).1) XL.keeps (by rfl) (by rfl) (by rfl)
  (λs e=>recFacts_of (Ug.mp e).2) (by rfl) (by assumption) (by decide +kernel) ⟨rfl,rfl,rfl,rfl,rfl,by decide +kernel⟩ ?hw (W.walk W.jr)
 case hw=>w_witness2


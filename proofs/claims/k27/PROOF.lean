import PyProof.Rows.All
import Wide.All
import OpenK.AllK
import Wide.FinOn
import Lean
import PyProof.EqAt
import PyProof.EqKinds
import PyProof.TupleCall
import PyProof.EnumMake
import PyProof.ZipIter
import PyProof.ExcClass2
import PyProof.ExcInit
import PyProof.ExcBaseAll.ValueError
import PyProof.FString2
import PyProof.ExcArgsOwn
import PyProof.InstStoreFacts
import ObjForm.Fk.InstStore
import ObjForm.Fk.InstLoad
import PyProof.StationsW
import PyProof.RulesAs
import PyProof.NsDelKeeps
import OpenK.KMore
import PyProof.IsiBase
import OpenK.KNot
import PyProof.Rows.RuleN_isinstance
import PyProof.NeData
import PyProof.P3In
import PyProof.StrWalks
import PyProof.ConsumeWalk
import PyProof.SliceStr2
import PyProof.MeetsStr
import KE.KItem
import KE.KUnpack
import KE.KRevSl
import PyProof.Rows.SetFrom
import PyProof.SetRoads
import PyProof.Rows.Range3
import PyProof.CallType
import PyProof.Rows.CallKwBuiltin
import PyProof.Rows.MinMaxN
import PyProof.SumWalkG
import PyProof.Rows.SeqMore
import PyProof.Rows.SortWalk
import PyProof.Rows.SumAny
import PyProof.Rows.SeqMore2
import KE.KSortTup
import PyProof.Rows.SortShellK
import PyProof.ReprRoads
import PyProof.ReprBulk
import PyProof.CallFns
import PyProof.NeKinds
import PyProof.Rows.StrJoinMade
import PyProof.StrCalls
import KE.KIntText
import PyProof.ReprDict
import PyProof.DictIter
import PyProof.Rows.DictUnroll
import PyProof.MeetsStr2
import PyProof.Rows.StrNews
import PyProof.StrLawsChain
import PyProof.Rows.StrItems
import PyProof.SeqRoads2
import PySem.Challenge.RW_wishdeal_k27_ways_let_by
set_option compiler.extract_closed false
set_option Elab.async false
set_option linter.all false
set_option maxRecDepth 100000
set_option maxHeartbeats 4000000
open Option renaming some→Ci,none→Ck
open Bool renaming true→Cm,false→Cn
theorem Cj.{u}{α:Sort u}{a:α}:a=a:=rfl
abbrev Cp:=List Int
abbrev Cu:=Option Int
abbrev Cy:=Option Bool
abbrev Cz:=List Nat
theorem Qa:type_of% @of_decide_eq_true:=@of_decide_eq_true
theorem Qs:type_of% @if_pos:=@if_pos
theorem Qz:type_of% @decide_eq_false:=@decide_eq_false
theorem QM:type_of% @if_neg:=@if_neg
theorem QS:type_of% @decide_eq_true:=@decide_eq_true
theorem QX:type_of% @decide_eq_true_eq:=@decide_eq_true_eq
theorem Ju:type_of% @of_decide_eq_false:=@of_decide_eq_false
theorem JQ:type_of% @congrArg:=@congrArg
open PySem renaming wpAny_bind→Qb,wpAny_pure→Qi,wpAny_mono→Qv,wpAny_loadPart_at→QF,wpAny_truthy_bool→QW,wpAny_standAt→Q5,wpAny_isSubtype_exc→Jd,wpAny_pyIter_list→Jq,mem_of_lookup→JA,Value→JS,Shared→JT,Program→JU,Addr→JV,FuncData→JW,Expr→JX,sizeLine→JY,wpAny→JZ,starEach→J0,compareOp→J4,assignEach→Ui,foldedSetIterable→Uj
open List renaming length_map→Qd,getElem?_eq_getElem→Qe,getElem?_map→Qg,length_append→Qj,getElem?_set_ne→Qk,mem_cons_self→Ql,getElem?_eq_some_iff→Qm,mem_cons_of_mem→Qo,mem_singleton→Qp,mem_append_right→Qq,getElem?_append_left→Qr,getElem?_append_right→Qt,mem_cons→Qu,getElem?_replicate→Qy,mem_map→QB,mem_append→QC,map_cons→QG,mem_of_getElem?→QH,length_cons→QI,size_toArray→QK,getElem?_set_self→QL,length_singleton→QN,flatten_cons→QO,lookup_cons→QQ,length_replicate→QR,getElem_mem→QT,getD_eq_getElem?_getD→QU,append_nil→QY,length_set→QZ,length_nil→Q0,mem_append_left→Q2,all_eq_true→Q3,map_append→Q4,nodup_append→Q6,replicate_succ→Q8,map_map→Jc,mem_range→Je,pairwise_cons→Jg,length_take→Ji,nodup_cons→Jj,nil_append→Jk,drop_eq_getElem_cons→Jm,getElem?_eq_none→Jn,mem_flatten→Jo,length_range→Jr,reverse_cons→Jw,append_assoc→Jx,mem_of_mem_take→Jz,length_drop→JB,getElem?_cons_succ→JC,drop_eq_nil_of_le→JF,all_map→JK,mem_filter→JM,range→J5,replicate→J6,Pairwise→Ug
open PySem.Heap renaming get?_push_of_some→Qf,lt_size→Qh,get?_push_size→Qx
open Nat renaming le_refl→Qn,lt_of_lt_of_le→QD,ne_of_lt→QE,le_trans→QJ,le_of_not_lt→QP,lt_irrefl→Q9,ne_of_gt→Js,le_succ→JE,zero_le→JI,zero_add→JJ
open Bool renaming and_eq_true→Qw,or_eq_false_iff→Jp,false_eq_true→JG,not_eq_false'→JH,eq_iff_iff→JN
open Option.some renaming inj→QA
open Array renaming getD_eq_getD_getElem?→Q7,getElem?_eq_getElem→Jv,length_toList→JL
open Int renaming emod_lt_of_pos→Ja,toNat_natCast→Jb,emod_nonneg→Jf,le_refl→Jy,zero_add→JP,not_lt→JR
open PySem.W.Fast renaming te1987589406359920131→Jh
open PySem.W renaming kia_one→Jl
open PyProof.Rows renaming callWith_type1→Jt
open Option renaming getD_some→JD
open Array.Perm renaming refl→JO
open PySem.PyData renaming list→J7,bool→J8,str→J9,strOk→Ua,canLayAll0→Ub,depth→Uc,eqv→Ud,shown→Uh
open PySem.PassesOwn renaming never→Ue
open PySem.Str renaming ofString→Uf
abbrev Cq:=List JS
abbrev Cr:=List JX
abbrev Ct:=List JV
abbrev Cw:=Option JS
abbrev CA:=Option JV
abbrev L3:=List (List Cp)
abbrev LO:=List Cu
abbrev LP:=List (Int×Int)
open PySem.W (Frag)
open PySem.PyData (int)
open List (replicate)
namespace DL
open PySem PySem.Spec PySem.W PyProof.Rows
def topRunT(tb:String->Option Builtin)(p:JU)(w:World)(m:Nat)(ann:Cw):Nat->SharedT->Thread->Option SharedT
 |0,_,_=>Ck
 |n+1,s,t=>match through t,stepOk m ann t with
  |true,_=>Ci s
  |false,Cn=>Ck
  |false,Cm=>match stepT (denote tb) p w s t with
   |some x=>topRunT tb p w m ann n x.1 x.2
   |none=>Ck
theorem NH{tb:String->Option Builtin}{p:JU}{w:World}{m:Nat}{ann:Cw}:∀{n:Nat}{s s':SharedT}{t:Thread},topRunT tb p w m ann n s t=Ci s'->topRun tb p w m ann n s.abs t=Ci s'.abs
 |0,_,_,_,h=>by cases h
 |n+1,s,s',t,h=>by
  rw[topRunT]at h;rw[topRun];cases ht:through t with
  |true=>rw[ht]at h;cases h;rfl
  |false=>
   rw[ht]at h;cases hk:stepOk m ann t with
   |false=>rw[hk]at h;cases h
   |true=>
    rw[hk]at h;dsimp only at h⊢;cases hs:stepT (denote tb) p w s t with
    |none=>rw[hs]at h;cases h
    |some x=>rw[hs]at h;rw[stepT_spec hs];exact NH h
def btOf(l:List Obj):BT:=(l.foldl (λ(x:BT×Nat) o=>(x.1.ins x.2 o,x.2+1)) (.nil,0)).1
noncomputable def T0 (w:World) (os:OsState):SharedT:=⟨btOf (boot_heap w.params).objs.toList,11,(boot_heap w.params).life,#[],boot_drawn,boot_toks,os⟩
theorem FX(w:World)(os:OsState):(T0 w os).abs=⟨boot_heap w.params,#[],boot_drawn,boot_toks,os⟩:=by kernel_rfl
theorem EB(w:World):((boot_heap w.params).isNs mainGlobals&&(#[]:Array GenState).size==0,(boot_heap w.params).objs.size,(boot_heap w.params).nsMap mainGlobals "__annotations__")=(Cm,11,Ci (.ref 6)):=by kernel_rfl
noncomputable abbrev Lf (p q:JU) (loose:List Str) (Xt:JT->Bool) (w:World) (t:SharedT):=
 ((staticsOk (importedModules p.main.body) (boot_heap w.params) t.abs.heap&&namesBound p t.abs.heap&&gensDone t.abs&&laidKept (boot_heap w.params) t.abs.heap),openSeen q loose (importedModules p.main.body) Xt Cm t.abs)
theorem Fd{p q:JU}{loose:List Str}{Xt:JT->Bool}{N M:Nat}(e:opening p=plainProg p.main.scope.names)(hN:Nat.ble 600 N=Cm)(f:∀s,fenceModules? p s=Ci s)(le:Nat.ble M N=Cm)
  (run:∀(w:World)(os:OsState),(topRunT treeTable p w 11 (Ci (.ref 6)) M (T0 w os) (topStub p)).map (Lf p q loose Xt w)=Ci (Cm,openGood q loose)):LeftO p q loose Xt (Hook.obs .none) (Hook.val .none) N:=λw=>by
 obtain⟨⟨h,gs,d,k,os⟩,e0,e'⟩:=Option.map_eq_some_iff.mp (boot_open e hN f w);have e':(h,gs,d,k)=(boot_heap w.params,#[],boot_drawn,boot_toks):=e';obtain⟨rfl,rfl,rfl,rfl⟩:h=boot_heap w.params/\gs=#[]/\d=boot_drawn/\k=boot_toks:=by simpa only[Prod.mk.injEq]using e'
 obtain⟨t,ht,l⟩:=Option.map_eq_some_iff.mp (run w os);have hr:=NH ht;rw[FX]at hr;have r:=topRun_mono (N-M) _ _ _ _ hr;rw[show M+(N-M)=N by have:=Nat.le_of_ble_eq_true le;omega]at r;obtain⟨l1,l2⟩:=Prod.mk.inj l;have z:=EB w;obtain⟨z1,z2,z3⟩:_/\_/\_:=by simpa only[Prod.mk.injEq]using z
 have tf:topFrom treeTable p w N ⟨boot_heap w.params,#[],boot_drawn,boot_toks,os⟩=Ci t.abs:=by
  unfold topFrom;dsimp only;rw[z1,z2,z3,r]
  show(match staticsOk (importedModules p.main.body) (boot_heap w.params) t.abs.heap&&namesBound p t.abs.heap&&gensDone t.abs&&laidKept (boot_heap w.params) t.abs.heap with|true=>Ci t.abs|false=>Ck)=_
  rw[l1]
 unfold openEnds;rw[e0]
 show(topFrom treeTable p w N _).map _=_
 rw[tf];exact JQ Ci (Prod.ext l2 Cj)
end DL
open PySem in
lay_quick PySem.Challenge.pw_wishdeal_k27_ways_let_by DL.topRunT PySem.W.openGood PySem.W.staticsOk PySem.W.namesBound PySem.W.laidKept PySem.W.xlAt
namespace W
open PySem PySem.Spec DL
abbrev p0:JU:=PySem.Challenge.pw_wishdeal_k27_ways_let_by
def Yn:Cz:=[1,2,4,5,7,8,9,10,11,12,13,14,15,16,18,20,21,22,24,25,26,27,28,29,30,31,32,33,34]
def ixL:Cz:=[1,2,11,12,13,14,15,16,18,20,21,22,24,25,26,27,28,29,30,31,32,33,34]
abbrev q0:JU:=PySem.W.view p0 Yn
theorem Le:∀(w:World)(os:OsState),(PySem.W.Fast.tw10708255244068714335 PySem.W.Fast.tw14364793385576792824 PySem.W.Fast.tw12962953880042215069 w 11 (Ci (.ref 6)) 1346 (T0 w os) (PySem.W.topStub PySem.W.Fast.tw12962953880042215069)).map (λt=>((PySem.W.Fast.tw13471830651028734593 (PySem.W.Fast.tw5923862056798008813 (Program.main PySem.W.Fast.tw12962953880042215069).body) (PySem.W.boot_heap w.params) t.abs.heap&&PySem.W.Fast.tw4683006035507612052 PySem.W.Fast.tw12962953880042215069 t.abs.heap&&PySem.W.gensDone t.abs&&PySem.W.Fast.tw16898566250750103049 (PySem.W.boot_heap w.params) t.abs.heap),PySem.W.Fast.tw4187177175401517315 (PySem.W.view PySem.W.Fast.tw12962953880042215069 Yn) [] (PySem.W.Fast.tw5923862056798008813 (Program.main PySem.W.Fast.tw12962953880042215069).body) (λs=>PySem.W.Fast.tw4757257242682413121 (PySem.W.view PySem.W.Fast.tw12962953880042215069 Yn) [] s&&PySem.W.recOk [] s) Cm t.abs))=Ci (Cm,PySem.W.Fast.tw3486900944545009338 (PySem.W.view PySem.W.Fast.tw12962953880042215069 Yn) []):=by intro w os;kernel_rfl
theorem Ld:PySem.W.LeftO p0 q0 [] (λs=>PySem.W.xlAt q0 [] s&&PySem.W.recOk [] s) (PySem.W.Hook.obs .none) (PySem.W.Hook.val .none) 2592:=by
 refine Fd (M:=1346) (by kernel_rfl) Cj (λs=>by kernel_rfl) Cj λw os=>?_
 have h:=Le w os;rw[←PySem.W.Fast.te10708255244068714335,←PySem.W.Fast.te14364793385576792824,←PySem.W.Fast.te4187177175401517315,←PySem.W.Fast.te5923862056798008813,←PySem.W.Fast.te13471830651028734593,←PySem.W.Fast.te4683006035507612052,←PySem.W.Fast.te16898566250750103049,←PySem.W.Fast.te4757257242682413121,←PySem.W.Fast.te3486900944545009338,←PySem.W.Fast.te12962953880042215069]at h;exact h
end W
namespace L2
open PySem PySem.Spec PyProof.Rows
abbrev Key:=Sum Int Str
abbrev CB:=List Key
def Sg:Key->JS->Bool
 |.inl k,v=>Value.isInt k v
 |.inr x,v=>Value.isStrOf x v
def keyH(w:World):Key->Int
 |.inl k=>hashInt k
 |.inr x=>hashStr w x
theorem YW:∀{k:Key}{v:JS},Sg k v=Cm->(∃i t,k=Sum.inl i/\v=Value.int i t)∨(∃x t,k=Sum.inr x/\v=Value.str x t)
 |.inl i,v,h=>by obtain⟨t,e⟩:=Value.isInt_shape (k:=i) (v:=v) h;exact .inl ⟨i,t,rfl,e⟩
 |.inr x,v,h=>by obtain⟨t,e⟩:=Value.isStrOf_shape (x:=x) (v:=v) h;exact .inr ⟨x,t,rfl,e⟩
theorem LM(a b:Int):decide ((Sum.inl a:Key)=Sum.inl b)=(a==b):=by
 by_cases e:a=b
 .subst e;simp
 .have h:¬(Sum.inl a:Key)=Sum.inl b:=λq=>e (Sum.inl.inj q)
  rw[Qz h];exact(beq_eq_false_iff_ne.mpr e).symm
theorem LK(a b:Str):decide ((Sum.inr a:Key)=Sum.inr b)=decide (a=b):=by
 by_cases e:a=b
 .subst e;simp
 .have h:¬(Sum.inr a:Key)=Sum.inr b:=λq=>e (Sum.inr.inj q)
  rw[Qz h,Qz e]
theorem LJ(a:Int)(b:Str):decide ((Sum.inl a:Key)=Sum.inr b)=Cn:=Qz (λq=>nomatch q)
theorem LI(a:Str)(b:Int):decide ((Sum.inr a:Key)=Sum.inl b)=Cn:=Qz (λq=>nomatch q)
def W2(prog:JU)(w:World):PySem.KeyKind prog w Key where
 is:=Sg
 hash:=keyH w
 inj:=λv a b ha hb=>by
  rcases YW ha with ⟨i,t,rfl,rfl⟩|⟨x,t,rfl,rfl⟩
  .rcases YW hb with ⟨j,u,rfl,e⟩|⟨y,u,rfl,e⟩
   .injection e with e1 _;rw[e1]
   .exact nomatch e
  .rcases YW hb with ⟨j,u,rfl,e⟩|⟨y,u,rfl,e⟩
   .exact nomatch e
   .injection e with e1 _;rw[e1]
 byValue:=λk v h=>by rcases YW h with ⟨i,t,rfl,rfl⟩|⟨x,t,rfl,rfl⟩<;>rfl
 pyHash:=λhv h=>by
  rcases YW hv with ⟨i,t,rfl,rfl⟩|⟨x,t,rfl,rfl⟩
  .exact wpAny_pyHash_int h
  .exact wpAny_pyHash_str h
 eqBool:=λhu hv h=>by
  rcases YW hu with ⟨i,t,rfl,rfl⟩|⟨x,t,rfl,rfl⟩
  .rcases YW hv with ⟨j,u,rfl,rfl⟩|⟨y,u,rfl,rfl⟩
   .rw[LM]at h;exact wpAny_eqBool_int h
   .rw[LJ]at h;exact SeqAt.EqAt.int_str i t y u _ _ _ _ h
  .rcases YW hv with ⟨j,u,rfl,rfl⟩|⟨y,u,rfl,rfl⟩
   .rw[LI]at h;exact SeqAt.EqAt.str_int x t j u _ _ _ _ h
   .rw[LK]at h;exact wpAny_eqBool_str h
 «strs»:=λk x t v h=>by
  rcases YW h with ⟨i,u,rfl,e⟩|⟨y,u,rfl,e⟩
  .exact nomatch e
  .injection e with e1 _
   subst e1;cases v<;>rfl
inductive V where
 |non|bl (b:Bool)|int (i:Int)|str (x:Str)|byt (b:Array UInt8)|flt (b:UInt64)|ref (a:JV)|ty (n:String)
 deriving DecidableEq
def RelV:V->JS->Prop
 |.non,u=>u=Value.none
 |.bl b,u=>u=Value.bool b
 |.int i,u=>∃t,u=Value.int i t
 |.str x,u=>∃t,u=Value.str x t
 |.byt b,u=>∃t,u=Value.bytes b t
 |.flt b,u=>∃t,u=Value.float b t
 |.ref a,u=>u=Value.ref a
 |.ty n,u=>u=Value.type n
abbrev Vals:List V->Cq->Prop:=Paired RelV
theorem Vals.length{xs:List V}{us:Cq}(r:Vals xs us):xs.length=us.length:=Paired.length r
theorem Vals.get:∀{xs:List V}{us:Cq}{i:Nat}{x:V},Vals xs us->xs[i]?=Ci x->∃u,us[i]?=Ci u/\RelV x u
 |_,_,_,_,.nil,e=>by simp at e
 |_,_,0,_,.cons r _,e=>by simp at e;subst e;exact⟨_,rfl,r⟩
 |_,_,i+1,x,.cons _ t,e=>by obtain⟨u,h1,h2⟩:=Vals.get (i:=i) (x:=x) t (by simpa using e);exact⟨u,by simpa using h1,h2⟩
theorem Vals.set{x:V}{u:JS}(r:RelV x u):∀{xs:List V}{us:Cq}(i:Nat),Vals xs us->Vals (xs.set i x) (us.set i u)
 |_,_,_,.nil=>.nil
 |_,_,0,.cons _ t=>.cons r t
 |_,_,i+1,.cons q t=>.cons q (Vals.set r i t)
theorem Vals.append:∀{xs ys:List V}{us ws:Cq},Vals xs us->Vals ys ws->Vals (xs++ys) (us++ws)
 |_,_,_,_,.nil,s=>s
 |_,_,_,_,.cons r t,s=>.cons r (Vals.append t s)
theorem Vals.take:∀{xs:List V}{us:Cq}(n:Nat),Vals xs us->Vals (xs.take n) (us.take n)
 |_,_,0,_=>.nil
 |_,_,_+1,.nil=>.nil
 |_,_,n+1,.cons r t=>.cons r (Vals.take n t)
theorem Vals.drop:∀{xs:List V}{us:Cq}(n:Nat),Vals xs us->Vals (xs.drop n) (us.drop n)
 |_,_,0,r=>r
 |_,_,_+1,.nil=>.nil
 |_,_,n+1,.cons _ t=>Vals.drop n t
def Wz:Option V->Cw->Prop
 |some v,Ci u=>RelV v u
 |none,Ck=>True
 |_,_=>False
def KV{κ:Type}:List (κ×V)->List (κ×JS)->Prop:=Paired λ(p:κ×V) (q:κ×JS)=>p.1=q.1/\RelV p.2 q.2
def kV:Key->V
 |.inl i=>.int i
 |.inr x=>.str x
inductive HO where
  |lst (xs:List V)
  |tup (xs:List V)
  |dK (kvs:List (Key×V))|dT (kvs:List (CB×V))
  |set (S:Int->Bool) (n:Nat)
  |ins (C dx:JV) (fs:List (Str×V))
  |own (x:JV)
  |xd (fs:List (Str×V))
  |met (f x:JV)
  |rng (lo hi:Int)
  |frz (o:Obj) (u:HO)
  |tbl (ps:Array JS)
  |ext (φ:Heap->Prop)
abbrev Hp:=JV->Option HO
def upd(H:Hp)(a:JV)(o:HO):Hp:=λb=>if b=a then Ci o else H b
theorem Kk{H:Hp}{a:JV}{o:HO}:upd H a o a=Ci o:=by unfold upd;rw[Qs Cj]
theorem US{H:Hp}{a b:JV}{o:HO}(h:b≠a):upd H a o b=H b:=by unfold upd;rw[QM h]
theorem Zm{H:Hp}{a b:JV}{o:HO}(h:H a=Ci o)(h':H b=Ck):a≠b:=by intro e;subst e;rw[h]at h';cases h'
section
variable(P:JU)(w:World)
def KM(H:Hp)(h:Heap)(a:JV):HO->Prop
 |.lst xs=>xs.length<=JY/\∃(its:Cq)(n:Nat),Vals xs its/\h.get? a=Ci {cls:=.type "list", data:=.seq its.toArray n}
 |.tup xs=>xs.length<=JY/\∃its:Cq,Vals xs its/\IsTup h a its.toArray
 |.dK kvs=>kvs.length<=JY/\(a==sysModules)=Cn/\∃vs,KV kvs vs/\h.DictOf (W2 P w) a vs
 |.dT kvs=>kvs.length<=JY/\(a==sysModules)=Cn/\∃xs:List (CB×JV×JS),
   Paired (λ(p:CB×V) (q:CB×JV×JS)=>p.1=q.1/\H q.2.1=Ci (.tup (p.1.map kV))/\RelV p.2 q.2.2) kvs xs /\
   ∃o es ep,h.get? a=Ci o/\o.ExactDict/\o.data=.dict es ep/\es.toList=xs.map (entryOfKey (tupleKind (W2 P w)))/\(xs.map (·.1)).Nodup
 |.set S n=>h.SetOf (intKind P w) a S n
 |.ins C dx fs=>H dx=Ci (.own a)/\fs.length<=1000/\dx≠a/\h.get? a=Ci (PySem.W.instObj C dx) /\
   ∃mA,h.Ns1 dx mA/\(∀f,Wz (fs.lookup f) (mA f))/\PySem.Within mA (fs.map (·.1))
 |.own _=>∃o,h.get? a=Ci o
 |.xd fs=>∃mA,h.Ns1 a mA/\∀f,Wz (fs.lookup f) (mA f)
 |.rng lo hi=>∃t u v,h.get? a=Ci {cls:=.type "range", data:=.fields #[.int lo t,.int hi u,.int 1 v]}
 |.frz o u=>h.get? a=Ci o/\KM H h a u
 |.tbl ps=>h.get? a=Ci {cls:=.none,data:=.fields ps}
 |.met f x=>h.get? a=Ci (PySem.W.methodObj (.ref f) (.ref x))
 |.ext φ=>φ h/\(∃o,h.get? a=Ci o)/\∀h1 h2:Heap,φ h1->(∀o,h1.get? a=Ci o->h2.get? a=Ci o)->φ h2
def HOk(H:Hp)(h:Heap):Prop:=∀a o,H a=Ci o->KM P w H h a o
end
section
variable{P:JU}{w:World}{H H':Hp}{h h':Heap}{a:JV}{o:HO}
theorem KM.lt(x:KM P w H h a o):a<h.objs.size:=by
 cases o with
 |lst xs=>obtain⟨_,_,_,_,e⟩:=x;exact Qh e
 |tup xs=>obtain⟨_,_,_,p⟩:=x;exact p.lt
 |dK kvs=>obtain⟨_,_,_,_,o,_,_,e,_⟩:=x;exact Qh e
 |dT kvs=>obtain⟨_,_,_,_,o,_,_,e,_⟩:=x;exact Qh e
 |set S n=>obtain⟨o,_,_,_,e,_⟩:=x;exact Qh e
 |ins C dx fs=>obtain⟨_,_,_,e,_⟩:=x;exact Qh e
 |own y=>obtain⟨_,e⟩:=x;exact Qh e
 |xd fs=>obtain⟨_,⟨_,_,_,e,_⟩,_⟩:=x;exact Qh e
 |rng lo hi=>obtain⟨_,_,_,e⟩:=x;exact Qh e
 |frz ob u=>obtain⟨e,_⟩:=x;exact Qh e
 |tbl ps=>exact Qh (show h.get? a=Ci _ from x)
 |met f y=>exact Qh (show h.get? a=Ci _ from x)
 |ext φ=>obtain⟨_,⟨_,e⟩,_⟩:=x;exact Qh e
theorem Paired.mapP{α β:Type}{F G:α->β->Prop}:∀{l₁:List α}{l₂:List β},Paired F l₁ l₂->(∀a b,F a b->G a b)->Paired G l₁ l₂
 |_,_,.nil,_=>.nil
 |_,_,.cons r t,f=>.cons (f _ _ r) (Paired.mapP t f)
theorem KM.stay(x:KM P w H h a o)(k:∀b u,(b=a∨H b=Ci (.own a))->h.get? b=Ci u->h'.get? b=Ci u)
  (ho:∀b,H b=Ci (.own a)->H' b=Ci (.own a)) (ht:∀b xs,H b=Ci (.tup xs)->H' b=Ci (.tup xs)):KM P w H' h' a o:=by
 induction o with
 |lst xs=>obtain⟨z,its,n,r,e⟩:=x;exact⟨z,its,n,r,k _ _ (.inl Cj) e⟩
 |tup xs=>obtain⟨z,its,r,ob,e,c⟩:=x;exact⟨z,its,r,ob,k _ _ (.inl Cj) e,c⟩
 |dK kvs=>obtain⟨z,y,vs,r,ob,es,ep,e,c⟩:=x;exact⟨z,y,vs,r,ob,es,ep,k _ _ (.inl Cj) e,c⟩
 |dT kvs=>obtain⟨z,y,xs,r,ob,es,ep,e,c⟩:=x;exact⟨z,y,xs,Paired.mapP r λp q z=>⟨z.1,ht _ _ z.2.1,z.2.2⟩,ob,es,ep,k _ _ (.inl Cj) e,c⟩
 |set S n=>obtain⟨ob,es,ep,t,e,c⟩:=x;exact⟨ob,es,ep,t,k _ _ (.inl Cj) e,c⟩
 |ins C dx fs=>obtain⟨d,z,ne,e,mA,⟨od,es,ep,e2,c⟩,r⟩:=x;exact⟨ho _ d,z,ne,k _ _ (.inl Cj) e,mA,⟨od,es,ep,k _ _ (.inr d) e2,c⟩,r⟩
 |own y=>obtain⟨ob,e⟩:=x;exact⟨ob,k _ _ (.inl Cj) e⟩
 |xd fs=>obtain⟨mA,⟨od,es,ep,e,c⟩,r⟩:=x;exact⟨mA,⟨od,es,ep,k _ _ (.inl Cj) e,c⟩,r⟩
 |rng lo hi=>obtain⟨t,u,v,e⟩:=x;exact⟨t,u,v,k _ _ (.inl Cj) e⟩
 |frz ob u ih=>obtain⟨e,q⟩:=x;exact⟨k _ _ (.inl Cj) e,ih q⟩
 |tbl ps=>have e:h.get? a=Ci {cls:=.none,data:=.fields ps}:=x;show h'.get? a=Ci {cls:=.none,data:=.fields ps};exact k a _ (.inl Cj) e
 |met f y=>have e:h.get? a=Ci (PySem.W.methodObj (.ref f) (.ref y)):=x;show h'.get? a=Ci (PySem.W.methodObj (.ref f) (.ref y));exact k a _ (.inl Cj) e
 |ext φ=>obtain⟨p,⟨o,e⟩,st⟩:=x;exact⟨st _ _ p λo q=>k _ _ (.inl Cj) q,⟨o,k _ _ (.inl Cj) e⟩,st⟩
theorem HOk.lt(x:HOk P w H h)(e:H a=Ci o):a<h.objs.size:=(x a o e).lt
theorem HOk.fresh(x:HOk P w H h)(e:h.objs.size<=a):H a=Ck:=by
 cases q:H a with
 |none=>rfl
 |some u=>exact absurd (QD (x.lt q) e) (Q9 _)
theorem HOk.kept(x:HOk P w H h)(k:∀b u,h.get? b=Ci u->h'.get? b=Ci u):HOk P w H h':=λa o e=>
 (x a o e).stay (λb u _ q=>k b u q) (λ_ q=>q) λ_ _ q=>q
theorem HOk.laid(x:HOk P w H h)(k:∀b u,h.get? b=Ci u->h'.get? b=Ci u)(hp:h.objs.size<=a)(new:KM P w (upd H a o) h' a o):HOk P w (upd H a o) h':=λb u e=>by
 have hn:=x.fresh hp;by_cases hb:b=a
 .subst hb;rw[Kk]at e;cases e;exact new
 .rw[US hb]at e
  exact(x b u e).stay (λc v _ q=>k c v q) (λc q=>by rw[US (Zm q hn)];exact q) λc xs q=>by rw[US (Zm q hn)];exact q
end
def Rd(H:Hp)(a:JV)(u:HO):Prop:=H a=Ci u ∨ ∃o,H a=Ci (.frz o u)
theorem Rd.ok{P:JU}{w:World}{H:Hp}{h:Heap}{a:JV}{u:HO}(r:Rd H a u)(x:HOk P w H h):KM P w H h a u:=by
 rcases r with r|⟨o,r⟩
 .exact x a u r
 .obtain⟨_,q⟩:=x a _ r
  exact q
def Mut:Option HO->Prop
 |some (.lst _)=>True
 |some (.dK _)=>True
 |some (.dT _)=>True
 |some (.set _ _)=>True
 |some (.ins _ _ _)=>True
 |some (.ext _)=>True
 |_=>False
section
variable{P:JU}{w:World}{H:Hp}{h h':Heap}{x e:JV}{o':HO}
theorem HOk.write(ok:HOk P w H h)(mu:Mut (H x))(he:e=x∨H e=Ci (.own x))(k:∀b u,b≠e->h.get? b=Ci u->h'.get? b=Ci u)(BU:∃u,h'.get? e=Ci u)
  (new:KM P w (upd H x o') h' x o'):HOk P w (upd H x o') h':=λb u q=>by
 have nown:∀c y,H c=Ci (.own y)->c≠x:=λc y r z=>by subst z;rw[r]at mu;exact mu
 have ntup:∀c xs,H c=Ci (.tup xs)->c≠x:=λc xs r z=>by subst z;rw[r]at mu;exact mu
 by_cases hb:b=x
 .subst hb;rw[Kk]at q;cases q;exact new
 .rw[US hb]at q
  by_cases C7:b=e
  .have q':H b=Ci (.own x):=by
    rcases he with z|z
    .exact absurd (C7.trans z) hb
    .rw[C7];exact z
   rw[q]at q';cases q';obtain⟨v,hv⟩:=BU;exact⟨v,by rw[C7];exact hv⟩
  .refine(ok b u q).stay (λc v hc r=>k c v ?_ r) (λc r=>by rw[US (nown c b r)];exact r) λc xs r=>by rw[US (ntup c xs r)];exact r
   rcases hc with rfl|hc
   .exact C7
   .rintro rfl
    rcases he with z|z
    .exact nown c b hc z
    .rw[hc]at z;cases z;exact hb Cj
end
structure Un(fs ex:Ct)(H H':Hp)(h h':Heap):Prop where
 keep:∀b o,h.get? b=Ci o->H b=Ck->b∉fs->b∉ex->h'.get? b=Ci o
 slot:∀b o,h.get? b=Ci o->H b=Ck->b∈fs->b∉ex->∃sl,h'.get? b=Ci {o with slots:=sl}
 free:∀b o,h.get? b=Ci o->H b=Ck->b∉ex->H' b=Ck
 there:∀b o,h.get? b=Ci o->b∉ex->∃o',h'.get? b=Ci o'
 tups:∀b xs,H b=Ci (.tup xs)->H' b=Ci (.tup xs)
 frzs:∀b o u,H b=Ci (.frz o u)->H' b=Ci (.frz o u)
 tbls:∀b ps,H b=Ci (.tbl ps)->∃more,H' b=Ci (.tbl (ps++more))
section
variable{fs fs' ex ex':Ct}{H H1 H2:Hp}{h h1 h2 h':Heap}{a x e:JV}{o:HO}
theorem Un.any(u:Un fs ex H H1 h h1){b:JV}{ob:Obj}(q:h.get? b=Ci ob)(n:H b=Ck)(hx:b∉ex):∃sl,h1.get? b=Ci {ob with slots:=sl}:=by
 by_cases hb:b∈fs
 .exact u.slot b ob q n hb hx
 .exact⟨ob.slots,u.keep b ob q n hb hx⟩
theorem Un.kept(k:∀b u,h.get? b=Ci u->h'.get? b=Ci u):Un fs ex H H h h':=
 ⟨λb ob q _ _ _=>k b ob q,λb ob q _ _ _=>⟨ob.slots,k b ob q⟩,λ_ _ _ n _=>n,λb ob q _=>⟨ob,k b ob q⟩,λ_ _ q=>q,λ_ _ _ q=>q,λ_ ps q=>⟨#[],by rw[q];simp⟩⟩
theorem Un.refl:Un fs ex H H h h:=Un.kept λ_ _ q=>q
theorem Un.laid(k:∀b u,h.get? b=Ci u->h'.get? b=Ci u)(hp:h.objs.size<=a)(hn:H a=Ck):Un fs ex H (upd H a o) h h' where
 keep:=λb u q _ _ _=>k b u q
 slot:=λb u q _ _ _=>⟨u.slots,k b u q⟩
 free:=λb u q n _=>by rw[US (QE (QD (Qh q) hp))];exact n
 there:=λb u q _=>⟨u,k b u q⟩
 tups:=λb xs q=>by rw[US (Zm q hn)];exact q
 frzs:=λb u xs q=>by rw[US (Zm q hn)];exact q
 tbls:=λb ps q=>⟨#[],by rw[US (Zm q hn),q];simp⟩
theorem Un.write(mu:Mut (H x))(he:e=x∨H e=Ci (.own x))(k:∀b u,b≠e->h.get? b=Ci u->h'.get? b=Ci u)(BU:∃u,h'.get? e=Ci u):Un fs ex H (upd H x o) h h':=by
 have hx:∀b,H b=Ck->b≠x:=λb n z=>by subst z;rw[n]at mu;exact mu
 have hb:∀b,H b=Ck->b≠e:=λb n z=>by
  subst z;rcases he with r|r
  .exact hx b n r
  .rw[n]at r;cases r
 have hm:∀b u,H b=Ci u->¬Mut (Ci u)->b≠x:=λb u q nm z=>by subst z;rw[q]at mu;exact nm mu
 refine⟨λb u q n _ _=>k b u (hb b n) q,λb u q n _ _=>⟨u.slots,k b u (hb b n) q⟩,λb u q n _=>by rw[US (hx b n)];exact n,λb u q _=>?_,
  λb xs q=>by rw[US (hm b _ q λz=>z)];exact q,λb u xs q=>by rw[US (hm b _ q λz=>z)];exact q,λb ps q=>⟨#[],by rw[US (hm b _ q λz=>z),q];simp⟩⟩
 by_cases C7:b=e
 .subst C7;exact BU
 .exact⟨u,k b u C7 q⟩
end
def trk(h:Heap)(H:Hp):Ct:=(J5 h.objs.size).filter λa=>(H a).isSome
def Zj(h:Heap)(H:Hp):Heap:=PySem.W.hideAll h (trk h H)
theorem EA(h:Heap)(H:Hp):(Zj h H).objs.size=h.objs.size:=PySem.W.hideAll_size _ _
theorem FW{h:Heap}{H:Hp}{b:JV}{o:Obj}(e:h.get? b=Ci o)(n:H b=Ck):(Zj h H).get? b=Ci o:=
 PySem.W.hideAll_get _ e λhm=>by have q:(H b).isSome=Cm:=(JM.mp hm).2;rw[n]at q;simp at q
theorem Fn{h:Heap}{H:Hp}{b:JV}{o:Obj}(e:(Zj h H).get? b=Ci o):h.get? b=Ci o/\H b=Ck:=by
 have e':h.get? b=Ci o:=PySem.W.of_hideAll (trk h H) e;refine⟨e',?_⟩;cases q:H b with
 |none=>rfl
 |some x=>have hm:b∈trk h H:=List.mem_filter.mpr ⟨List.mem_range.mpr (Heap.lt_size e'),by simp[q]⟩;have z:(Zj h H).get? b=Ck:=PySem.W.hideAll_none (trk h H) hm;rw[z]at e;cases e
structure Mod(K:Frag)(mg:Str->Cw)(base:Heap):Prop where
 kin:K.In base
 glob:base.Ns mainGlobals mg
 blt:∃mb,base.Ns builtinsNs mb/\∀x:Str,x ≠ "__name__" -> mb x=bootBuiltins x
 nolimit:base.NoLimit
structure Cx where
 prog:JU
 w:World
 K:Frag
 mg:Str->Cw
 base:Heap
 A:Around
 N:List Str
 s₀:JT
 H₀:Hp
 env:Env
 outer:List Env
 stack:List Env
 ex:Ct
 fn:Str->Bool
 calm:Bool
 pn:List (JV×Obj)
 xe:JS->JT->Prop
def frs(l:List Env):Ct:=l.filterMap (·.frame)
abbrev Cx.fs(X:Cx):Ct:=frs X.outer
def Vis(sc:Scope)(x:Str):Prop:=sc.names.lookup x=Ci .local∨sc.names.lookup x=Ci .cell∨sc.names.lookup x=Ci .free
def Loc(sc:Scope)(x:Str):Prop:=sc.names.lookup x=Ci .local∨sc.names.lookup x=Ci .cell
def Look(env:Env)(h:Heap)(m:Str->Cw)(x:Str)(u:JS):Prop:=
 (env.kindOf x=Ci .local/\m x=Ci u)∨((env.kindOf x=Ci .cell∨env.kindOf x=Ci .free)/\∃c,env.cells.lookup x=Ci c/\h.IsCell c (Ci u))
structure Cx.Ok(X:Cx):Prop where
 mod:Mod X.K X.mg X.base
 kind:X.env.scope.kind=.function
 glob:X.env.globals=mainGlobals
 blt:X.env.builtins=builtinsNs
 above:X.s₀.heap.objs.size<=X.env.locals
 inj:∀x y c,X.env.cells.lookup x=Ci c->X.env.cells.lookup y=Ci c->x=y
 has:∀x,(X.env.kindOf x=Ci .cell∨X.env.kindOf x=Ci .free)->∃c,X.env.cells.lookup x=Ci c
 cab:∀x c,X.fn x=Cm->X.env.cells.lookup x=Ci c->X.s₀.heap.objs.size<=c
 hd:X.calm=Cm->X.A.handled=Ck
 frames:X.A.frames=Ci X.stack
 stk:X.stack=X.outer∨(X.stack=X.env::X.outer/\X.env.frame=Ci X.env.locals)
 exf:∀b∈X.ex,b≠X.env.locals/\∀x c,X.env.cells.lookup x=Ci c->c≠b
 bs:∀b o,X.base.get? b=Ci o->X.s₀.heap.get? b=Ci o/\X.H₀ b=Ck
 bsz:X.base.objs.size<=X.s₀.heap.objs.size
 noex:∀b o,X.base.get? b=Ci o->b∉X.ex
 exfs:∀b∈X.ex,b∉X.fs
 funs:X.s₀.heap.FunFrames X.base X.outer
 frf:∀b∈X.fs,X.H₀ b=Ck
structure Inv(X:Cx)(pins:List (JV×Obj))(σ:List (Option V))(H:Hp)(s:JT):Prop where
 ok:X.Ok
 os:s.os=X.s₀.os
 bare:AllBare s.gens
 base:Un X.fs X.ex X.H₀ H X.s₀.heap s.heap
 loc:∃m,s.heap.Ns X.env.locals m/\∀(i:Nat)(x:Str)(v:V),X.N[i]?=Ci x->σ[i]?=Ci (Ci v)->Vis X.env.scope x->∃u,RelV v u/\Look X.env s.heap m x u
 cell:∀x c,X.env.cells.lookup x=Ci c->∃v,s.heap.IsCell c v
 free:H X.env.locals=Ck
 freeC:∀x c,X.env.cells.lookup x=Ci c->H c=Ck
 pin:∀p∈X.pn++pins,s.heap.get? p.1=Ci p.2/\H p.1=Ck/\p.1≠X.env.locals/\p.1∉X.fs/\∀v,p.2.data≠.cell v
 hok:HOk X.prog X.w H s.heap
 len:σ.length=X.N.length
section
variable{X:Cx}{pins:List (JV×Obj)}{σ:List (Option V)}{H H':Hp}{s:JT}{h':Heap}
theorem Cx.Ok.nofr(ok:X.Ok){b:JV}{o:Obj}(e:X.base.get? b=Ci o):b∉X.fs:=λhb=>by have:=(ok.funs.mem hb).1;rw[e]at this;cases this
theorem Inv.bs(I:Inv X pins σ H s):∀b o,X.base.get? b=Ci o->s.heap.get? b=Ci o/\H b=Ck:=λb o e=>
 ⟨I.base.keep b o (I.ok.bs b o e).1 (I.ok.bs b o e).2 (I.ok.nofr e) (I.ok.noex b o e),I.base.free b o (I.ok.bs b o e).1 (I.ok.bs b o e).2 (I.ok.noex b o e)⟩
theorem Inv.bk(I:Inv X pins σ H s):∀b o,X.base.get? b=Ci o->s.heap.get? b=Ci o:=λb o e=>(I.bs b o e).1
theorem Inv.mod(I:Inv X pins σ H s):Mod X.K X.mg X.base:=I.ok.mod
theorem Inv.kIn(I:Inv X pins σ H s):X.K.In s.heap:=I.ok.mod.kin.keeps I.bk
theorem Inv.lt(I:Inv X pins σ H s):X.env.locals<s.heap.objs.size:=let ⟨_,hn,_⟩:=I.loc;hn.lt
theorem Inv.sz(I:Inv X pins σ H s):X.s₀.heap.objs.size<=s.heap.objs.size:=QJ I.ok.above (Nat.le_of_lt I.lt)
theorem Inv.nofs(I:Inv X pins σ H s){a:JV}(h:s.heap.objs.size<=a):a∉X.fs:=λhb=>by obtain⟨_,o,ho,_⟩:=I.ok.funs.mem hb;exact absurd (QD (Qh ho) (QJ I.sz h)) (Q9 _)
theorem Inv.cne(I:Inv X pins σ H s):∀x c,X.env.cells.lookup x=Ci c->c≠X.env.locals:=λx c e z=>by obtain⟨v,o,ho,hd⟩:=I.cell x c e;obtain⟨m,⟨o',es,ep,ho',hd',_⟩,_⟩:=I.loc;rw[z,ho']at ho;cases ho;rw[hd']at hd;cases hd
theorem Inv.funs(I:Inv X pins σ H s):s.heap.FunFrames X.base X.outer:=by
 have all:∀(l:List Env),(∀b∈frs l,b∈X.fs)->X.s₀.heap.FunFrames X.base l->s.heap.FunFrames X.base l:=by
  intro l;induction l with
  |nil=>intro _ _;trivial
  |cons env r ih=>
   intro hs hl;obtain⟨hk,⟨L,o,hf,hn,ho,hd⟩,hr⟩:=hl;have hL:L∈X.fs:=hs L (by unfold frs;rw[List.filterMap_cons,hf];exact Ql);obtain⟨sl,e⟩:=I.base.slot L o ho (I.ok.frf L hL) hL λz=>I.ok.exfs L z hL
   exact⟨hk,⟨L,_,hf,hn,e,hd⟩,ih (λb hb=>hs b (by unfold frs;rw[List.filterMap_cons,hf];exact Qo _ hb)) hr⟩
 exact all X.outer (λ_ hb=>hb) I.ok.funs
theorem Inv.stack(I:Inv X pins σ H s):s.heap.FunFrames X.base X.stack:=by
 rcases I.ok.stk with e|⟨e,hf⟩
 .rw[e];exact I.funs
 .rw[e]
  obtain⟨m,hn,_⟩:=I.loc;refine .cons (by rw[I.ok.kind];decide) hf hn ?_ I.funs;exact Heap.get?_none_of_le (QJ I.ok.bsz I.ok.above)
theorem Inv.stkSub(I:Inv X pins σ H s):∀b∈frs X.stack,b∈X.env.locals::X.fs:=λb hb=>by
 rcases I.ok.stk with e|⟨e,hf⟩
 .rw[e]at hb;exact Qo _ hb
 .rw[e]at hb
  unfold frs at hb;rw[List.filterMap_cons,hf]at hb;exact hb
theorem Inv.stkFree(I:Inv X pins σ H s):∀b∈frs X.stack,H b=Ck:=λb hb=>by
 rcases Qu.mp (I.stkSub b hb)with e|hb
 .rw[e];exact I.free
 .obtain⟨_,o,ho,_⟩:=I.ok.funs.mem hb
  exact I.base.free b o ho (I.ok.frf b hb) λz=>I.ok.exfs b z hb
theorem Inv.step{g':Array GenState}{t':Nat}{d':Drawn}{ch:Ct}(I:Inv X pins σ H s)
  (hch:∀b∈ch,(b∈X.ex∨X.s₀.heap.objs.size<=b)/\b≠X.env.locals/\(∀x c,X.env.cells.lookup x=Ci c->c≠b)/\∀p∈X.pn++pins,p.1≠b)
  (keep:∀b o,b≠X.env.locals->b∉X.fs->b∉ch->s.heap.get? b=Ci o->H b=Ck->h'.get? b=Ci o)
  (slot:∀b o,b≠X.env.locals->b∈X.fs->b∉ch->s.heap.get? b=Ci o->H b=Ck->∃sl,h'.get? b=Ci {o with slots:=sl}) (free:∀b o,b∉ch->s.heap.get? b=Ci o->H b=Ck->H' b=Ck)
  (there:∀b o,b∉ch->s.heap.get? b=Ci o->∃o',h'.get? b=Ci o')
  (tups:∀b xs,H b=Ci (.tup xs)->H' b=Ci (.tup xs)) (frzs:∀b o u,H b=Ci (.frz o u)->H' b=Ci (.frz o u)) (tbls:∀b ps,H b=Ci (.tbl ps)->∃more,H' b=Ci (.tbl (ps++more)))
  (ns:∀m,s.heap.Ns X.env.locals m->h'.Ns X.env.locals m) (hok:HOk X.prog X.w H' h') (hg:AllBare g') :
  Inv X pins σ H' {s with heap:=h',gens:=g',drawn:=d',toks:=t'}:=by
 have neL:∀b o,X.s₀.heap.get? b=Ci o->b≠X.env.locals:=λb o e=>QE (QD (Qh e) I.ok.above)
 have neC:∀b o,X.s₀.heap.get? b=Ci o->b∉X.ex->b∉ch:=λb o e hx hb=>by
  rcases(hch b hb).1 with z|z
  .exact hx z
  .exact absurd (QD (Qh e) z) (Q9 _)
 have cellK:∀x c,X.env.cells.lookup x=Ci c->∀v,s.heap.IsCell c v->h'.IsCell c v:=λx c e v ⟨o,ho,hd⟩=>by
  have nch:c∉ch:=λz=>(hch c z).2.2.1 x c e Cj
  by_cases hc:c∈X.fs
  .obtain⟨sl,q⟩:=slot c o (I.cne x c e) hc nch ho (I.freeC x c e)
   exact⟨_,q,hd⟩
  .exact⟨o,keep c o (I.cne x c e) hc nch ho (I.freeC x c e),hd⟩
 refine⟨I.ok,I.os,hg,⟨λb o e n hb hx=>?_,λb o e n hb hx=>?_,λb o e n hx=>?_,λb o e hx=>?_,λb xs e=>tups b xs (I.base.tups b xs e),λb o xs e=>frzs b o xs (I.base.frzs b o xs e),λb ps e=>?_⟩,?_,λx c e=>?_,?_,λx c e=>?_,λp hp=>?_,hok,I.len⟩
 .exact keep b o (neL b o e) hb (neC b o e hx) (I.base.keep b o e n hb hx) (I.base.free b o e n hx)
 .obtain⟨sl,e1⟩:=I.base.slot b o e n hb hx
  obtain⟨C4,e2⟩:=slot b _ (neL b o e) hb (neC b o e hx) e1 (I.base.free b o e n hx);exact⟨C4,e2⟩
 .obtain⟨o',e1⟩:=I.base.there b o e hx
  exact free b o' (neC b o e hx) e1 (I.base.free b o e n hx)
 .obtain⟨o',e1⟩:=I.base.there b o e hx
  exact there b o' (neC b o e hx) e1
 .obtain⟨m1,e1⟩:=I.base.tbls b ps e
  obtain⟨m2,e2⟩:=tbls b _ e1;exact⟨m1++m2,by rw[e2,Array.append_assoc]⟩
 .obtain⟨m,hn,hl⟩:=I.loc
  refine⟨m,ns m hn,λi x v e1 e2 e3=>?_⟩;obtain⟨u,r,l⟩:=hl i x v e1 e2 e3;refine⟨u,r,?_⟩;rcases l with l|⟨k,c,e,z⟩
  .exact .inl l
  .exact .inr ⟨k,c,e,cellK x c e _ z⟩
 .obtain⟨v,z⟩:=I.cell x c e
  exact⟨v,cellK x c e v z⟩
 .obtain⟨m,⟨o,_,_,ho,_⟩,_⟩:=I.loc
  exact free _ o (λz=>(hch _ z).2.1 Cj) ho I.free
 .obtain⟨v,o,ho,hd⟩:=I.cell x c e
  exact free c o (λz=>(hch c z).2.2.1 x c e Cj) ho (I.freeC x c e)
 .obtain⟨e,n,ne,nf,d⟩:=I.pin p hp
  have nch:p.1∉ch:=λz=>(hch p.1 z).2.2.2 p hp Cj
  exact⟨keep p.1 p.2 ne nf nch e n,free p.1 p.2 nch e n,ne,nf,d⟩
theorem Inv.un{t':Nat}(I:Inv X pins σ H s)(u:Un X.fs [] H H' s.heap h')(hok:HOk X.prog X.w H' h'):Inv X pins σ H' {s with heap:=h',toks:=t'}:=by obtain⟨m,⟨o,es,ep,ho,r⟩,_⟩:=id I.loc;obtain⟨sl,hL⟩:=u.any ho I.free (by simp);exact I.step (g':=s.gens) (d':=s.drawn) (ch:=[]) (λ_ z=>nomatch z) (λb o _ hb _ e n=>u.keep b o e n hb (by simp)) (λb o _ hb _ e n=>u.slot b o e n hb (by simp)) (λb o _ e n=>u.free b o e n (by simp)) (λb o _ e=>u.there b o e (by simp)) u.tups u.frzs u.tbls (λm' hm=>by obtain⟨o',es',ep',ho',r'⟩:=hm;rw[ho]at ho';cases ho';exact⟨_,es',ep',hL,r'⟩) hok I.bare
theorem Inv.call{g':Array GenState}{t':Nat}{d':Drawn}{ch:Ct}(I:Inv X pins σ H s)(u:Un (frs X.stack) ch H H' s.heap h')(hok:HOk X.prog X.w H' h')(hg:AllBare g')
  (hch:∀b∈ch,(b∈X.ex∨X.s₀.heap.objs.size<=b)/\b≠X.env.locals/\(∀x c,X.env.cells.lookup x=Ci c->c≠b)/\∀p∈X.pn++pins,p.1≠b) :
  Inv X pins σ H' {s with heap:=h',gens:=g',drawn:=d',toks:=t'}:=by
 obtain⟨m,⟨o,es,ep,ho,r⟩,_⟩:=id I.loc;obtain⟨sl,hL⟩:=u.any ho I.free λz=>(hch _ z).2.1 Cj
 exact I.step (ch:=ch) hch (λb o hL hb hc e n=>u.keep b o e n (λz=>(Qu.mp (I.stkSub b z)).elim hL hb) hc) (λb o _ _ hc e n=>u.any e n hc) (λb o hc e n=>u.free b o e n hc) (λb o hc e=>u.there b o e hc) u.tups u.frzs u.tbls (λm' hm=>by obtain⟨o',es',ep',ho',r'⟩:=hm;rw[ho]at ho';cases ho';exact⟨_,es',ep',hL,r'⟩) hok hg
theorem Inv.turned{t':Nat}{it:JV}(I:Inv X pins σ H s)(k:∀b o,b≠it->s.heap.get? b=Ci o->h'.get? b=Ci o)(hn:H it=Ck)(hL:it≠X.env.locals)
  (h1:it∈X.ex∨X.s₀.heap.objs.size<=it) (h2:∀x c,X.env.cells.lookup x=Ci c->c≠it) (h3:∀p∈X.pn++pins,p.1≠it):Inv X pins σ H {s with heap:=h',toks:=t'}:=by
 have nit:∀b u,H b=Ci u->b≠it:=λb u e z=>by rw[z,hn]at e;cases e
 refine I.step (g':=s.gens) (d':=s.drawn) (ch:=[it]) (λb hb=>?_) (λb o _ _ hc e _=>k b o (λz=>hc (by simp[z])) e) (λb o _ _ hc e _=>⟨o.slots,k b o (λz=>hc (by simp[z])) e⟩) (λ_ _ _ _ n=>n)
  (λb o hc e=>⟨o,k b o (λz=>hc (by simp[z])) e⟩) (λ_ _ e=>e) (λ_ _ _ e=>e) (λb ps e=>⟨#[],by rw[e];simp⟩) (λm hm=>?_) (λb u e=>?_) I.bare
 .have e:b=it:=by simpa using hb
  subst e;exact⟨h1,hL,h2,h3⟩
 .obtain⟨o,es,ep,ho,r⟩:=hm
  exact⟨o,es,ep,k _ o (Ne.symm hL) ho,r⟩
 .refine(I.hok b u e).stay (λc v hc q=>k c v ?_ q) (λ_ q=>q) λ_ _ q=>q
  rcases hc with z|z
  .rw[z];exact nit b u e
  .exact nit c _ z
theorem Inv.tok(I:Inv X pins σ H s)(t:Nat):Inv X pins σ H {s with toks:=t}:=I.un (h':=s.heap) (t':=t) Un.refl I.hok
theorem Inv.kept{t':Nat}(I:Inv X pins σ H s)(k:∀b u,s.heap.get? b=Ci u->h'.get? b=Ci u):Inv X pins σ H {s with heap:=h',toks:=t'}:=I.un (Un.kept k) (I.hok.kept k)
theorem Inv.laid{a:JV}{o:HO}{t':Nat}(I:Inv X pins σ H s)(k:∀b u,s.heap.get? b=Ci u->h'.get? b=Ci u)(hp:s.heap.objs.size<=a)(new:KM X.prog X.w (upd H a o) h' a o) :
  Inv X pins σ (upd H a o) {s with heap:=h',toks:=t'}:=I.un (Un.laid k hp (I.hok.fresh hp)) (I.hok.laid k hp new)
theorem Inv.write{x e:JV}{o:HO}{t':Nat}(I:Inv X pins σ H s)(mu:Mut (H x))(he:e=x∨H e=Ci (.own x))(k:∀b u,b≠e->s.heap.get? b=Ci u->h'.get? b=Ci u)(BU:∃u,h'.get? e=Ci u)
  (new:KM X.prog X.w (upd H x o) h' x o):Inv X pins σ (upd H x o) {s with heap:=h',toks:=t'}:=I.un (Un.write mu he k BU) (I.hok.write mu he k BU new)
theorem Inv.pins_of{pins':List (JV×Obj)}(I:Inv X pins σ H s)(h:∀p∈pins',s.heap.get? p.1=Ci p.2/\H p.1=Ck/\p.1≠X.env.locals/\p.1∉X.fs/\∀v,p.2.data≠.cell v):Inv X pins' σ H s:=
 ⟨I.ok,I.os,I.bare,I.base,I.loc,I.cell,I.free,I.freeC,λp hp=>(QC.mp hp).elim (λz=>I.pin p (Q2 _ z)) (h p),I.hok,I.len⟩
theorem OV{N:List Str}(hN:N.Nodup){i j:Nat}{x:Str}(a:N[i]?=Ci x)(b:N[j]?=Ci x):i=j:=by obtain⟨h1,e1⟩:=Qm.mp a;obtain⟨h2,e2⟩:=Qm.mp b;exact(List.getElem_inj hN).mp (e1.trans e2.symm)
theorem RD{M:Model}{A:Around}{E:JS->JT->Prop}{i:Nat}{x:Str}{v:V}{u:JS}{Q:Unit->JT->Prop}(I:Inv X pins σ H s)(hN:X.N.Nodup)(hi:X.N[i]?=Ci x)(hx:Loc X.env.scope x)(r:RelV v u)
  (h:∀s',Inv X pins (σ.set i (Ci v)) H s'->(∃a,Heap.SameBut a s.heap s'.heap/\(a=X.env.locals∨X.env.cells.lookup x=Ci a))->Q () s') (hf:X.fn x=Cm∨X.env.scope.names.lookup x=Ci .local:=by first|exact .inl rfl|exact .inr rfl|assumption):JZ M A (storeName X.env x u) Q E s:=by
 obtain⟨m,hn,hl⟩:=id I.loc;have hcls:(X.env.scope.kind==.class || (X.env.scope.kind==.module&&X.env.locals != X.env.globals))=Cn:=by rw[I.ok.kind];rfl
 have hiσ:i<σ.length:=by rw[I.len];exact(Qm.mp hi).1
 have cne:=I.cne
 have tracked:∀{a:JV}{h':Heap},(∃o,s.heap.get? a=Ci o/\H a=Ck)->Heap.SameBut a s.heap h'->HOk X.prog X.w H h':=λ{a h'} ha hs b ob e=>by
  obtain⟨_,_,hfree⟩:=ha;refine(I.hok b ob e).stay (λc w' hc q=>(hs.2 c ?_).trans q) (λ_ q=>q) λ_ _ q=>q
  rintro rfl;rcases hc with rfl|hc
  .rw[hfree]at e;cases e
  .rw[hfree]at hc;cases hc
 rcases hx with hk|hk
 .refine wpAny_storeName_local hk hn (λh' hn' hs=>?_) hcls
  obtain⟨oL,_,_,hoL,_⟩:=id hn;refine h _ ⟨I.ok,I.os,I.bare,⟨λb o e n hb hx=>?_,λb o e n hb hx=>?_,I.base.free,λb o e hx=>?_,I.base.tups,I.base.frzs,I.base.tbls⟩,⟨_,hn',λj y v' e1 e2 e3=>?_⟩,λy c e=>?_,I.free,I.freeC,λp hp=>?_,tracked ⟨oL,hoL,I.free⟩ hs,by simpa using I.len⟩ ⟨_,hs,.inl Cj⟩
  .exact(hs.2 b (QE (QD (Qh e) I.ok.above))).trans (I.base.keep b o e n hb hx)
  .obtain⟨sl,e1⟩:=I.base.slot b o e n hb hx
   exact⟨sl,(hs.2 b (QE (QD (Qh e) I.ok.above))).trans e1⟩
  .obtain⟨o',e1⟩:=I.base.there b o e hx
   exact⟨o',(hs.2 b (QE (QD (Qh e) I.ok.above))).trans e1⟩
  .by_cases hj:j=i
   .subst hj
    rw[hi]at e1;cases e1;rw[QL hiσ]at e2;cases e2;exact⟨u,r,.inl ⟨hk,by simp⟩⟩
   .rw[Qk (Ne.symm hj)]at e2
    obtain⟨u',r',q⟩:=hl j y v' e1 e2 e3;refine⟨u',r',?_⟩;rcases q with ⟨k,e⟩|⟨k,c,e,z⟩
    .refine .inl ⟨k,?_⟩
     have:y≠x:=λe=>hj (OV hN e1 (e ▸ hi))
     simp[this,e]
    .exact .inr ⟨k,c,e,z.sameBut hs (cne y c e)⟩
  .obtain⟨w',z⟩:=I.cell y c e
   exact⟨w',z.sameBut hs (cne y c e)⟩
  .obtain⟨e,n,ne,nf,d⟩:=I.pin p hp
   exact⟨(hs.2 p.1 ne).trans e,n,ne,nf,d⟩
 .have hfn:X.fn x=Cm:=by
   rcases hf with z|z
   .exact z
   .rw[z]at hk;cases hk
  obtain⟨c,hc⟩:=I.ok.has x (.inl hk);obtain⟨w',z⟩:=I.cell x c hc;refine wpAny_storeName_cell I.ok.kind hk hc z (λh' hc' hs=>?_);obtain⟨oc,hoc,hocd⟩:=id z;refine h {s with heap:=h'} ⟨I.ok,I.os,I.bare,⟨λb o e n hb hx=>?_,λb o e n hb hx=>?_,I.base.free,λb o e hx=>?_,I.base.tups,I.base.frzs,I.base.tbls⟩,⟨m,hn.sameBut hs (Ne.symm (cne x c hc)),λj y v' e1 e2 e3=>?_⟩,λy c' e=>?_,I.free,I.freeC,λp hp=>?_,tracked ⟨oc,hoc,I.freeC x c hc⟩ hs,by simpa using I.len⟩ ⟨c,hs,.inr hc⟩
  .exact(hs.2 b (QE (QD (Qh e) (I.ok.cab x c hfn hc)))).trans (I.base.keep b o e n hb hx)
  .obtain⟨sl,e1⟩:=I.base.slot b o e n hb hx
   exact⟨sl,(hs.2 b (QE (QD (Qh e) (I.ok.cab x c hfn hc)))).trans e1⟩
  .obtain⟨o',e1⟩:=I.base.there b o e hx
   exact⟨o',(hs.2 b (QE (QD (Qh e) (I.ok.cab x c hfn hc)))).trans e1⟩
  .by_cases hj:j=i
   .subst hj
    rw[hi]at e1;cases e1;rw[QL hiσ]at e2;cases e2;exact⟨u,r,.inr ⟨.inl hk,c,hc,hc'⟩⟩
   .rw[Qk (Ne.symm hj)]at e2
    obtain⟨u',r',q⟩:=hl j y v' e1 e2 e3;refine⟨u',r',?_⟩;rcases q with q|⟨k,c',e,z'⟩
    .exact .inl q
    .refine .inr ⟨k,c',e,z'.sameBut hs ?_⟩
     rintro rfl;exact hj (OV hN e1 (I.ok.inj _ _ _ e hc ▸ hi))
  .by_cases hcc:c'=c
   .subst hcc;exact⟨_,hc'⟩
   .obtain⟨w2,z2⟩:=I.cell y c' e
    exact⟨w2,z2.sameBut hs hcc⟩
  .obtain⟨e,n,ne,nf,d⟩:=I.pin p hp
   refine⟨(hs.2 p.1 ?_).trans e,n,ne,nf,d⟩;intro q;rw[q,hoc]at e;have q':oc=p.2:=QA e;exact d w' (by rw[←q'];exact hocd)
theorem OU{M:Model}{A:Around}{E:JS->JT->Prop}{i:Nat}{x:Str}{v:V}{u:JS}{Q:Unit->JT->Prop}(I:Inv X pins σ H s)(hN:X.N.Nodup)(hi:X.N[i]?=Ci x)(hx:Loc X.env.scope x)(r:RelV v u)
  (h:∀s',Inv X pins (σ.set i (Ci v)) H s'->Q () s') (hf:X.fn x=Cm∨X.env.scope.names.lookup x=Ci .local:=by first|exact .inl rfl|exact .inr rfl|assumption):JZ M A (storeName X.env x u) Q E s:=
 RD I hN hi hx r (λs' I' _=>h s' I') hf
theorem Inv.call'{s':JT}{ch:Ct}(I:Inv X pins σ H s)(ho:s'.os=s.os)(u:Un (frs X.stack) ch H H' s.heap s'.heap)(hok:HOk X.prog X.w H' s'.heap)(hg:AllBare s'.gens)
  (hch:∀b∈ch,(b∈X.ex∨X.s₀.heap.objs.size<=b)/\b≠X.env.locals/\(∀x c,X.env.cells.lookup x=Ci c->c≠b)/\∀p∈X.pn++pins,p.1≠b):Inv X pins σ H' s':=by
 obtain⟨h',g',d',t',o'⟩:=s';have e:o'=s.os:=ho;subst e;exact I.call (g':=g') (t':=t') (d':=d') u hok hg hch
end
abbrev XK:=JS->CA->Hp->Prop
abbrev St:=List (Option V)
abbrev VK:=V->Hp->Prop
abbrev TE:=St->Hp->VK->Prop
abbrev TT:=St->Hp->(Bool->Hp->Prop)->Prop
abbrev TA:=St->Hp->(List V->Hp->Prop)->Prop
structure Ends where
 nx:St->Hp->Prop
 rt:VK
 bk:St->Hp->Prop:=λ_ _=>False
 ct:St->Hp->Prop:=λ_ _=>False
abbrev TS:=Ends->St->Hp->Prop
def EP(X:Cx)(pins:List (JV×Obj))(σ:St)(Q:VK)(u:JS)(s':JT):Prop:=∃v H',Inv X pins σ H' s'/\RelV v u/\Q v H'
def TP(X:Cx)(pins:List (JV×Obj))(σ:St)(Q:Bool->Hp->Prop)(b:Bool)(s':JT):Prop:=∃H',Inv X pins σ H' s'/\Q b H'
def AP(X:Cx)(pins:List (JV×Obj))(σ:St)(Q:List V->Hp->Prop)(us:Cq)(s':JT):Prop:=∃vs H',Inv X pins σ H' s'/\Vals vs us/\Q vs H'
def SP(X:Cx)(pins:List (JV×Obj))(D:Ends)(f:Flow)(s':JT):Prop:=
 match f with
 |.next=>∃σ' H',Inv X pins σ' H' s'/\D.nx σ' H'
 |.brk=>∃σ' H',Inv X pins σ' H' s'/\D.bk σ' H'
 |.cont=>∃σ' H',Inv X pins σ' H' s'/\D.ct σ' H'
 |.ret u=>∃v σ' H',Inv X pins σ' H' s'/\RelV v u/\D.rt v H'
def PE(X:Cx)(e:JX)(t:TE):Prop:=
 ∀(pins:List (JV×Obj))(s:JT)(σ:St)(H:Hp)(Q:VK),Inv X pins σ H s->t σ H Q->JZ (model X.prog X.w) X.A (eval e X.env) (EP X pins σ Q) X.xe s
def PT(X:Cx)(e:JX)(t:TT):Prop:=
 ∀(pins:List (JV×Obj))(s:JT)(σ:St)(H:Hp)(Q:Bool->Hp->Prop),Inv X pins σ H s->t σ H Q->JZ (model X.prog X.w) X.A (isTrue e X.env (eval e X.env)) (TP X pins σ Q) X.xe s
def PW(X:Cx)(e:JX)(t:TT):Prop:=
 ∀(whole:Sem JS)(pins:List (JV×Obj))(s:JT)(σ:St)(H:Hp)(Q:Bool->Hp->Prop),Inv X pins σ H s->t σ H Q->JZ (model X.prog X.w) X.A (isTrue e X.env whole) (TP X pins σ Q) X.xe s
theorem PW.pt{X:Cx}{e:JX}{t:TT}(h:PW X e t):PT X e t:=h _
def PA(X:Cx)(es:Cr)(t:TA):Prop:=
 ∀(pos:Pos)(pins:List (JV×Obj))(s:JT)(σ:St)(H:Hp)(Q:List V->Hp->Prop),Inv X pins σ H s->t σ H Q->JZ (model X.prog X.w) X.A (spliced (backTo pos (J0 es X.env))) (AP X pins σ Q) X.xe s
def PS(X:Cx)(st:Stmt)(t:TS):Prop:=
 ∀(pins:List (JV×Obj))(s:JT)(σ:St)(H:Hp)(D:Ends),Inv X pins σ H s->t D σ H->JZ (model X.prog X.w) X.A (exec st X.env) (SP X pins D) X.xe s
def PSs(X:Cx)(st:List Stmt)(t:TS):Prop:=
 ∀(pins:List (JV×Obj))(s:JT)(σ:St)(H:Hp)(D:Ends),Inv X pins σ H s->t D σ H->JZ (model X.prog X.w) X.A (execs st X.env) (SP X pins D) X.xe s
theorem thn{α:Type}{t:Sem α}{Q Q':α->JT->Prop}{M:Model}{A:Around}{E:JS->JT->Prop}{s:JT}(h:JZ M A t Q E s)(hQ:∀a s,Q a s->Q' a s):JZ M A t Q' E s:=Qv h hQ λ_ _ x=>x
section
variable{X:Cx}
def U7(i:Nat):TE:=λσ H Q=>∃v,σ[i]?=Ci (Ci v)/\Q v H
def tC(v:V):TE:=λ_ H Q=>Q v H
theorem Pq{i:Nat}{x:Str}{pos:Pos}(hN:X.N[i]?=Ci x)(hv:Vis X.env.scope x)(hd:(x==("__debug__" : Str))=Cn:=by decide)(hcd:(x==("__classdict__" : Str))=Cn:=by decide):PE X (.Name x pos) (U7 i):=by
 intro pins s σ H Q I h;obtain⟨v,e,h⟩:=h;obtain⟨m,hn,hl⟩:=I.loc;obtain⟨u,r,l⟩:=hl i x v hN e hv;have fin:EP X pins σ Q u s:=⟨v,H,I,r,h⟩;rcases l with ⟨hk,hm⟩|⟨hk,c,hc,hcell⟩
 .exact wpAny_Name (wpAny_loadName_local I.ok.kind hk hn hm fin) hd
 .rcases hk with hk|hk
  .exact wpAny_Name (wpAny_loadName_cell I.ok.kind hk hc hcell fin) hd
  .exact wpAny_Name (wpAny_loadName_free I.ok.kind hk hc hcell fin hcd) hd
theorem Tb{i j pos}:PE X (.Constant (.int i) j pos) (tC (.int i)):=λ_ _ _ H _ I h=>wpAny_Constant_int ⟨.int i,H,I.tok _,⟨_,rfl⟩,h⟩
theorem Lc{b j pos}:PE X (.Constant (.bool b) j pos) (tC (.bl b)):=λ_ _ _ H _ I h=>Constant_bool ⟨.bl b,H,I,rfl,h⟩
theorem LH{j pos}:PE X (.Constant .none j pos) (tC .non):=λ_ _ _ H _ I h=>Constant_none ⟨.non,H,I,rfl,h⟩
theorem LG{x j pos}:PE X (.Constant (.str x) j pos) (tC (.str x)):=λ_ _ _ H _ I h=>Calls.Constant_str ⟨.str x,H,I.tok _,⟨_,rfl⟩,h⟩
def Gl(X:Cx)(x:Str):Prop:=X.env.kindOf x=Ci .globalImplicit
theorem Ol{E:JS->JT->Prop}{pins:List (JV×Obj)}{s:JT}{σ:St}{H:Hp}{x:Str}{u:JS}{pos:Pos}{Q:JS->JT->Prop}(I:Inv X pins σ H s)(hg:Gl X x)(hm:X.mg x=Ci u)(h:Q u s)
  (hd:(x==("__debug__" : Str))=Cn:=by decide):JZ (model X.prog X.w) X.A (eval (.Name x pos) X.env) Q E s:=
 Calls.Name_function_global I.ok.kind hg (Calls.loadGlobal_global (by rw[I.ok.glob];exact I.mod.glob.keeps I.bk) hm h) hd
theorem X0{E:JS->JT->Prop}{pins:List (JV×Obj)}{s:JT}{σ:St}{H:Hp}{x:Str}{u:JS}{pos:Pos}{Q:JS->JT->Prop}(I:Inv X pins σ H s)(hg:Gl X x)(hm:X.mg x=Ck)(hv:bootBuiltins x=Ci u)(h:Q u s)
  (hn:x ≠ "__name__" :=by decide) (hd:(x==("__debug__" : Str))=Cn:=by decide):JZ (model X.prog X.w) X.A (eval (.Name x pos) X.env) Q E s:=by
 obtain⟨mb,h1,h2⟩:=I.mod.blt;exact Calls.Name_function_global I.ok.kind hg (Calls.loadGlobal_builtin (by rw[I.ok.glob];exact I.mod.glob.keeps I.bk) hm (by rw[I.ok.blt];exact h1.keeps I.bk) ((h2 x hn).trans hv) h) hd
theorem Fm{x:Str}{v:V}{u:JS}{pos:Pos}(hg:Gl X x)(hm:X.mg x=Ci u)(r:RelV v u)(hd:(x==("__debug__" : Str))=Cn:=by decide):PE X (.Name x pos) (tC v):=
 λ_ _ _ H _ I h=>Ol I hg hm ⟨v,H,I,r,h⟩ hd
theorem Fl{x:Str}{v:V}{u:JS}{pos:Pos}(hg:Gl X x)(hm:X.mg x=Ck)(hv:bootBuiltins x=Ci u)(r:RelV v u)(hn:x ≠ "__name__" :=by decide)(hd:(x==("__debug__" : Str))=Cn:=by decide):PE X (.Name x pos) (tC v):=
 λ_ _ _ H _ I h=>X0 I hg hm hv ⟨v,H,I,r,h⟩ hn hd
variable{a b:JX}{ta tb:TE}{pos:Pos}
def PC(X:Cx)(op:CmpOp)(a b:JX)(t:TE):Prop:=
 ∀(pins:List (JV×Obj))(s:JT)(σ:St)(H:Hp)(Q:VK),Inv X pins σ H s->t σ H Q ->
  JZ (model X.prog X.w) X.A (eval a X.env) (λv s₁=>JZ (model X.prog X.w) X.A (eval b X.env) (λu s₂=>JZ (model X.prog X.w) X.A (J4 op v u) (EP X pins σ Q) X.xe s₂) X.xe s₁) X.xe s
theorem OT(b:JX){op:CmpOp}(h:op≠.In)(h2:op≠.NotIn):behindInMarks op b=Cn:=by
 have e1:(op==CmpOp.In)=Cn:=by cases op<;>first|rfl|exact absurd Cj h
 have e2:(op==CmpOp.NotIn)=Cn:=by cases op<;>first|rfl|exact absurd Cj h2
 cases b<;>simp[behindInMarks,e1,e2]
def tIsN(ta:TE):TE:=λσ H Q=>ta σ H λx H1=>Q (.bl (decide (x=.non))) H1
def Lb(ta:TE):TE:=λσ H Q=>ta σ H λx H1=>Q (.bl (!decide (x=.non))) H1
theorem RelV.none_iff{x:V}{v:JS}(r:RelV x v):(v==Value.none)=decide (x=.non):=by
 cases x with
 |non=>cases r;rfl
 |bl _=>cases r;rfl
 |int _=>obtain⟨t,rfl⟩:=r;rfl
 |str _=>obtain⟨t,rfl⟩:=r;rfl
 |byt _=>obtain⟨t,rfl⟩:=r;rfl
 |flt _=>obtain⟨t,rfl⟩:=r;rfl
 |ref _=>cases r;rfl
 |ty _=>cases r;rfl
theorem Pp{j pos'}(ha:PE X a ta):PC X .Is a (.Constant .none j pos') (tIsN ta):=by intro pins s σ H Q I h;refine thn (ha pins s σ H _ I h) λv s1 ⟨x,H1,I1,r1,q1⟩=>?_;exact Constant_none (is_none_gen ⟨.bl _,H1,I1,by rw[r1.none_iff];rfl,q1⟩)
theorem Oj{j pos'}(ha:PE X a ta):PC X .IsNot a (.Constant .none j pos') (Lb ta):=by intro pins s σ H Q I h;refine thn (ha pins s σ H _ I h) λv s1 ⟨x,H1,I1,r1,q1⟩=>?_;exact Constant_none (isnot_none_gen ⟨.bl _,H1,I1,by rw[r1.none_iff];rfl,q1⟩)
def tB(t:TE):TT:=λσ H Q=>t σ H λx H1=>∃c,x=.bl c/\Q c H1
theorem Po{op:CmpOp}{t:TE}(h:PC X op a b t)(h1:behindInMarks op b=Cn:=by first|exact OT _ (by decide) (by decide)|rfl):PE X (.Compare a [op] [b] pos) t:=λpins s σ H Q I hw=>wpAny_Compare1 (h pins s σ H Q I hw) h1
theorem Pn{op:CmpOp}{t:TE}(h:PC X op a b t)(h1:behindInMarks op b=Cn:=by first|exact OT _ (by decide) (by decide)|rfl):PT X (.Compare a [op] [b] pos) (tB t):=by intro pins s σ H Q I hw;refine wpAny_isTrue_Compare1 (thn (h pins s σ H _ I hw) λv s1 h1=>thn h1 λu s2 h2=>thn h2 λc s3 ⟨x,H1,I1,r1,q1⟩=>?_) h1;obtain⟨d,rfl,q⟩:=q1;cases r1;exact QW ⟨H1,I1,q⟩
theorem LF{e:JX}{t:TE}(h:PE X e t)(he:∀whole,isTrue e X.env whole=(do let v ←whole;standAt e.pos;holding [v] (truthy v)):=by intro _;rfl):PT X e (tB t):=by intro pins s σ H Q I hw;refine isTrue_plain (thn (h pins s σ H _ I hw) λv s1 ⟨x,H1,I1,r1,q1⟩=>?_) (he _);obtain⟨d,rfl,q⟩:=q1;cases r1;exact QW ⟨H1,I1,q⟩
variable{tA tB':TT}{rest:Cr}
def tAnd(t u:TT):TT:=λσ H Q=>t σ H λc H1=>if c=Cm then u σ H1 Q else Q Cn H1
def tOr(t u:TT):TT:=λσ H Q=>t σ H λc H1=>if c=Cm then Q Cm H1 else u σ H1 Q
def tNot(t:TT):TT:=λσ H Q=>t σ H λc H1=>Q (!c) H1
theorem Fk(ha:PT X a tA):PW X (.BoolOp .And [a] pos) tA:=by
 intro wh pins s σ H Q I h;refine isTrue_and (thn (ha pins s σ H Q I h) λc s1 e=>?_);cases c with
 |true=>exact isTrue_and_nil e
 |false=>exact e
theorem LD(ha:PT X a tA):PW X (.BoolOp .Or [a] pos) tA:=by
 intro wh pins s σ H Q I h;refine isTrue_or (thn (ha pins s σ H Q I h) λc s1 e=>?_);cases c with
 |false=>exact isTrue_or_nil e
 |true=>exact e
theorem LC(ha:PT X a tA)(hb:PW X (.BoolOp .And (b::rest) pos) tB'):PW X (.BoolOp .And (a::b::rest) pos) (tAnd tA tB'):=by
 intro wh pins s σ H Q I h;refine isTrue_and (thn (ha pins s σ H _ I h) λc s1 ⟨H1,I1,q1⟩=>?_);cases c with
 |true=>exact hb wh pins s1 σ H1 Q I1 q1
 |false=>exact⟨H1,I1,q1⟩
theorem La(ha:PT X a tA)(hb:PW X (.BoolOp .Or (b::rest) pos) tB'):PW X (.BoolOp .Or (a::b::rest) pos) (tOr tA tB'):=by
 intro wh pins s σ H Q I h;refine isTrue_or (thn (ha pins s σ H _ I h) λc s1 ⟨H1,I1,q1⟩=>?_);cases c with
 |true=>exact⟨H1,I1,q1⟩
 |false=>exact hb wh pins s1 σ H1 Q I1 q1
theorem LB(ha:PT X a tA):PT X (.UnaryOp .Not a pos) (tNot tA):=by intro pins s σ H Q I h;exact isTrue_not (ha pins s σ H (λc H1=>Q (!c) H1) I h)
def M9(ta tb:TE):TE:=λσ H Q=>ta σ H λx H1=>∃c,x=.bl c/\if c=Cm then tb σ H1 Q else Q (.bl Cn) H1
def tOrV(ta tb:TE):TE:=λσ H Q=>ta σ H λx H1=>∃c,x=.bl c/\if c=Cm then Q (.bl Cm) H1 else tb σ H1 Q
def M8(ta:TE):TE:=λσ H Q=>ta σ H λx H1=>∃c,x=.bl c/\Q (.bl (!c)) H1
theorem LA{op}{t:TE}(h:PE X a t):PE X (.BoolOp op [a] pos) t:=λpins s σ H Q I hw=>BoolOp_one (h pins s σ H Q I hw)
theorem Lz(ha:PE X a ta)(hb:PE X (.BoolOp .And (b::rest) pos) tb):PE X (.BoolOp .And (a::b::rest) pos) (M9 ta tb):=by
 intro pins s σ H Q I h;refine BoolOp_and (thn (ha pins s σ H _ I h) λv s1 ⟨x,H1,I1,r1,q1⟩=>?_);obtain⟨c,rfl,q1⟩:=q1;cases r1;refine QW ?_;cases c with
 |true=>exact hb pins s1 σ H1 Q I1 q1
 |false=>exact⟨.bl Cn,H1,I1,rfl,q1⟩
theorem M7(ha:PE X a ta)(hb:PE X (.BoolOp .Or (b::rest) pos) tb):PE X (.BoolOp .Or (a::b::rest) pos) (tOrV ta tb):=by
 intro pins s σ H Q I h;refine BoolOp_or (thn (ha pins s σ H _ I h) λv s1 ⟨x,H1,I1,r1,q1⟩=>?_);obtain⟨c,rfl,q1⟩:=q1;cases r1;refine QW ?_;cases c with
 |false=>exact hb pins s1 σ H1 Q I1 q1
 |true=>exact⟨.bl Cm,H1,I1,rfl,q1⟩
theorem Hr(ha:PE X a ta):PE X (.UnaryOp .Not a pos) (M8 ta):=by intro pins s σ H Q I h;refine UnaryOp_ (thn (ha pins s σ H _ I h) λv s1 ⟨x,H1,I1,r1,q1⟩=>?_);obtain⟨c,rfl,q1⟩:=q1;cases r1;exact not_of (QW ⟨.bl (!c),H1,I1,rfl,q1⟩)
end
def SqL(K:Frag)(H:Hp)(a:JV)(xs:List V):Prop:=
 Rd H a (.lst xs) ∨
  ∃(o:Obj)(its:Array JS)(n:Nat),K.lookup a=Ci o/\o.cls=.type "list" /\ o.dict=Ck/\o.data=.seq its n/\its.size<=JY/\Vals xs its.toList
def SqT(K:Frag)(H:Hp)(a:JV)(xs:List V):Prop:=
 Rd H a (.tup xs) ∨
  ∃(o:Obj)(its:Array JS)(n:Nat),K.lookup a=Ci o/\o.cls=.type "tuple" /\ o.data=.seq its n/\its.size<=JY/\Vals xs its.toList
def absV:JS->Option V
 |.none=>Ci .non
 |.bool b=>Ci (.bl b)
 |.int i _=>Ci (.int i)
 |.str x _=>Ci (.str x)
 |.bytes b _=>Ci (.byt b)
 |.float b _=>Ci (.flt b)
 |.ref a=>Ci (.ref a)
 |.type n=>Ci (.ty n)
 |_=>Ck
theorem RelV.abs{x:V}{u:JS}(r:RelV x u):absV u=Ci x:=by
 cases x with
 |non=>cases r;rfl
 |bl _=>cases r;rfl
 |int _=>obtain⟨t,rfl⟩:=r;rfl
 |str _=>obtain⟨t,rfl⟩:=r;rfl
 |byt _=>obtain⟨t,rfl⟩:=r;rfl
 |flt _=>obtain⟨t,rfl⟩:=r;rfl
 |ref _=>cases r;rfl
 |ty _=>cases r;rfl
theorem RelV.inj{x y:V}{u:JS}(r:RelV x u)(q:RelV y u):x=y:=QA (r.abs.symm.trans q.abs)
theorem Vals.inj:∀{xs ys:List V}{us:Cq},Vals xs us->Vals ys us->xs=ys
 |_,_,_,.nil,.nil=>rfl
 |_,_,_,.cons r t,.cons r' t'=>by rw[r.inj r',Vals.inj t t']
section
variable{X:Cx}{pins:List (JV×Obj)}{σ:St}{H:Hp}{s:JT}{a:JV}{xs ys:List V}
theorem SqL.of{K:Frag}(h:H a=Ci (.lst xs)):SqL K H a xs:=.inl (.inl h)
theorem SqT.of{K:Frag}(h:H a=Ci (.tup xs)):SqT K H a xs:=.inl (.inl h)
theorem Inv.list(I:Inv X pins σ H s)(h:SqL X.K H a xs):∃its:Cq,Vals xs its/\PlainL s.heap a its.toArray/\xs.length<=JY:=by
 rcases h with h|⟨o,its,n,hk,hc,hd,hs,hz,r⟩
 .obtain⟨z,its,n,r,e⟩:=h.ok I.hok
  exact⟨its,r,⟨_,n,e,rfl,rfl,rfl⟩,z⟩
 .refine⟨its.toList,r,⟨o,n,I.kIn a o hk,hc,hd,by simpa using hs⟩,?_⟩
  have e:=r.length;simp only[JL]at e;omega
theorem Inv.tuple(I:Inv X pins σ H s)(h:SqT X.K H a xs):∃its:Cq,Vals xs its/\IsTup s.heap a its.toArray/\xs.length<=JY:=by
 rcases h with h|⟨o,its,n,hk,hc,hs,hz,r⟩
 .obtain⟨z,its,r,p⟩:=h.ok I.hok
  exact⟨its,r,p,z⟩
 .refine⟨its.toList,r,⟨o,I.kIn a o hk,hc,n,by simpa using hs⟩,?_⟩
  have e:=r.length;simp only[JL]at e;omega
theorem Inv.list_inj(I:Inv X pins σ H s)(h:SqL X.K H a xs)(h':SqL X.K H a ys):xs=ys:=by
 obtain⟨its,r,⟨o,n,e,_,_,d⟩,_⟩:=I.list h;obtain⟨its',r',⟨o',n',e',_,_,d'⟩,_⟩:=I.list h';rw[e]at e';cases e';rw[d]at d';injection d' with d1 _
 have:its=its':=by simpa using congrArg Array.toList d1
 subst this;exact r.inj r'
theorem Inv.tuple_inj(I:Inv X pins σ H s)(h:SqT X.K H a xs)(h':SqT X.K H a ys):xs=ys:=by
 obtain⟨its,r,⟨o,e,_,n,d⟩,_⟩:=I.tuple h;obtain⟨its',r',⟨o',e',_,n',d'⟩,_⟩:=I.tuple h';rw[e]at e';cases e';rw[d]at d';injection d' with d1 _
 have:its=its':=by simpa using congrArg Array.toList d1
 subst this;exact r.inj r'
end
abbrev Cx.wish(X:Cx)(E:JS->JT->Prop):Cx:={X with xe:=E}
abbrev Cx.nox(X:Cx):Cx:=X.wish λ_ _=>False
theorem Cx.Ok.wish{X:Cx}(ok:X.Ok)(E:JS->JT->Prop):(X.wish E).Ok:=
 ⟨ok.mod,ok.kind,ok.glob,ok.blt,ok.above,ok.inj,ok.has,ok.cab,ok.hd,ok.frames,ok.stk,ok.exf,ok.bs,ok.bsz,ok.noex,ok.exfs,ok.funs,ok.frf⟩
theorem Cx.Ok.unwish{X:Cx}{E:JS->JT->Prop}(ok:(X.wish E).Ok):X.Ok:=
 ⟨ok.mod,ok.kind,ok.glob,ok.blt,ok.above,ok.inj,ok.has,ok.cab,ok.hd,ok.frames,ok.stk,ok.exf,ok.bs,ok.bsz,ok.noex,ok.exfs,ok.funs,ok.frf⟩
section
variable{X:Cx}{pins:List (JV×Obj)}{σ:St}{H:Hp}{s:JT}{E:JS->JT->Prop}
theorem Inv.wish(I:Inv X pins σ H s)(E:JS->JT->Prop):Inv (X.wish E) pins σ H s:=⟨I.ok.wish E,I.os,I.bare,I.base,I.loc,I.cell,I.free,I.freeC,I.pin,I.hok,I.len⟩
theorem Inv.unwish(I:Inv (X.wish E) pins σ H s):Inv X pins σ H s:=⟨I.ok.unwish,I.os,I.bare,I.base,I.loc,I.cell,I.free,I.freeC,I.pin,I.hok,I.len⟩
theorem SP.unwish{D:Ends}{f:Flow}{s':JT}(h:SP (X.wish E) pins D f s'):SP X pins D f s':=by
 cases f with
 |next=>obtain⟨σ',H',I,q⟩:=h;exact⟨σ',H',I.unwish,q⟩
 |brk=>obtain⟨σ',H',I,q⟩:=h;exact⟨σ',H',I.unwish,q⟩
 |cont=>obtain⟨σ',H',I,q⟩:=h;exact⟨σ',H',I.unwish,q⟩
 |ret u=>obtain⟨v,σ',H',I,r,q⟩:=h;exact⟨v,σ',H',I.unwish,r,q⟩
theorem PSs.nox{st:List Stmt}{t:TS}(h:PSs X.nox st t):PSs X st t:=λpins s σ H D I hw=>
 Qv (h pins s σ H D (I.wish _) hw) (λ_ _ q=>q.unwish) λ_ _ z=>False.elim z
end
section
variable{X:Cx}{st:Stmt}{rest:List Stmt}{t u:TS}{e:JX}{te:TE}{pos:Pos}
def M6:TS:=λD σ H=>D.nx σ H
def tSeq(t u:TS):TS:=λD σ H=>t {D with nx:=u D} σ H
theorem Fj:PSs X [] M6:=λ_ _ σ H _ I h=>wpAny_execs_nil ⟨σ,H,I,h⟩
theorem VM(h1:PS X st t)(h2:PSs X rest u):PSs X (st::rest) (tSeq t u):=by
 intro pins s σ H D I h;refine wpAny_execs_cons (thn (h1 pins s σ H {D with nx:=u D} I h) λf s1 q=>?_);cases f with
 |next=>obtain⟨σ',H',I',q⟩:=q;exact h2 pins s1 σ' H' D I' q
 |ret v=>exact q
 |brk=>exact q
 |cont=>exact q
theorem Rj(h1:PS X st t):PSs X [st] t:=by
 intro pins s σ H D I h;refine wpAny_execs_cons (thn (h1 pins s σ H D I h) λf s1 q=>?_);cases f with
 |next=>exact wpAny_execs_nil q
 |ret v=>exact q
 |brk=>exact q
 |cont=>exact q
theorem Inv.quiet{pins:List (JV×Obj)}{σ:St}{H:Hp}{s:JT}(I:Inv X pins σ H s):interactive X.env=Cn:=by simp[interactive,I.ok.kind]
def M5(te:TE):TS:=λD σ H=>te σ H λ_ H1=>D.nx σ H1
theorem Tt(he:PE X e te)(hs:swapsWith e Ck pos.line X.env=pure Cn:=by rfl):PS X (.Expr e pos) (M5 te):=by intro pins s σ H D I h;exact wpAny_Expr_any (thn (he pins s σ H _ I h) λv s1 ⟨x,H1,I1,r1,q1⟩=>⟨σ,H1,I1,q1⟩) I.quiet hs
def tRet(te:TE):TS:=λD σ H=>te σ H D.rt
theorem Ta(he:PE X e te):PS X (.Return (Ci e) pos) (tRet te):=by intro pins s σ H D I h;exact wpAny_Return_some (thn (he pins s σ H _ I h) λv s1 ⟨x,H1,I1,r1,q1⟩=>⟨x,σ,H1,I1,r1,q1⟩)
def tIfS(c:TT)(t u:TS):TS:=λD σ H=>c σ H λb H1=>if b=Cm then t D σ H1 else u D σ H1
theorem RY{c:JX}{a b:List Stmt}{tc:TT}(hc:PT X c tc)(ha:PSs X a t)(hb:PSs X b u):PS X (.If c a b pos) (tIfS tc t u):=by
 intro pins s σ H D I h;refine wpAny_If (thn (hc pins s σ H _ I h) λd s1 ⟨H1,I1,q1⟩=>?_);cases d with
 |true=>exact ha pins s1 σ H1 D I1 q1
 |false=>exact hb pins s1 σ H1 D I1 q1
end
abbrev TG:=V->St->Hp->(St->Hp->Prop)->Prop
abbrev TGs:=List V->St->Hp->(St->Hp->Prop)->Prop
def PG(X:Cx)(target:JX)(t:TG):Prop:=
 ∀(pins:List (JV×Obj))(s:JT)(σ:St)(H:Hp)(v:V)(u:JS)(Q:St->Hp->Prop),Inv X pins σ H s->RelV v u->t v σ H Q ->
  JZ (model X.prog X.w) X.A (assign target X.env u) (λ_ s'=>∃σ' H',Inv X pins σ' H' s'/\Q σ' H') X.xe s
def PGs(X:Cx)(ts:Cr)(t:TGs):Prop:=
 ∀(pins:List (JV×Obj))(s:JT)(σ:St)(H:Hp)(vs:List V)(us:Cq)(Q:St->Hp->Prop),Inv X pins σ H s->Vals vs us->t vs σ H Q ->
  JZ (model X.prog X.w) X.A (assignInOrder ((Ui ts X.env).map (·.2)) us) (λ_ s'=>∃σ' H',Inv X pins σ' H' s'/\Q σ' H') X.xe s
section
variable{X:Cx}{pos:Pos}
def Sf(i:Nat):TG:=λv σ H Q=>Q (σ.set i (Ci v)) H
theorem Yt{i:Nat}{x:Str}(hN:X.N.Nodup)(hi:X.N[i]?=Ci x)(hx:Loc X.env.scope x)(hf:X.fn x=Cm∨X.env.scope.names.lookup x=Ci .local:=by first|exact .inl rfl|exact .inr rfl|assumption):PG X (.Name x pos) (Sf i):=by intro pins s σ H v u Q I r h;exact wpAny_assign_Name (OU I hN hi hx r (λs' I'=>⟨_,H,I',h⟩) hf)
def gNil:TGs:=λvs σ H Q=>vs=[]/\Q σ H
def M4(t:TG)(u:TGs):TGs:=λvs σ H Q=>∃v r,vs=v::r/\t v σ H λσ' H'=>u r σ' H' Q
theorem Fi:PGs X [] gNil:=by intro pins s σ H vs us Q I r h;obtain⟨e,h⟩:=h;subst e;cases r;exact assignInOrder_nil ⟨σ,H,I,h⟩
theorem FV{e:JX}{es:Cr}{t:TG}{u:TGs}(h1:PG X e t)(h2:PGs X es u)
  (hs:(Ui (e::es) X.env).map (·.2)=assign e X.env::(Ui es X.env).map (·.2):=by rfl):PGs X (e::es) (M4 t u):=by
 intro pins s σ H vs us Q I r h;obtain⟨v,vr,e1,h⟩:=h;subst e1;cases r with
 |cons r rr=>rw[hs];refine assignInOrder_cons (thn (h1 pins s σ H _ _ _ I r h) λ_ s1 ⟨σ1,H1,I1,q1⟩=>?_);exact h2 pins s1 σ1 H1 _ _ Q I1 rr q1
def gTup(K:Frag)(n:Nat)(t:TGs):TG:=λv σ H Q=>∃a xs,v=.ref a/\SqT K H a xs/\xs.length=n/\t xs σ H Q
theorem Hq{es:Cr}{k:Nat}{t:TGs}{n:Nat}(hc:X.calm=Cm)(h:PGs X es t)
  (hn:(Ui es X.env).length=n:=by rfl) (hst:(Ui es X.env).findIdx? (·.1)=Ck:=by rfl):PG X (.Tuple es k pos) (gTup X.K n t):=by
 intro pins s σ H v u Q I r hw;obtain⟨a,xs,e1,hq,hl,hw⟩:=hw;subst e1;cases r;obtain⟨its,rv,ht,hz⟩:=I.tuple hq;refine assign_Tuple_tuple (I.ok.hd hc) ht (by simp[hn,←hl,rv.length]) hst λh' hx=>?_
 have I1:Inv X pins σ H {s with heap:=h'}:=I.kept (t':=s.toks) λb o e=>hx b o (QE (Qh e)) e;exact h pins _ σ H xs _ Q I1 (by simpa using rv) hw
def tAsg(te:TE)(g:TG):TS:=λD σ H=>te σ H λx H1=>g x σ H1 D.nx
theorem Hn{tg e:JX}{te:TE}{g:TG}(he:PE X e te)(hg:PG X tg g)(hs:swapsWithSole [tg] e pos.line X.env=pure Cn:=by rfl)(hw:swappedStores [tg] e X.env=pure Ck:=by rfl)
  (h1:(Ui [tg] X.env).map (·.2)=[assign tg X.env]:=by rfl):PS X (.Assign [tg] e pos) (tAsg te g):=by
 intro pins s σ H D I h;refine wpAny_Assign_stores (thn (he pins s σ H _ I h) λv s1 ⟨x,H1,I1,r1,q1⟩=>?_) hs hw;rw[h1];exact thn (hg pins s1 σ H1 x v _ I1 r1 q1) λ_ s2 q=>q
theorem V9{i:Nat}{x:Str}{e:JX}{te:TE}{pos':Pos}(hN:X.N.Nodup)(hi:X.N[i]?=Ci x)(hx:Loc X.env.scope x)(he:PE X e te)(hs:swapsWith e (Ci (.Name x pos')) pos.line X.env=pure Cn:=by rfl)(hf:X.fn x=Cm∨X.env.scope.names.lookup x=Ci .local:=by first|exact .inl rfl|exact .inr rfl|assumption) :
  PS X (.Assign [.Name x pos'] e pos) (tAsg te (Sf i)):=by
 intro pins s σ H D I h;refine wpAny_Assign_Name (thn (he pins s σ H _ I h) λv s1 ⟨y,H1,I1,r1,q1⟩=>?_) hs;exact OU I1 hN hi hx r1 (λs2 I2=>⟨_,H1,I2,q1⟩) hf
end
structure It where
 go:Nat->Hp->Prop
 yld:Nat->Hp->V->Hp->Prop
 stop:Nat->Hp->Prop
def U8(X:Cx)(pins:List (JV×Obj))(H:Hp)(b:JV):Prop:=
 H b=Ck/\b≠X.env.locals/\b∉X.fs/\(b∈X.ex∨X.s₀.heap.objs.size<=b)/\(∀x c,X.env.cells.lookup x=Ci c->c≠b)/\∀p∈X.pn++pins,p.1≠b
theorem Inv.fpOk{X:Cx}{pins:List (JV×Obj)}{σ:St}{H H':Hp}{s:JT}{b:JV}(I:Inv X pins σ H s)(hb:s.heap.objs.size<=b)(hn:H' b=Ck):U8 X pins H' b:=by
 refine⟨hn,Js (QD I.lt hb),I.nofs hb,.inr (QJ I.sz hb),λx c e z=>?_,λp hp z=>?_⟩
 .obtain⟨v,q⟩:=I.cell x c e
  exact absurd (QD q.lt (by rw[z];exact hb)) (Q9 _)
 .exact absurd (QD (Qh (I.pin p hp).1) (by rw[z];exact hb)) (Q9 _)
structure Turn(P:JU)(w:World)(K:Frag)(tg:JX)(J:It)(fp:Ct)(it:JV)(tn:Nat->Heap->Prop):Prop where
 mem:it∈fp
 obj:∀i h,tn i h->∀b∈fp,∃o,h.get? b=Ci o/\∀v,o.data≠.cell v
 keep:∀i h h',tn i h->(∀b∈fp,∀o,h.get? b=Ci o->h'.get? b=Ci o)->tn i h'
 item:∀(X:Cx),X.prog=P->X.w=w->X.K=K->X.calm=Cm->∀(i:Nat)(pins:List (JV×Obj))(s:JT)(σ:St)(H:Hp)(E:JS->JT->Prop),Inv X pins σ H s->(∀b∈fp,U8 X pins H b)->tn i s.heap->J.go i H ->
  JZ (model P w) X.A (pyNext (.ref it)) (λr s1=>∃u,r=Ci u /\
   JZ (model P w) X.A (letOwnedTupleGo tg (.ref it) u) (λ_ s2=>∃x H',Inv X pins σ H' s2/\RelV x u/\J.yld i H x H'/\tn (i+1) s2.heap/\∀b∈fp,H' b=Ck) E s1) E s
 done:∀(X:Cx),X.prog=P->X.w=w->X.K=K->X.calm=Cm->∀(i:Nat)(pins:List (JV×Obj))(s:JT)(σ:St)(H:Hp)(E:JS->JT->Prop),Inv X pins σ H s->(∀b∈fp,U8 X pins H b)->tn i s.heap->J.stop i H ->
  JZ (model P w) X.A (pyNext (.ref it)) (λr s1=>r=Ck/\Inv X pins σ H s1) E s
 self:∀(A:Around)(i:Nat)(s:JT)(Q:JS->JT->Prop)(E:JS->JT->Prop),tn i s.heap->Q (.ref it) s->JZ (model P w) A (pyIter (.ref it)) Q E s
abbrev TI:=St->Hp->(It->Hp->Prop)->Prop
def PIE(X:Cx)(pins:List (JV×Obj))(σ:St)(tg:JX)(R:It->Hp->Prop)(itv:JS)(s2:JT):Prop:=
 ∃(it:JV)(fp:Ct)(tn:Nat->Heap->Prop)(J:It)(H':Hp),itv=.ref it/\Inv X pins σ H' s2/\Turn X.prog X.w X.K tg J fp it tn/\tn 0 s2.heap/\(∀b∈fp,U8 X pins H' b)/\R J H'
def PI(X:Cx)(tg iter:JX)(wi:TI):Prop:=
 ∀(pins:List (JV×Obj))(s:JT)(σ:St)(H:Hp)(R:It->Hp->Prop),Inv X pins σ H s->wi σ H R ->
  JZ (model X.prog X.w) X.A (eval iter X.env) (λv s1=>JZ (model X.prog X.w) X.A (pyIter v) (PIE X pins σ tg R) X.xe s1) X.xe s
theorem VY{M:Model}{A:Around}{E:JS->JT->Prop}{s:JT}{tg:JX}{it:JV}{u:JS}{o:Obj}{n:String}{vs:Array JS}{Q:Unit->JT->Prop}(ho:s.heap.get? it=Ci o)(hc:o.cls=.type n)(hd:o.data=.fields vs)
  (hn:["enumerate", "zip", "dict_itemiterator", "dict_reverseitemiterator", "odict_iterator", "itertools.zip_longest", "itertools.pairwise"].contains n=Cn) (hQ:Q () s):JZ M A (letOwnedTupleGo tg (.ref it) u) Q E s:=by
 unfold letOwnedTupleGo
 cases tg<;>first
  |exact Qi hQ
  |(cases u<;>first
    |exact Qi hQ
    |(
      refine Qb (wpAny_load ho ?_);rw[hc,hd];show JZ M A (if(["enumerate", "zip", "dict_itemiterator", "dict_reverseitemiterator", "odict_iterator", "itertools.zip_longest", "itertools.pairwise"].contains n&&vs[0]?==Ci (rawInt _))=Cm then _ else _) Q E s;rw[QM (by intro h;rw[hn,Bool.false_and]at h;cases h)];exact Qi hQ))
def Itl(K:Frag)(a:JV):It:=
 ⟨λi H=>∃xs x,SqL K H a xs/\xs[i]?=Ci x,λi H x H'=>H'=H/\∀xs,SqL K H a xs->xs[i]?=Ci x,λi H=>∃xs,SqL K H a xs/\xs.length<=i⟩
def Itt(K:Frag)(a:JV):It:=
 ⟨λi H=>∃xs x,SqT K H a xs/\xs[i]?=Ci x,λi H x H'=>H'=H/\∀xs,SqT K H a xs->xs[i]?=Ci x,λi H=>∃xs,SqT K H a xs/\xs.length<=i⟩
def Itr(lo:Int)(n:Nat):It:=⟨λi _=>i<n,λi H x H'=>H'=H/\x=.int (lo+i),λi _=>n<=i⟩
theorem E9{P:JU}{w:World}{K:Frag}{tg:JX}(a it:JV):Turn P w K tg (Itl K a) [it] it (λi h=>h.IsListIter it a i) where
 mem:=by simp
 obj:=λi h st b hb=>by
  have e:b=it:=by simpa using hb
  subst e;obtain⟨o,e,c,d⟩:=st;exact⟨o,e,λv z=>by rw[d]at z;cases z⟩
 keep:=λi h h' st k=>st.at λo e=>k it (by simp) o e
 item:=by
  intro X hP hw hK hc i pins s σ H E I hf st hg;subst hP hw hK;obtain⟨xs,x,hq,hx⟩:=hg;obtain⟨its,rv,p,hz⟩:=I.list hq;obtain⟨u,hu,ru⟩:=rv.get hx;obtain⟨f0,f1,f2,f3,f4,f5⟩:=hf it (by simp);refine wpAny_pyNext_list_item st p.isList (x:=u) (by simpa using hu) λh' st' sb=>?_
  have I1:Inv X pins σ H {s with heap:=h'}:=I.turned (t':=s.toks) (λb o hb e=>(sb.2 b hb).trans e) f0 f1 f3 f4 f5;obtain⟨o,e,c,d⟩:=id st';exact⟨u,rfl,VY (s:={s with heap:=h'}) e c d (by decide) ⟨x,H,I1,ru,⟨rfl,λys hy=>by rw[I.list_inj hy hq];exact hx⟩,st',λb hb=>(hf b hb).1⟩⟩
 done:=by intro X hP hw hK hc i pins s σ H E I hf st hg;subst hP hw hK;obtain⟨xs,hq,hx⟩:=hg;obtain⟨its,rv,p,hz⟩:=I.list hq;obtain⟨f0,f1,f2,f3,f4,f5⟩:=hf it (by simp);have hl:=rv.length;exact wpAny_pyNext_list_end (I.ok.hd hc) st p.isList (by simp;omega) λh' eb=>⟨rfl,I.turned (t':=s.toks) (λb o hb e=>eb b o hb e) f0 f1 f3 f4 f5⟩
 self:=λ_ _ _ _ _ st h=>wpAny_pyIter_listiter st h
theorem Di{P:JU}{w:World}{K:Frag}{tg:JX}(a it:JV):Turn P w K tg (Itt K a) [it] it (λi h=>h.IsTupleIter it a i) where
 mem:=by simp
 obj:=λi h st b hb=>by
  have e:b=it:=by simpa using hb
  subst e;obtain⟨o,e,c,d⟩:=st;exact⟨o,e,λv z=>by rw[d]at z;cases z⟩
 keep:=λi h h' st k=>st.at λo e=>k it (by simp) o e
 item:=by
  intro X hP hw hK hc i pins s σ H E I hf st hg;subst hP hw hK;obtain⟨xs,x,hq,hx⟩:=hg;obtain⟨its,rv,p,hz⟩:=I.tuple hq;obtain⟨u,hu,ru⟩:=rv.get hx;obtain⟨f0,f1,f2,f3,f4,f5⟩:=hf it (by simp);refine wpAny_pyNext_tuple_item st (show s.heap.IsTuple a its.toArray from p) (x:=u) (by simpa using hu) λh' st' sb=>?_
  have I1:Inv X pins σ H {s with heap:=h'}:=I.turned (t':=s.toks) (λb o hb e=>(sb.2 b hb).trans e) f0 f1 f3 f4 f5;obtain⟨o,e,c,d⟩:=id st';exact⟨u,rfl,VY (s:={s with heap:=h'}) e c d (by decide) ⟨x,H,I1,ru,⟨rfl,λys hy=>by rw[I.tuple_inj hy hq];exact hx⟩,st',λb hb=>(hf b hb).1⟩⟩
 done:=by intro X hP hw hK hc i pins s σ H E I hf st hg;subst hP hw hK;obtain⟨xs,hq,hx⟩:=hg;obtain⟨its,rv,p,hz⟩:=I.tuple hq;obtain⟨f0,f1,f2,f3,f4,f5⟩:=hf it (by simp);have hl:=rv.length;exact wpAny_pyNext_tuple_end (I.ok.hd hc) st (show s.heap.IsTuple a its.toArray from p) (by simp;omega) λh' eb=>⟨rfl,I.turned (t':=s.toks) (λb o hb e=>eb b o hb e) f0 f1 f3 f4 f5⟩
 self:=λ_ _ _ _ _ st h=>wpAny_pyIter_tupleiter st h
theorem Dh{P:JU}{w:World}{K:Frag}{tg:JX}(it:JV)(lo:Int)(n:Nat):Turn P w K tg (Itr lo n) [it] it (λi h=>IsRangeIter h it (lo+(i:Nat)*1) ((n:Int)-(i:Nat)) 1) where
 mem:=by simp
 obj:=λi h st b hb=>by
  have e:b=it:=by simpa using hb
  subst e;exact⟨_,st,λv z=>by have z':Data.fields _=Data.cell v:=z;cases z'⟩
 keep:=λi h h' st k=>k it (by simp) _ st
 item:=by
  intro X hP hw hK hc i pins s σ H E I hf st hg;subst hP hw hK;obtain⟨f0,f1,f2,f3,f4,f5⟩:=hf it (by simp);have W:=Walks.range (prog:=X.prog) (w:=X.w) (I.ok.hd hc) it lo 1 n;refine W.item i s _ _ hg st λv h' tk hv st' kk=>?_
  obtain⟨t,rfl⟩:=hv;have I1:Inv X pins σ H {s with heap:=h',toks:=tk}:=I.turned (λb o hb e=>kk b o (by simpa using hb) e) f0 f1 f3 f4 f5;refine⟨_,rfl,VY (s:={s with heap:=h',toks:=tk}) (n:= "range_iterator") st' Cj Cj (by decide) ⟨.int (lo+i),H,I1,⟨t,?_⟩,⟨rfl,rfl⟩,st',λb hb=>(hf b hb).1⟩⟩;rw[Int.mul_one]
 done:=by intro X hP hw hK hc i pins s σ H E I hf st hg;subst hP hw hK;obtain⟨f0,f1,f2,f3,f4,f5⟩:=hf it (by simp);exact wpAny_pyNext_range_end (I.ok.hd hc) st (by have:n<=i:=hg;omega) λh' eb=>⟨rfl,I.turned (t':=s.toks) (λb o hb e=>eb b o hb e) f0 f1 f3 f4 f5⟩
 self:=λ_ _ _ _ _ st h=>wpAny_pyIter_rangeiter st h
section
variable{X:Cx}{tg:JX}
theorem OS{pins:List (JV×Obj)}{σ:St}{H:Hp}{s:JT}{R:It->Hp->Prop}{E:JS->JT->Prop}{lo hi:Int}{t u v:Tok}{tk:Nat}(I:Inv X pins σ H s)(h1 : -(2 ^ 62)<=lo)(h2:lo<2 ^ 62)(h3 : -(2 ^ 62)<=hi)(h4:hi<2 ^ 62)
  (q:R (Itr lo (hi-lo).toNat) H):JZ (model X.prog X.w) X.A (pyIter (.ref s.heap.objs.size)) (PIE X pins σ tg R) E {s with heap:=s.heap.push {cls:=.type "range", data:=.fields #[.int lo t,.int hi u,.int 1 v]},toks:=tk}:=by
 refine wpAny_pyIter_range (IsRange.new ..) (small_one h1 h2 h3 h4) ?_;have I1:Inv X pins σ H {s with heap:=s.heap.push {cls:=.type "range", data:=.fields #[.int lo t,.int hi u,.int 1 v]},toks:=tk}:=I.kept λb o e=>Qf _ e
 refine⟨(s.heap.push {cls:=.type "range", data:=.fields #[.int lo t,.int hi u,.int 1 v]}).objs.size,[(s.heap.push {cls:=.type "range", data:=.fields #[.int lo t,.int hi u,.int 1 v]}).objs.size],_,_,H,rfl,
  I1.kept (t':=tk) λb o e=>Qf _ e,Dh _ lo (hi-lo).toNat,?_,λb hb=>?_,q⟩
 .have e1:lo+((0:Nat):Int)*1=lo:=by simp
  have e2:(((hi-lo).toNat:Nat):Int)-((0:Nat):Int)=Builtin.Range.rangeSize lo hi 1:=by rw[rangeSize_one];split<;>omega
  show IsRangeIter _ _ (lo+((0:Nat):Int)*1) ((((hi-lo).toNat:Nat):Int)-((0:Nat):Int)) 1;rw[e1,e2];exact Qx _ Cj
 .have e:b=(s.heap.push {cls:=.type "range", data:=.fields #[.int lo t,.int hi u,.int 1 v]}).objs.size:=by simpa using hb
  subst e;exact I1.fpOk (Qn _) (I1.hok.fresh (Qn _))
def M0(ta:TA):TI:=λσ H R=>ta σ H λvs H1=>∃j:Int,vs=[.int j] /\ -(2 ^ 62)<=j/\j<2 ^ 62/\R (Itr 0 j.toNat) H1
def MZ(ta:TA):TI:=λσ H R=>ta σ H λvs H1=>∃i j:Int,vs=[.int i,.int j]/\(-(2 ^ 62)<=i/\i<2 ^ 62 /\ -(2 ^ 62)<=j/\j<2 ^ 62)/\R (Itr i (j-i).toNat) H1
theorem E8{a:JX}{ta:TA}{p pos:Pos}(hg:Gl X "range")(hm:X.mg "range" = Ck)(ha:PA X [a] ta)(hs:J0 [a] X.env=[(Cn,eval a X.env)]:=by rfl):PI X tg (.Call (.Name "range" p) [a] [] pos) (M0 ta):=by
 intro pins s σ H R I h;refine Call_ (X0 I hg hm boot_range (Jt (thn (ha pos pins s σ H _ I h) λus s1 ⟨vs,H1,I1,r1,q1⟩=>?_) hs Cj));obtain⟨j,e,q1,q2,q⟩:=q1;subst e;cases r1 with
 |cons r rr=>cases rr;obtain⟨t,rfl⟩:=r;exact call_range_1 (OS I1 (by omega) (by omega) q1 q2 (by simpa using q))
theorem E7{a b:JX}{ta:TA}{p pos:Pos}(hg:Gl X "range")(hm:X.mg "range" = Ck)(ha:PA X [a,b] ta)(hs:J0 [a,b] X.env=[(Cn,eval a X.env),(Cn,eval b X.env)]:=by rfl)(hs2:J0 [b] X.env=[(Cn,eval b X.env)]:=by rfl) :
  PI X tg (.Call (.Name "range" p) [a,b] [] pos) (MZ ta):=by
 intro pins s σ H R I h;refine Call_ (X0 I hg hm boot_range (Jt (thn (ha pos pins s σ H _ I h) λus s1 ⟨vs,H1,I1,r1,q1⟩=>?_) (by rw[hs,hs2]) (by rw[hs2];rfl)));obtain⟨i,j,e,⟨q1,q2,q3,q4⟩,q⟩:=q1;subst e;cases r1 with
 |cons r rr=>
  cases rr with
  |cons r' rr=>cases rr;obtain⟨t,rfl⟩:=r;obtain⟨t',rfl⟩:=r';exact call_range_2 (OS I1 q1 q2 q3 q4 q)
def tFor(wi:TI)(g:TG)(tb:TS):TS:=λD σ H=>wi σ H λJ H1=>∃W:Nat->Nat->St->Hp->Prop,(∃m,W 0 m σ H1)/\∀i m σ H,W i m σ H ->
 (J.stop i H/\D.nx σ H)∨(J.go i H/\∃N:St->Hp->Prop,(∀σ' H',N σ' H'->∃m',m'<m/\W (i+1) m' σ' H')/\∀x H',J.yld i H x H'->g x σ H' λσ2 H2=>tb {D with nx:=N,ct:=N,bk:=D.nx} σ2 H2)
def XZ(fp:Ct)(h:Heap):List (JV×Obj):=fp.filterMap λb=>(h.get? b).map λo=>(b,o)
theorem XI{fp:Ct}{h:Heap}{b:JV}{o:Obj}(hb:b∈fp)(e:h.get? b=Ci o):(b,o)∈XZ fp h:=List.mem_filterMap.mpr ⟨b,hb,by rw[e];rfl⟩
theorem E6{fp:Ct}{h:Heap}{p:JV×Obj}(hp:p∈XZ fp h):p.1∈fp/\h.get? p.1=Ci p.2:=by
 obtain⟨b,hb,e⟩:=List.mem_filterMap.mp hp;cases q:h.get? b with
 |none=>rw[q]at e;cases e
 |some o=>rw[q]at e;have e':(b,o)=p:=QA e;subst e';exact⟨hb,q⟩
theorem Inv.pinned{pins:List (JV×Obj)}{σ:St}{H:Hp}{s:JT}{fp:Ct}(I:Inv X pins σ H s)(hf:∀b∈fp,U8 X pins H b)(ho:∀b∈fp,∃o,s.heap.get? b=Ci o/\∀v,o.data≠.cell v):Inv X (pins++XZ fp s.heap) σ H s:=
 I.pins_of λp hp=>(QC.mp hp).elim (λz=>I.pin p (Qq _ z)) λz=>by obtain⟨hb,e⟩:=E6 z;obtain⟨f0,f1,f2,_⟩:=hf p.1 hb;obtain⟨o,e',d⟩:=ho p.1 hb;rw[e]at e';cases e';exact⟨e,f0,f1,f2,d⟩
theorem Inv.unpinned{pins pl:List (JV×Obj)}{σ:St}{H:Hp}{s:JT}(I:Inv X (pins++pl) σ H s):Inv X pins σ H s:=I.pins_of λp hp=>I.pin p (Qq _ (Q2 _ hp))
theorem Hm{iter:JX}{body:List Stmt}{wi:TI}{g:TG}{tb:TS}{pos:Pos}(hp:PassesOwn (model X.prog X.w) X.A X.env X.xe)(hc:X.calm=Cm)(hi:PI X tg iter wi)(hg:PG X tg g)(hb:PSs X body tb)
  (hs:∀x,Uj iter X.env x=pure x:=by intro _;rfl):PS X (.For tg iter body [] pos) (tFor wi g tb):=by
 intro pins s σ H D I h;refine wpAny_For (thn (hi pins s σ H _ I h) λv s1 h1=>thn h1 λitv s2 h2=>?_) hs;obtain⟨it,fp,tn,J,H2,e,I2,T,st2,f2,W,⟨m0,w0⟩,turn⟩:=h2;subst e;have stat:∀{H':Hp},(∀b∈fp,H' b=Ck)->∀b∈fp,U8 X pins H' b:=λhn b hb=>⟨hn b hb,(f2 b hb).2⟩;refine codeAny_forLoop_any (λn s'=>∃i σ' H',Inv X pins σ' H' s'/\tn i s'.heap/\(∀b∈fp,H' b=Ck)/\W i n σ' H') ?_ m0 ⟨0,σ,H2,I2,st2,λb hb=>(f2 b hb).1,w0⟩;rintro n s3 ⟨i,σ3,H3,I3,st3,fr3,w3⟩;rcases turn i n σ3 H3 w3 with ⟨stop,qn⟩|⟨go,N,hN,step⟩
 .refine wpAny_passesOwn hp (thn (T.done X Cj Cj Cj hc i pins s3 σ3 H3 X.xe I3 (stat fr3) st3 stop) λr s4 ⟨hr,I4⟩=>?_)
  subst hr;exact wpAny_execs_nil ⟨σ3,H3,I4,qn⟩
 .refine wpAny_passesOwn hp (thn (T.item X Cj Cj Cj hc i pins s3 σ3 H3 X.xe I3 (stat fr3) st3 go) λr s4 ⟨u,hr,h4⟩=>?_)
  subst hr;refine wpAny_passesOwn hp (thn h4 λ_ s5 ⟨x,H5,I5,r5,y5,CM,BO⟩=>?_);have I5':=I5.pinned (stat BO) (T.obj _ _ CM);refine wpAny_passesOwn hp (thn (hg _ s5 σ3 H5 x u _ I5' r5 (step x H5 y5)) λ_ s6 ⟨σ6,H6,I6,q6⟩=>?_);refine wpAny_passesOwn hp (thn (hb _ s6 σ6 H6 _ I6 q6) λf s7 q7=>?_);have again:∀{σ7:St}{H7:Hp},Inv X (pins++XZ fp s5.heap) σ7 H7 s7->N σ7 H7->∃m,m<n/\∃i σ' H',Inv X pins σ' H' s7/\tn i s7.heap/\(∀b∈fp,H' b=Ck)/\W i m σ' H':=λ{σ7 H7} I7 n7=>by obtain⟨m',hm,w7⟩:=hN σ7 H7 n7;refine⟨m',hm,i+1,σ7,H7,I7.unpinned,T.keep _ _ _ CM λb hb o e=>(I7.pin (b,o) (Qq _ (Qq _ (XI hb e)))).1,λb hb=>?_,w7⟩;obtain⟨o,e,d⟩:=T.obj _ _ CM b hb;exact(I7.pin (b,o) (Qq _ (Qq _ (XI hb e)))).2.1
  cases f with
  |next=>obtain⟨σ7,H7,I7,n7⟩:=q7;exact again I7 n7
  |cont=>obtain⟨σ7,H7,I7,n7⟩:=q7;exact again I7 n7
  |brk=>obtain⟨σ7,H7,I7,q7⟩:=q7;exact⟨σ7,H7,I7.unpinned,q7⟩
  |ret v=>obtain⟨x7,σ7,H7,I7,r7,q7⟩:=q7;exact⟨x7,σ7,H7,I7.unpinned,r7,q7⟩
end
abbrev R2:=V->V->Hp->VK->Prop
def OpR(X:Cx)(f:JS->JS->Sem JS)(r:R2):Prop:=
 ∀(pins:List (JV×Obj))(s:JT)(σ:St)(H:Hp)(x y:V)(v u:JS)(Q:VK),Inv X pins σ H s->RelV x v->RelV y u->r x y H Q ->
  JZ (model X.prog X.w) X.A (f v u) (EP X pins σ Q) X.xe s
def UnR(X:Cx)(f:JS->Sem JS)(r:V->Hp->VK->Prop):Prop:=
 ∀(pins:List (JV×Obj))(s:JT)(σ:St)(H:Hp)(x:V)(v:JS)(Q:VK),Inv X pins σ H s->RelV x v->r x H Q ->
  JZ (model X.prog X.w) X.A (f v) (EP X pins σ Q) X.xe s
def Zo(X:Cx)(f:JS)(r:List V->Hp->VK->Prop):Prop:=
 ∀(pins:List (JV×Obj))(s:JT)(σ:St)(H:Hp)(xs:List V)(us:Cq)(Q:VK),Inv X pins σ H s->Vals xs us->r xs H Q ->
  JZ (model X.prog X.w) X.A (call f us) (EP X pins σ Q) X.xe s
def tOp(r:R2)(ta tb:TE):TE:=λσ H Q=>ta σ H λx H1=>tb σ H1 λy H2=>r x y H2 Q
def tUn(r:V->Hp->VK->Prop)(ta:TE):TE:=λσ H Q=>ta σ H λx H1=>r x H1 Q
def rI(C:Int->Int->Prop)(g:Int->Int->V):R2:=λx y H Q=>∃i j,x=.int i/\y=.int j/\C i j/\Q (g i j) H
def rI0(g:Int->Int->V):R2:=λx y H Q=>∃i j,x=.int i/\y=.int j/\Q (g i j) H
def rU(g:Int->V):V->Hp->VK->Prop:=λx H Q=>∃i,x=.int i/\Q (g i) H
section
variable{X:Cx}{a b c:JX}{ta tb tc:TE}{pos:Pos}
theorem Wy(ha:PE X a ta)(hb:PE X b tb){pins:List (JV×Obj)}{s:JT}{σ:St}{H:Hp}{R:V->V->Hp->Prop}(I:Inv X pins σ H s)
  (h:ta σ H λx H1=>tb σ H1 λy H2=>R x y H2) {Q:JS->JT->Prop} {f:JS->JS->Sem JS}
  (hf:∀v u s2 x y H2,Inv X pins σ H2 s2->RelV x v->RelV y u->R x y H2->JZ (model X.prog X.w) X.A (f v u) Q X.xe s2) :
  JZ (model X.prog X.w) X.A (eval a X.env) (λv s₁=>JZ (model X.prog X.w) X.A (eval b X.env) (λu s₂=>JZ (model X.prog X.w) X.A (f v u) Q X.xe s₂) X.xe s₁) X.xe s:=by
 refine thn (ha pins s σ H _ I h) λv s1 ⟨x,H1,I1,r1,q1⟩=>?_;refine thn (hb pins s1 σ H1 _ I1 q1) λu s2 ⟨y,H2,I2,r2,q2⟩=>?_;exact hf v u s2 x y H2 I2 r1 r2 q2
theorem MY{op:Operator}{r:R2}(ho:OpR X (binaryOp op) r)(ha:PE X a ta)(hb:PE X b tb):PE X (.BinOp a op b pos) (tOp r ta tb):=by intro pins s σ H Q I h;exact wpAny_BinOp (Wy ha hb I h λv u s2 x y H2 I2 rx ry q=>ho pins s2 σ H2 x y v u Q I2 rx ry q)
theorem MX{op:UnaryOp}{r:V->Hp->VK->Prop}(ho:UnR X (unaryOp op) r)(ha:PE X a ta):PE X (.UnaryOp op a pos) (tUn r ta):=by intro pins s σ H Q I h;exact UnaryOp_ (thn (ha pins s σ H _ I h) λv s1 ⟨x,H1,I1,r1,q1⟩=>ho pins s1 σ H1 x v Q I1 r1 q1)
theorem opI{f:JS->JS->Sem JS}{C:Int->Int->Prop}{g:Int->Int->Int}
  (rule:∀(i j:Int)(t u:Tok)(s:JT)(Q:JS->JT->Prop)(E:JS->JT->Prop),C i j->Q (.int (g i j) s.toks) {s with toks:=s.toks+1}->JZ (model X.prog X.w) X.A (f (.int i t) (.int j u)) Q E s) :
  OpR X f (rI C λi j=>.int (g i j)):=by
 intro pins s σ H x y v u Q I rx ry h;obtain⟨i,j,rfl,rfl,hc,q⟩:=h;obtain⟨t,rfl⟩:=rx;obtain⟨t',rfl⟩:=ry;exact rule i j t t' s _ _ hc ⟨.int (g i j),H,I.tok _,⟨_,rfl⟩,q⟩
theorem opI0{f:JS->JS->Sem JS}{g:Int->Int->Int}
  (rule:∀(i j:Int)(t u:Tok)(s:JT)(Q:JS->JT->Prop)(E:JS->JT->Prop),Q (.int (g i j) s.toks) {s with toks:=s.toks+1}->JZ (model X.prog X.w) X.A (f (.int i t) (.int j u)) Q E s) :
  OpR X f (rI0 λi j=>.int (g i j)):=by
 intro pins s σ H x y v u Q I rx ry h;obtain⟨i,j,rfl,rfl,q⟩:=h;obtain⟨t,rfl⟩:=rx;obtain⟨t',rfl⟩:=ry;exact rule i j t t' s _ _ ⟨.int (g i j),H,I.tok _,⟨_,rfl⟩,q⟩
theorem Y9{f:JS->JS->Sem JS}{g:Int->Int->Bool}
  (rule:∀(i j:Int)(t u:Tok)(s:JT)(Q:JS->JT->Prop)(E:JS->JT->Prop),Q (.bool (g i j)) s->JZ (model X.prog X.w) X.A (f (.int i t) (.int j u)) Q E s) :
  OpR X f (rI0 λi j=>.bl (g i j)):=by
 intro pins s σ H x y v u Q I rx ry h;obtain⟨i,j,rfl,rfl,q⟩:=h;obtain⟨t,rfl⟩:=rx;obtain⟨t',rfl⟩:=ry;exact rule i j t t' s _ _ ⟨.bl (g i j),H,I,rfl,q⟩
def CPow(i j:Int):Prop:=0<=j/\j<=1000000/\i.natAbs<2 ^ 64
def CMul(i j:Int):Prop:=(-(2 ^ 64)<i/\i<2 ^ 64)∨(-(2 ^ 64)<j/\j<2 ^ 64)
theorem CMul.ok{i j:Int}(h:CMul i j):IntMulOk i j:=by
 rcases h with ⟨h1,h2⟩|⟨h1,h2⟩
 .exact .of_left (intBits_le_64 h1 h2)
 .exact .of_right (intBits_le_64 h1 h2)
theorem Hl:OpR X (binaryOp .Add) (rI0 λi j=>.int (i+j)):=opI0 λ_ _ _ _ _ _ _ q=>add_int q
theorem Hk:OpR X (binaryOp .Sub) (rI0 λi j=>.int (i-j)):=opI0 λ_ _ _ _ _ _ _ q=>sub_int q
theorem Hj:OpR X (binaryOp .Mult) (rI CMul λi j=>.int (i*j)):=opI λ_ _ _ _ _ _ _ hc q=>mul_int q hc.ok
theorem Hi:OpR X (binaryOp .Mod) (rI (λ_ j=>0<j) λi j=>.int (i % j)):=opI λi j _ _ _ _ _ hc q=>by have h1:(0:Int)<j:=hc;exact mod_int' (by omega) (by rw[Int.fmod_eq_emod_of_nonneg i (by omega)];exact q)
theorem Hg:OpR X (binaryOp .Pow) (rI CPow λi j=>.int (i ^ j.toNat)):=opI λ_ _ _ _ _ _ _ hc q=>pow_int_small hc.1 hc.2.1 hc.2.2 q
theorem unI{f:JS->Sem JS}{g:Int->Int}
  (rule:∀(i:Int)(t:Tok)(s:JT)(Q:JS->JT->Prop)(E:JS->JT->Prop),Q (.int (g i) s.toks) {s with toks:=s.toks+1}->JZ (model X.prog X.w) X.A (f (.int i t)) Q E s) :
  UnR X f (rU λi=>.int (g i)):=by
 intro pins s σ H x v Q I rx h;obtain⟨i,rfl,q⟩:=h;obtain⟨t,rfl⟩:=rx;exact rule i t s _ _ ⟨.int (g i),H,I.tok _,⟨_,rfl⟩,q⟩
theorem Hf:UnR X (unaryOp .USub) (rU λi=>.int (-i)):=unI λ_ _ _ _ _ q=>neg_int q
end
section
variable{X:Cx}{a b c:JX}{ta tb tc:TE}{pos:Pos}
theorem Pm{pins:List (JV×Obj)}{σ:St}{H:Hp}{s:JT}{Q:VK}{k k':Bool}(I:Inv X pins σ H s)(q:Q (.bl k) H)(e:k=k'):EP X pins σ Q (.bool k') s:=by subst e;exact⟨.bl k,H,I,rfl,q⟩
theorem MW:OpR X (J4 .Lt) (rI0 λi j=>.bl (decide (i<j))):=Y9 λ_ _ _ _ _ _ _ q=>lt_int q
theorem Ly:OpR X (J4 .LtE) (rI0 λi j=>.bl (decide (i<=j))):=Y9 λ_ _ _ _ _ _ _ q=>le_int q
theorem Lx:OpR X (J4 .Gt) (rI0 λi j=>.bl (decide (j<i))):=Y9 λ_ _ _ _ _ _ _ q=>gt_int q
theorem Lw:OpR X (J4 .GtE) (rI0 λi j=>.bl (decide (j<=i))):=Y9 λ_ _ _ _ _ _ _ q=>ge_int q
theorem E5:OpR X (J4 .In) (λx y H Q=>∃i j,x=.str i/\y=.str j/\Q (.bl (!(Builtin.Str.occurrences j i 0 j.length 1).isEmpty)) H):=by intro pins s σ H x y v u Q I rx ry h;obtain⟨i,j,rfl,rfl,q⟩:=h;obtain⟨t,rfl⟩:=rx;obtain⟨t',rfl⟩:=ry;exact in_str (Pm I q Cj)
theorem DS:OpR X (J4 .NotIn) (λx y H Q=>∃i j,x=.str i/\y=.str j/\Q (.bl (!(!(Builtin.Str.occurrences j i 0 j.length 1).isEmpty))) H):=by intro pins s σ H x y v u Q I rx ry h;obtain⟨i,j,rfl,rfl,q⟩:=h;obtain⟨t,rfl⟩:=rx;obtain⟨t',rfl⟩:=ry;exact notIn_str (Pm I q Cj)
theorem OpR.or{f:JS->JS->Sem JS}{r r':R2}(h:OpR X f r)(h':OpR X f r'):OpR X f (λx y H Q=>r x y H Q∨r' x y H Q):=by
 intro pins s σ H x y v u Q I rx ry q;rcases q with q|q
 .exact h pins s σ H x y v u Q I rx ry q
 .exact h' pins s σ H x y v u Q I rx ry q
theorem Ti(b:JX){op:CmpOp}(h:op≠.In:=by decide)(h2:op≠.NotIn:=by decide):behindInMarks op b=Cn:=by
 have e1:(op==CmpOp.In)=Cn:=by cases op<;>first|rfl|exact absurd Cj h
 have e2:(op==CmpOp.NotIn)=Cn:=by cases op<;>first|rfl|exact absurd Cj h2
 cases b<;>simp[behindInMarks,e1,e2]
theorem Oi{op:CmpOp}{r:R2}(ho:OpR X (J4 op) r)(ha:PE X a ta)(hb:PE X b tb)(hm:behindInMarks op b=Cn):PE X (.Compare a [op] [b] pos) (tOp r ta tb):=by intro pins s σ H Q I h;exact wpAny_Compare1 (Wy ha hb I h λv u s2 x y H2 I2 rx ry q=>ho pins s2 σ H2 x y v u Q I2 rx ry q) hm
def RX(t:TE):TT:=λσ H Q=>t σ H λx H'=>∃k,x=.bl k/\Q k H'
theorem Ri{op:CmpOp}{r:R2}(ho:OpR X (J4 op) r)(ha:PE X a ta)(hb:PE X b tb)(hm:behindInMarks op b=Cn):PT X (.Compare a [op] [b] pos) (RX (tOp r ta tb)):=by
 intro pins s σ H Q I h
 refine wpAny_isTrue_Compare1 (thn (ha pins s σ H _ I h) λv s1 ⟨x,H1,I1,r1,q1⟩=>thn (hb pins s1 σ H1 _ I1 q1) λu s2 ⟨y,H2,I2,r2,q2⟩=>
  thn (ho pins s2 σ H2 x y v u _ I2 r1 r2 q2) λc s3 ⟨z,H3,I3,r3,k,e,q3⟩=>?_) hm
 subst e;cases r3;exact QW ⟨H3,I3,q3⟩
def Pl(r r':R2)(ta tb tc:TE):TE:=λσ H Q=>ta σ H λx H1=>tb σ H1 λy H2=>r x y H2 λz H3=>∃k,z=.bl k /\
 (if k=Cm then tc σ H3 λw' H4=>r' y w' H4 Q else Q (.bl Cn) H3)
theorem FT{op op':CmpOp}{r r':R2}(ho:OpR X (J4 op) r)(ho':OpR X (J4 op') r')(ha:PE X a ta)(hb:PE X b tb)(hc:PE X c tc)
  (hm:lastMarks [op,op'] [b,c]=Cn:=by with_unfolding_all rfl):PE X (.Compare a [op,op'] [b,c] pos) (Pl r r' ta tb tc):=by
 intro pins s σ H Q I h
 refine Compare_chain (thn (ha pins s σ H _ I h) λv s1 ⟨x,H1,I1,r1,q1⟩=>chain_link (thn (hb pins s1 σ H1 _ I1 q1) λu s2 ⟨y,H2,I2,r2,q2⟩=>
  thn (ho pins s2 σ H2 x y v u _ I2 r1 r2 q2) λd s3 ⟨z,H3,I3,r3,k,e,q3⟩=>?_)) hm
 subst e;cases r3;refine QW ?_;cases k with
 |false=>exact ite_ff ⟨.bl Cn,H3,I3,rfl,q3⟩
 |true=>exact ite_tt (chain_last (thn (hc pins s3 σ H3 _ I3 q3) λw' s4 ⟨z',H4,I4,r4,q4⟩=>ho' pins s4 σ H4 y z' u w' Q I4 r2 r4 q4))
theorem FS{op op':CmpOp}{r r':R2}(ho:OpR X (J4 op) r)(ho':OpR X (J4 op') r')(ha:PE X a ta)(hb:PE X b tb)(hc:PE X c tc)
  (hm:lastMarks [op,op'] [b,c]=Cn:=by with_unfolding_all rfl):PT X (.Compare a [op,op'] [b,c] pos) (RX (Pl r r' ta tb tc)):=by
 intro pins s σ H Q I h
 refine isTrue_chain (thn (ha pins s σ H _ I h) λv s1 ⟨x,H1,I1,r1,q1⟩=>test_link (thn (hb pins s1 σ H1 _ I1 q1) λu s2 ⟨y,H2,I2,r2,q2⟩=>
  thn (ho pins s2 σ H2 x y v u _ I2 r1 r2 q2) λd s3 ⟨z,H3,I3,r3,k,e,q3⟩=>?_)) hm
 subst e;cases r3;refine QW ?_;cases k with
 |false=>obtain⟨k',e',q'⟩:=q3;cases e';exact ite_ff ⟨H3,I3,q'⟩
 |true=>refine ite_tt (test_last (thn (hc pins s3 σ H3 _ I3 q3) λw' s4 ⟨z',H4,I4,r4,q4⟩=>thn (ho' pins s4 σ H4 y z' u w' _ I4 r2 r4 q4) λd' s5 ⟨z2,H5,I5,r5,k2,e2,q5⟩=>?_));subst e2;cases r5;exact QW ⟨H5,I5,q5⟩
theorem Th:(JY:Nat)<2 ^ 63:=by rw[sizeLine_eq];decide
theorem Dg:OpR X (binaryOp .Add) (λx y H Q=>∃i j,x=.str i/\y=.str j/\i.length+j.length<=JY/\Q (.str (i++j)) H):=by intro pins s σ H x y v u Q I rx ry h;obtain⟨i,j,rfl,rfl,hz,q⟩:=h;obtain⟨t,rfl⟩:=rx;obtain⟨t',rfl⟩:=ry;exact add_str (λt' tk=>⟨.str (i++j),H,I.tok _,⟨_,rfl⟩,q⟩) hz
theorem VX{x:V}{us:Cq}(r:Vals [x] us):∃u,us=[u]/\RelV x u:=by
 cases r with
 |cons r1 r2=>cases r2;exact⟨_,rfl,r1⟩
theorem Se{x y:V}{us:Cq}(r:Vals [x,y] us):∃u w',us=[u,w']/\RelV x u/\RelV y w':=by
 cases r with
 |cons r1 r2=>
  cases r2 with
  |cons r3 r4=>cases r4;exact⟨_,_,rfl,r1,r3⟩
theorem E4(hc:X.calm=Cm):Zo X (.builtin "max") (λxs H Q=>∃i j,xs=[.int i,.int j]/\Q (.int (if j > i then j else i)) H):=by
 intro pins s σ H xs us Q I r h;obtain⟨i,j,rfl,q⟩:=h;obtain⟨u,w',rfl,⟨t,rfl⟩,⟨t',rfl⟩⟩:=Se r;refine max_two_ints (I.ok.hd hc) λh' tk k=>⟨_,H,I.kept k,?_,q⟩
 by_cases hj:j > i
 .rw[Qs hj,Qs hj];exact⟨_,rfl⟩
 .rw[QM hj,QM hj];exact⟨_,rfl⟩
theorem DR:Zo X (.type "str") (λxs H Q=>∃i,xs=[.int i]/\i.natAbs.log2<1920/\Q (.str (toString i)) H):=by intro pins s σ H xs us Q I r h;obtain⟨i,rfl,hz,q⟩:=h;obtain⟨u,rfl,t,rfl⟩:=VX r;exact PySem.P.str_of_int hz ⟨.str _,H,I.tok _,⟨_,rfl⟩,q⟩
def LenV(K:Frag)(x:V)(H:Hp)(n:Nat):Prop:=
 match x with
 |.str y=>y.length<=JY/\n=y.length
 |.byt y=>y.size<=JY/\n=y.size
 |.ref p=>(∃xs,SqL K H p xs/\n=xs.length) ∨ ∃xs,SqT K H p xs/\n=xs.length
 |_=>False
theorem OY:Zo X (.builtin "len") (λxs H Q=>∃x n,xs=[x]/\LenV X.K x H n/\Q (.int n) H):=by
 intro pins s σ H xs us Q I r h;obtain⟨x,n,rfl,e,q⟩:=h;obtain⟨u,rfl,rx⟩:=VX r;have hl:=Th;have hs:JY=16777216:=sizeLine_eq;cases x with
 |str y=>obtain⟨t,rfl⟩:=rx;obtain⟨hy,e'⟩:y.length<=JY/\n=y.length:=e;subst e';exact len_str (by omega) ⟨.int _,H,I.tok _,⟨_,rfl⟩,q⟩
 |byt y=>obtain⟨t,rfl⟩:=rx;obtain⟨hy,e'⟩:y.size<=JY/\n=y.size:=e;subst e';exact PySem.W.len_bytes (by omega) ⟨.int _,H,I.tok _,⟨_,rfl⟩,q⟩
 |ref p=>
  cases rx;have e':(∃xs,SqL X.K H p xs/\n=xs.length) ∨ ∃xs,SqT X.K H p xs/\n=xs.length:=e;rcases e' with ⟨xs,hx,e'⟩|⟨xs,hx,e'⟩
  .subst e'
   obtain⟨its,r',pl,hz⟩:=I.list hx;have hlen:=r'.length;exact Calls.call_len_list pl.isList (by simp only[QK];omega) ⟨.int xs.length,H,I.tok _,⟨_,by simp only[QK];rw[hlen]⟩,q⟩
  .subst e'
   obtain⟨its,r',pl,hz⟩:=I.tuple hx;have hlen:=r'.length;exact len_tuple pl (by simp only[QK];omega) ⟨.int xs.length,H,I.tok _,⟨_,by simp only[QK];rw[hlen]⟩,q⟩
 |_=>exact(show False from e).elim
end
structure Room(k:Nat)(A:Around):Prop where
 hd:A.handled=Ck
 dp:A.depth+3*k+5<recursionLimit
 un:A.units+16*k+200<cLine
 gd:A.guards=Ci []
theorem Room.mono{j k:Nat}{A:Around}(r:Room k A)(h:j<=k):Room j A:=⟨r.hd,by have:=r.dp;omega,by have:=r.un;omega,r.gd⟩
theorem Room.deeper{k:Nat}{A:Around}(r:Room (k+1) A)(env:Env):Room k (A.deeper env):=
 ⟨r.hd,by have:=r.dp;show A.depth+1+3*k+5<_;omega,by have:=r.un;show A.units+3+16*k+200<_;omega,r.gd⟩
theorem Room.depth{k:Nat}{A:Around}(r:Room k A):A.depth<recursionLimit:=by have:=r.dp;omega
theorem Room.units{k:Nat}{A:Around}(r:Room k A):A.units+64<cLine:=by have:=r.un;omega
def tNil:TA:=λ_ H Q=>Q [] H
def Lv(ta:TE)(tr:TA):TA:=λσ H Q=>ta σ H λx H1=>tr σ H1 λxs H2=>Q (x::xs) H2
section
variable{X:Cx}{e:JX}{es:Cr}{te:TE}{t:TA}{pos:Pos}
theorem Y3:PA X [] tNil:=λ_ _ _ _ H Q I h=>Calls.spliced_nil ⟨[],H,I,.nil,h⟩
theorem Ys(ha:PE X e te)(hr:PA X es t)(hs:J0 (e::es) X.env=(Cn,eval e X.env)::J0 es X.env:=by rfl):PA X (e::es) (Lv te t):=by intro pos pins s σ H Q I h;rw[hs];show JZ _ _ (spliced ((Cn,eval e X.env)::backTo pos (J0 es X.env))) _ _ s;refine Calls.spliced_cons (thn (ha pins s σ H _ I h) λu s1 ⟨x,H1,I1,r1,q1⟩=>?_);exact thn (hr pos pins s1 σ H1 _ I1 q1) λus s2 ⟨xs,H2,I2,r2,q2⟩=>⟨x::xs,H2,I2,.cons r1 r2,q2⟩
def tTup(t:TA):TE:=λσ H Q=>t σ H λxs H1=>xs.length<=JY/\∀p,H1 p=Ck->Q (.ref p) (upd H1 p (.tup xs))
def tLst(t:TA):TE:=λσ H Q=>t σ H λxs H1=>xs.length<=JY/\∀p,H1 p=Ck->Q (.ref p) (upd H1 p (.lst xs))
theorem Pk{x1}(h:PA X es t):PE X (.Tuple es x1 pos) (tTup t):=by intro pins s σ H Q I hq;refine wpAny_Tuple_spliced (thn (h pos pins s σ H _ I hq) λus s1 ⟨xs,H1,I1,r,z,q⟩=>⟨by rw[←r.length];exact z,?_⟩);have hf:H1 s1.heap.objs.size=Ck:=I1.hok.fresh (Qn _);refine⟨.ref s1.heap.objs.size,upd H1 s1.heap.objs.size (.tup xs),I1.laid (t':=s1.toks) (λb u e=>Qf _ e) (Qn _) ?_,rfl,q _ hf⟩;exact⟨z,us,r,⟨_,Qx _ Cj,rfl,_,rfl⟩⟩
theorem Pj(h:PA X es t):PE X (.List es pos) (tLst t):=by intro pins s σ H Q I hq;refine wpAny_List_spliced (thn (h pos pins s σ H _ I hq) λus s1 ⟨xs,H1,I1,r,z,q⟩=>⟨by rw[←r.length];exact z,?_⟩);have hf:H1 s1.heap.objs.size=Ck:=I1.hok.fresh (Qn _);refine⟨.ref s1.heap.objs.size,upd H1 s1.heap.objs.size (.lst xs),I1.laid (t':=s1.toks) (λb u e=>Qf _ e) (Qn _) ?_,rfl,q _ hf⟩;exact⟨z,us,0,r,Qx _ Cj⟩
end
abbrev Sp:=List V->Hp->VK->XK->Prop
abbrev CXT:=List Env->Hp->JT->XK->JS->JT->Prop
structure Env0(P:JU)(w:World)(K:Frag)(mg:Str->Cw)(base:Heap)(A:Around)(outer:List Env)(s:JT)(H:Hp):Prop where
 frames:A.frames=Ci outer
 mod:Mod K mg base
 bs:∀b o,base.get? b=Ci o->s.heap.get? b=Ci o/\H b=Ck
 bsz:base.objs.size<=s.heap.objs.size
 funs:s.heap.FunFrames base outer
 frf:∀b∈frs outer,H b=Ck
 hok:HOk P w H s.heap
 bare:AllBare s.gens
def CE(outer:List Env)(P:JU)(w:World)(H:Hp)(s:JT)(Q:VK)(u:JS)(s':JT):Prop:=
 ∃v H',s'.os=s.os/\AllBare s'.gens/\Un (frs outer) [] H H' s.heap s'.heap/\HOk P w H' s'.heap/\RelV v u/\Q v H'
def CR(CX:CXT)(outer:List Env)(P:JU)(w:World)(H:Hp)(s:JT)(Q:VK)(E:XK)(r:Result)(s':JT):Prop:=
 match r with
 |.ok (.ret u)=>CE outer P w H s Q u s'
 |.ok _=>False
 |.error e=>CX outer H s E e s'
structure FnOk(P:JU)(w:World)(K:Frag)(mg:Str->Cw)(base:Heap)(CX:CXT)(k:Nat)(f:JV)(fd:JW)(ps:List Str)(sp:Sp):Prop where
 len:∀vs H Q E,sp vs H Q E->vs.length=ps.length
 run:∀(A:Around)(outer:List Env)(s:JT)(H:Hp)(args:Args)(us:Cq)(vs:List V)(Q:VK)(E:XK),Room k A->Env0 P w K mg base A outer s H->BindsTo s fd args (ps.zip us)->Vals vs us->sp vs H Q E ->
  codeAny (model P w) A (.call (.ref f) args) (CR CX outer P w H s Q E) s
section
variable{X:Cx}{pins:List (JV×Obj)}{σ:St}{H:Hp}{s s':JT}
theorem Inv.env0(I:Inv X pins σ H s):Env0 X.prog X.w X.K X.mg X.base X.A X.stack s H:=
 ⟨I.ok.frames,I.ok.mod,I.bs,QJ I.ok.bsz I.sz,I.stack,I.stkFree,I.hok,I.bare⟩
theorem Inv.after{Q:VK}{u:JS}(I:Inv X pins σ H s)(h:CE X.stack X.prog X.w H s Q u s'):EP X pins σ Q u s':=by obtain⟨v,H',os,bare,un,hok,r,q⟩:=h;obtain⟨hh,g,d,t,os'⟩:=s';obtain rfl:os'=s.os:=os;exact⟨v,H',I.call (h':=hh) (g':=g) (d':=d) (t':=t) (ch:=[]) un hok bare (λb z=>absurd z (by simp)),r,q⟩
end
def Lu(sp:Sp)(dvs:List V)(E:XK)(t:TA):TE:=λσ H Q=>t σ H λvs H1=>sp (vs++dvs) H1 Q E
def YN(K:Frag)(fd:JW)(ps:List Str)(ds:Cq):Prop:=
 ∀(s:JT)(us:Cq),K.In s.heap->(us++ds).length=ps.length->BindsTo s fd ⟨us,[]⟩ (ps.zip (us++ds))
theorem YN.all{K:Frag}{fd:JW}{ps:List Str}(h:∀us:Cq,us.length=ps.length->bindArgs fd ⟨us,[]⟩=pure (ps.zip us)):YN K fd ps []:=λs us _ hl=>by rw[QY]at hl⊢;exact .of_eq (h us hl)
def Su(CX:CXT)(X:Cx)(E:XK):Prop:=∀(pins:List (JV×Obj))(σ:St)(H:Hp)(s:JT)(e:JS)(s':JT),Inv X pins σ H s->CX X.stack H s E e s'->X.xe e s'
section
variable{X:Cx}{CX:CXT}{k:Nat}{f C:JV}{fd:JW}{ps:List Str}{sp:Sp}{dvs:List V}{ds:Cq}{E:XK}{x m:Str}{p pos apos:Pos}{e o:JX}{es:Cr}{ta:TE}{t:TA}
theorem He{pins:List (JV×Obj)}{σ:St}{H:Hp}{s:JT}{Q:VK}{us:Cq}{vs:List V}(F:FnOk X.prog X.w X.K X.mg X.base CX k f fd ps sp)(hr:Room k X.A)(hb:YN X.K fd ps ds)(hd:Vals dvs ds)(hx:Su CX X E)
  (I:Inv X pins σ H s) (r:Vals vs us) (h:sp (vs++dvs) H Q E):JZ (model X.prog X.w) X.A (call (.ref f) us) (EP X pins σ Q) X.xe s:=by
 have r2:Vals (vs++dvs) (us++ds):=r.append hd;have hl:(us++ds).length=ps.length:=by rw[←r2.length];exact F.len _ _ _ _ h
 refine wpAny_call (codeAny_mono (F.run X.A X.stack s H ⟨us,[]⟩ (us++ds) (vs++dvs) Q E hr I.env0 (hb s us I.kIn hl) r2 h) λr s' hq=>?_);cases r with
 |error e=>exact hx pins σ H s e s' I hq
 |ok fl=>
  cases fl with
  |ret u=>exact I.after hq
  |next=>exact False.elim hq
  |brk=>exact False.elim hq
  |cont=>exact False.elim hq
theorem SO(F:FnOk X.prog X.w X.K X.mg X.base CX k f fd ps sp)(hr:Room k X.A)(hg:Gl X x)(hm:X.mg x=Ci (.ref f))(hk:PySem.W.keepIn X.K (.ref f)=Cm)(hb:YN X.K fd ps ds)(hd:Vals dvs ds)(hx:Su CX X E)
  (ha:PA X (e::es) t) (hdb:(x==("__debug__" : Str))=Cn:=by decide) (he:J0 (e::es) X.env=(Cn,eval e X.env)::J0 es X.env:=by rfl) (hpl:(backTo pos (J0 es X.env)).any (·.1)=Cn:=by rfl) :
  PE X (.Call (.Name x p) (e::es) [] pos) (Lu sp dvs E t):=by
 intro pins s σ H Q I h;refine wpAny_Call_Name_kw (Ol I hg hm ?_ hdb);refine PySem.W.callWith_K (h₀:=X.base) I.ok.mod.kin hk (thn (ha pos pins s σ H _ I h) λus s1 ⟨vs,H1,I1,r,q⟩=>⟨I1.kIn,?_⟩) he hpl;exact He F hr hb hd hx I1 r q
end
structure X7(N P:List Str)(sc:Scope):Prop where
 kind:sc.kind=.function
 co:sc.isCoroutine=Cn
 gen:sc.isGenerator=Cn
 nd:N.Nodup
 pre:N.take P.length=P
 par:∀x∈P,sc.names.lookup x=Ci .local∨sc.names.lookup x=Ci .cell
 nofree:∀y∈sc.names,y.2≠.free
theorem O6{kindOf:Str->Option NameKind}{x:Str}:∀{binds:List (Str×JS)}{m:Str->Cw},(∀v,(x,v)∉binds)->bindL kindOf binds m x=m x
 |[],_,_=>rfl
 |(n,v)::r,m,h=>by
  unfold bindL;rw[O6 λw hw=>h w (Qo _ hw)];split
  .have:x≠n:=by rintro rfl;exact h v Ql
   simp[this]
  .rfl
theorem O5{kindOf:Str->Option NameKind}{x:Str}:∀{binds:List (Str×JS)}{m:Str->Cw},(∀v,(x,v)∉binds)->bindC kindOf binds m x=m x
 |[],_,_=>rfl
 |(n,v)::r,m,h=>by
  unfold bindC;rw[O5 λw hw=>h w (Qo _ hw)];split
  .rfl
  .have:x≠n:=by rintro rfl;exact h v Ql
   simp[this]
theorem O4{kindOf:Str->Option NameKind}{x:Str}{v:JS}:∀{P:List Str}{vs:Cq}{i:Nat}{m:Str->Cw},P.Nodup->P[i]?=Ci x->vs[i]?=Ci v->kindOf x=Ci .local ->
  bindL kindOf (P.zip vs) m x=Ci v
 |[],_,_,_,_,h,_,_=>by simp at h
 |_::_,[],_,_,_,_,h,_=>by simp at h
 |p::P,w::vs,0,m,nd,h1,h2,hk=>by simp at h1 h2;subst h1;subst h2;show bindL kindOf ((p,w)::P.zip vs) m p=_;unfold bindL;rw[O6 λv hv=>(Jj.mp nd).1 (List.of_mem_zip hv).1,Qs hk];simp
 |p::P,w::vs,i+1,m,nd,h1,h2,hk=>by show bindL kindOf ((p,w)::P.zip vs) m x=_;unfold bindL;exact O4 (i:=i) (List.nodup_cons.mp nd).2 (by simpa using h1) (by simpa using h2) hk
theorem O3{kindOf:Str->Option NameKind}{x:Str}{v:JS}:∀{P:List Str}{vs:Cq}{i:Nat}{m:Str->Cw},P.Nodup->P[i]?=Ci x->vs[i]?=Ci v->kindOf x≠Ci .local ->
  bindC kindOf (P.zip vs) m x=Ci v
 |[],_,_,_,_,h,_,_=>by simp at h
 |_::_,[],_,_,_,_,h,_=>by simp at h
 |p::P,w::vs,0,m,nd,h1,h2,hk=>by simp at h1 h2;subst h1;subst h2;show bindC kindOf ((p,w)::P.zip vs) m p=_;unfold bindC;rw[O5 λv hv=>(Jj.mp nd).1 (List.of_mem_zip hv).1,QM hk];simp
 |p::P,w::vs,i+1,m,nd,h1,h2,hk=>by show bindC kindOf ((p,w)::P.zip vs) m x=_;unfold bindC;exact O3 (i:=i) (List.nodup_cons.mp nd).2 (by simpa using h1) (by simpa using h2) hk
def Ym(N:List Str)(vs:List V):St:=vs.map Ci++J6 (N.length-vs.length) Ck
def Zk(CX:CXT)(P:JU)(w:World)(K:Frag)(mg:Str->Cw)(base:Heap)(N:List Str)(qual:Str)(scope:Scope)(f:JV)(cd:JS)(A:Around)(outer:List Env)(s:JT)(H:Hp)(E:XK):Cx where
 prog:=P
 w:=w
 K:=K
 mg:=mg
 base:=base
 A:=A.deeper (envOfC qual scope s.heap.objs.size f cd)
 N:=N
 s₀:=s
 H₀:=H
 env:=envOfC qual scope s.heap.objs.size f cd
 outer:=outer
 stack:=envOfC qual scope s.heap.objs.size f cd::outer
 ex:=[]
 calm:=Cm
 fn:=λ_=>Cm
 pn:=[]
 xe:=λe s'=>JZ (model P w) (A.deeper (envOfC qual scope s.heap.objs.size f cd)) (leaving (envOfC qual scope s.heap.objs.size f cd) e) (λ_ s''=>CX outer H s E e s'') (λe' s''=>CX outer H s E e' s'') s'
theorem OX{sc:Scope}{n:Nat}{x:Str}(h:sc.names.lookup x=Ci .cell):∃c,(cellsFrom n sc.names []).lookup x=Ci c:=by have q:=PySem.W.cellsFrom_some sc.names n [] (.inl h);exact Option.isSome_iff_exists.mp q
theorem E3{CX:CXT}{P:JU}{w:World}{K:Frag}{mg:Str->Cw}{base:Heap}{N ps:List Str}{qual:Str}{scope:Scope}{f:JV}{cd:JS}{A:Around}{outer:List Env}{s s1:JT}{H:Hp}{E:XK}{us:Cq}{vs:List V}
  (S:X7 N ps scope) (hd:A.handled=Ck) (e0:Env0 P w K mg base A outer s H) (hl:vs.length=ps.length) (r:Vals vs us)
  (x:InCallC s s.heap.objs.size (bindL (envOfC qual scope s.heap.objs.size f cd).kindOf (ps.zip us) λ_=>Ck) (cellsFrom (s.heap.objs.size+1) scope.names []) (bindC (envOfC qual scope s.heap.objs.size f cd).kindOf (ps.zip us) λ_=>Ck) s1) :
  Inv (Zk CX P w K mg base N qual scope f cd A outer s H E) [] (Ym N vs) H s1:=by
 have hpl:ps.length<=N.length:=by have:=JQ List.length S.pre;rw[Ji]at this;omega
 obtain⟨h1,tk,rfl,hk⟩:=x.done;have noA:∀b:JV,b∉(Zk CX P w K mg base N qual scope f cd A outer s H E).ex:=λb z=>absurd (show b∈([]:Ct)from z) (by simp)
 refine⟨⟨e0.mod,S.kind,rfl,rfl,Qn _,λy z c h1 h2=>?_,λy hy=>?_,λy c _ h=>?_,λ_=>hd,Around.frames_deeper e0.frames,.inr ⟨rfl,rfl⟩,λb z=>absurd z (noA b),e0.bs,e0.bsz,λb _ _=>noA b,λb z=>absurd z (noA b),e0.funs,e0.frf⟩,
  rfl,e0.bare,Un.kept hk,⟨_,x.toInCall.ns,λi y v h1 h2 h3=>?_⟩,λy c h=>⟨_,x.cell y c h⟩,e0.hok.fresh (Nat.le_refl _),λy c h=>?_,λp hp=>absurd (show p∈([]:List (JV×Obj))from hp) (by simp),e0.hok.kept hk,?_⟩
 .exact name_of_addr x.apart (JA h1) (JA h2)
 .have hy:scope.names.lookup y=Ci .cell∨scope.names.lookup y=Ci .free:=hy
  rcases hy with hy|hy
  .exact OX hy
  .exact absurd Cj (S.nofree _ (JA hy))
 .exact Nat.le_of_lt (x.above y c (JA h))
 .have hi:i<vs.length:=by
   unfold Ym at h2;by_cases hi:i<vs.length
   .exact hi
   .rw[List.getElem?_append_right (by simpa using hi)]at h2
    rw[Qy]at h2;split at h2<;>cases h2
  have ha:vs[i]?=Ci v:=by
   unfold Ym at h2;rw[List.getElem?_append_left (by simpa using hi),List.getElem?_map]at h2;cases e:vs[i]? with
   |none=>rw[e]at h2;cases h2
   |some a=>rw[e]at h2;cases h2;rfl
  obtain⟨u,hu,rv⟩:=r.get ha;have hp:ps[i]?=Ci y:=by rw[←S.pre,List.getElem?_take_of_lt (by omega)];exact h1
  have ndP:ps.Nodup:=by rw[←S.pre];exact S.nd.sublist (List.take_sublist _ _)
  refine⟨u,rv,?_⟩;rcases S.par y (QH hp)with k|k
  .exact .inl ⟨k,O4 ndP hp hu k⟩
  .obtain⟨c,e⟩:=OX (n:=s.heap.objs.size+1) k
   refine .inr ⟨.inl k,c,e,?_⟩;have q:=x.cell y c e;rw[O3 ndP hp hu (by show scope.names.lookup y≠_;rw[k];decide)]at q;exact q
 .exact e0.hok.fresh (Nat.le_of_lt (x.above y c (JA h)))
 .unfold Ym
  show _=N.length;rw[Qj,Qd,QR];omega
theorem Lr{CX:CXT}{P:JU}{w:World}{K:Frag}{mg:Str->Cw}{base:Heap}{k:Nat}{f:JV}{name qual:Str}{params:Arguments}{body:List Stmt}{scope:Scope}{dV kV doc pm cdv ct oc:JS}{an od:CA}
  {osl:Array Cw} {N ps:List Str} {sp:Sp} (lk:K.lookup f=Ci ⟨oc,od,.func (PySem.W.fnOf name qual params body scope dV kV doc pm an cdv ct),osl⟩) (hcd:PySem.W.codeIn K cdv qual=Cm) (S:X7 N ps scope)
  (len:∀vs H Q E,sp vs H Q E->vs.length=ps.length)
  (hbody:∀(A:Around)(outer:List Env)(s:JT)(H:Hp)(vs:List V)(Q:VK)(E:XK),Room k (A.deeper (envOfC qual scope s.heap.objs.size f cdv))->sp vs H Q E ->
   ∃t,PSs (Zk CX P w K mg base N qual scope f cdv A outer s H E) body t/\t {nx:=λ_ H'=>Q .non H',rt:=Q} (Ym N vs) H) :
  FnOk P w K mg base CX (k+1) f (PySem.W.fnOf name qual params body scope dV kV doc pm an cdv ct) ps sp:=by
 refine⟨len,λA outer s H args us vs Q E hr e0 hb r BS=>?_⟩;have hl:=len _ _ _ _ BS;have KX:K.In s.heap:=e0.mod.kin.keeps λb o e=>(e0.bs b o e).1;have lim:s.heap.NoLimit:=e0.mod.nolimit.keeps λb o e=>(e0.bs b o e).1
 have hkind:∀y∈ps.zip us,scope.names.lookup y.1=Ci .local∨(scope.names.lookup y.1=Ci .cell/\((cellsFrom (s.heap.objs.size+1) scope.names []).lookup y.1).isSome=Cm):=λ⟨n,v⟩ hy=>by
  rcases S.par n (List.of_mem_zip hy).1 with q|q
  .exact .inl q
  .exact .inr ⟨q,PySem.W.cellsFrom_some _ _ _ (.inl q)⟩
 refine codeAny_call_function hr.depth (KX _ _ lk) Cj S.co S.gen Cj (PySem.W.codeRec_of KX hcd) (hb _ _ _ _ ?_);refine wpAny_newFunctionEnv_cells S.kind hkind λenv he s1 x=>?_;subst he
 refine⟨lim.keeps x.toInCall.keep,codeAny_func ?_⟩;obtain⟨t,ht,hq⟩:=hbody A outer s H vs Q E (hr.deeper _) BS;have I:Inv (Zk CX P w K mg base N qual scope f cdv A outer s H E) [] (Ym N vs) H s1:=E3 S hr.hd e0 hl r x;refine Qv (ht [] s1 (Ym N vs) H _ I hq) (λfl s' hs=>?_) λe s' hs=>hs
 have fin:∀{σ':St}{H':Hp}{v:V}{u:JS},Inv (Zk CX P w K mg base N qual scope f cdv A outer s H E) [] σ' H' s'->RelV v u->Q v H'->CE outer P w H s Q u s':=
  λ{σ' H' v u} J rv q=>⟨v,H',J.os,J.bare,J.base,J.hok,rv,q⟩
 cases fl with
 |ret u=>obtain⟨v,σ',H',J,rv,q⟩:=hs;exact fin J rv q
 |next=>obtain⟨σ',H',J,q⟩:=hs;exact fin (v:=V.non) (u:=Value.none) J Cj q
 |brk=>obtain⟨_,_,_,q⟩:=hs;exact False.elim q
 |cont=>obtain⟨_,_,_,q⟩:=hs;exact False.elim q
section
variable{X:Cx}{x:Str}{p pos:Pos}{e:JX}{es:Cr}{t:TA}{id T:String}{r:List V->Hp->VK->Prop}
def tCB(r:List V->Hp->VK->Prop)(t:TA):TE:=λσ H Q=>t σ H λvs H1=>r vs H1 Q
theorem VL(hc:Zo X (.builtin id) r)(hg:Gl X x)(hm:X.mg x=Ck)(hv:bootBuiltins x=Ci (.builtin id))(ha:PA X (e::es) t)(hn:x ≠ "__name__" :=by decide)(hdb:(x==("__debug__" : Str))=Cn:=by decide)
  (he:J0 (e::es) X.env=(Cn,eval e X.env)::J0 es X.env:=by rfl) (hpl:(backTo pos (J0 es X.env)).any (·.1)=Cn:=by rfl):PE X (.Call (.Name x p) (e::es) [] pos) (tCB r t):=by
 intro pins s σ H Q I h;refine wpAny_Call_Name_kw (X0 I hg hm hv ?_ hn hdb);exact PyProof.Rows.callWith_builtin1 (thn (ha pos pins s σ H _ I h) λus s1 ⟨vs,H1,I1,r1,q1⟩=>hc pins s1 σ H1 vs us Q I1 r1 q1) he hpl
theorem TK(hc:Zo X (.type T) r)(hg:Gl X x)(hm:X.mg x=Ck)(hv:bootBuiltins x=Ci (.type T))(ha:PA X (e::es) t)(hn:x ≠ "__name__" :=by decide)(hdb:(x==("__debug__" : Str))=Cn:=by decide)
  (he:J0 (e::es) X.env=(Cn,eval e X.env)::J0 es X.env:=by rfl) (hpl:(backTo pos (J0 es X.env)).any (·.1)=Cn:=by rfl):PE X (.Call (.Name x p) (e::es) [] pos) (tCB r t):=by
 intro pins s σ H Q I h;refine wpAny_Call_Name_kw (X0 I hg hm hv ?_ hn hdb);exact Jt (thn (ha pos pins s σ H _ I h) λus s1 ⟨vs,H1,I1,r1,q1⟩=>hc pins s1 σ H1 vs us Q I1 r1 q1) he hpl
end
end L2
namespace HT
open PySem PyProof.Rows
section
variable{prog:JU}{w:World}{A:Around}{E:JS->JT->Prop}{s:JT}
def sIx(n d:Nat):Cu->Nat
 |none=>d
 |some v=>if v<0 then(v+(n:Int)).toNat else min v.toNat n
end
end HT
namespace L2
open PySem PySem.Spec PyProof.Rows
abbrev TO:=St->Hp->(Cu->Hp->Prop)->Prop
def PO(X:Cx)(e:Option JX)(t:TO):Prop:=
 ∀(pins:List (JV×Obj))(s:JT)(σ:St)(H:Hp)(Q:Cu->Hp->Prop),Inv X pins σ H s->t σ H Q ->
  JZ (model X.prog X.w) X.A (evalPart e X.env) (λu s'=>∃o H',Inv X pins σ H' s'/\IsPart u o/\Q o H') X.xe s
def Fh:TO:=λ_ H Q=>Q Ck H
def Lq(t:TE):TO:=λσ H Q=>t σ H λx H1=>∃i,x=.int i/\Q (Ci i) H1
section
variable{X:Cx}{e:JX}{te:TE}{lo hi:Option JX}{tl th:TO}{pos p2:Pos}
theorem HW:PO X Ck Fh:=by intro pins s σ H Q I h;rw[evalPart_none];exact Qi ⟨Ck,H,I,.none,h⟩
theorem HV(h:PE X e te):PO X (Ci e) (Lq te):=by
 intro pins s σ H Q I hw;rw[evalPart_some];refine thn (h pins s σ H _ I hw) λu s1 ⟨x,H1,I1,r1,q1⟩=>?_
 obtain⟨i,rfl,q⟩:=q1;obtain⟨t,rfl⟩:=r1;exact⟨Ci i,H1,I1,.int i t,q⟩
def SlR(X:Cx)(r:V->Cu->Cu->Hp->VK->Prop):Prop:=
 ∀(pins:List (JV×Obj))(s:JT)(σ:St)(H:Hp)(x:V)(v vl vu:JS)(lo hi:Cu)(sl:JV)(Q:VK),Inv X pins σ H s->RelV x v->s.heap.IsSliceOf sl vl vu .none->IsPart vl lo->IsPart vu hi->r x lo hi H Q ->
  ∃T id,typeLookup (.type T) "__getitem__" = pure (Ci (.builtin id))/\s.TypeIs v T/\JZ (model X.prog X.w) X.A (getItem v (.ref sl)) (EP X pins σ Q) X.xe s
theorem SlR.or{r r':V->Cu->Cu->Hp->VK->Prop}(h:SlR X r)(h':SlR X r'):SlR X (λx lo hi H Q=>r x lo hi H Q∨r' x lo hi H Q):=by
 intro pins s σ H x v vl vu lo hi sl Q I rx hs pl pu q;rcases q with q|q
 .exact h pins s σ H x v vl vu lo hi sl Q I rx hs pl pu q
 .exact h' pins s σ H x v vl vu lo hi sl Q I rx hs pl pu q
def tSl(r:V->Cu->Cu->Hp->VK->Prop)(te:TE)(tl th:TO):TE:=λσ H Q=>te σ H λx H1=>tl σ H1 λl H2=>th σ H2 λu H3=>r x l u H3 Q
theorem FR{r:V->Cu->Cu->Hp->VK->Prop}(hr:SlR X r)(he:PE X e te)(hl:PO X lo tl)(hu:PO X hi th):PE X (.Subscript e (.Slice lo hi Ck p2) pos) (tSl r te tl th):=by
 intro pins s σ H Q I h;refine Subscript_ (thn (he pins s σ H _ I h) λv s1 ⟨x,H1,I1,r1,q1⟩=>?_);refine wpAny_Slice (thn (hl pins s1 σ H1 _ I1 q1) λvl s2 ⟨l,H2,I2,pl,q2⟩=>thn (hu pins s2 σ H2 _ I2 q2) λvu s3 ⟨u,H3,I3,pu,q3⟩=>?_);rw[evalPart_none];refine Qi ?_;have I4:Inv X pins σ H3 {s3 with heap:=s3.heap.push {cls:=.type "slice", data:=.fields #[vl,vu,.none]}}:=I3.kept (t':=s3.toks) λb ob q=>Qf _ q
 obtain⟨T,id,hT,ht,hg⟩:=hr pins {s3 with heap:=s3.heap.push {cls:=.type "slice", data:=.fields #[vl,vu,.none]}} σ H3 x v vl vu l u s3.heap.objs.size Q I4 r1 (Heap.IsSliceOf.new ..) pl pu q3;show JZ (model X.prog X.w) X.A (subscriptTail e (.Slice lo hi Ck p2) v (.ref s3.heap.objs.size)) (EP X pins σ Q) X.xe {s3 with heap:=s3.heap.push {cls:=.type "slice", data:=.fields #[vl,vu,.none]}};exact tail_any (ops:=[.ref s3.heap.objs.size,v]) ht hT hg (by with_unfolding_all rfl)
def Z8(xs:List V)(lo hi:Cu):List V:=(xs.drop (HT.sIx xs.length 0 lo)).take (HT.sIx xs.length xs.length hi-HT.sIx xs.length 0 lo)
theorem DD(xs:List V)(lo hi:Cu):(Z8 xs lo hi).length<=xs.length:=by unfold Z8;rw[Ji,JB];omega
end
def ixN(n:Nat)(i:Int):Option Nat:=if 0<=i then(if i<n then Ci i.toNat else Ck)else if -(n:Int)<=i then Ci (i+n).toNat else Ck
def atI{α:Type}(xs:List α)(i:Int):Option α:=(ixN xs.length i).bind λj=>xs[j]?
theorem HU{n:Nat}{i:Int}{j:Nat}(h:ixN n i=Ci j):seqIndex? i n=Ci j/\j<n /\ -(n:Int)<=i/\i<n:=by
 unfold ixN at h;by_cases h0:0<=i
 .rw[Qs h0]at h
  by_cases h1:i<n
  .rw[Qs h1]at h
   have e:i.toNat=j:=QA h;exact⟨by rw[seqIndex_of h0 h1,e],by omega,by omega,h1⟩
  .rw[QM h1]at h;cases h
 .rw[QM h0]at h
  by_cases h1 : -(n:Int)<=i
  .rw[Qs h1]at h
   have e:(i+n).toNat=j:=QA h;exact⟨by rw[seqIndex_neg (by omega) h1,e],by omega,h1,by omega⟩
  .rw[QM h1]at h;cases h
theorem SN{α:Type}{xs:List α}{i:Int}{v:α}(h:atI xs i=Ci v):∃j,seqIndex? i xs.length=Ci j/\xs[j]?=Ci v/\j<xs.length /\ -(xs.length:Int)<=i/\i<xs.length:=by
 unfold atI at h;cases e:ixN xs.length i with
 |none=>rw[e]at h;cases h
 |some j=>rw[e]at h;obtain⟨h1,h2,h3,h4⟩:=HU e;exact⟨j,h1,h,h2,h3,h4⟩
theorem Kh{α:Type}{xs:List α}{j:Nat}{v:α}(h:xs[j]?=Ci v):atI xs (j:Int)=Ci v:=by
 have hj:j<xs.length:=(Qm.mp h).1;have e:ixN xs.length (j:Int)=Ci j:=by unfold ixN;rw[if_pos (by omega),if_pos (by omega)];simp
 unfold atI;rw[e];exact h
def Ts(b:JX):Prop:=∀o i,subscripted b Cn o i=operate [o,i] (getItem o i)
def IxR(X:Cx)(r:R2):Prop:=
 ∀(value slice:JX)(pins:List (JV×Obj))(s:JT)(σ:St)(H:Hp)(x y:V)(v u:JS)(Q:VK),Inv X pins σ H s->RelV x v->RelV y u->r x y H Q ->
  subscripted slice Cn v u=operate [v,u] (getItem v u)->JZ (model X.prog X.w) X.A (subscriptTail value slice v u) (EP X pins σ Q) X.xe s
def MtR(X:Cx)(id:String)(r:V->List V->Hp->VK->Prop):Prop:=
 ∀(pins:List (JV×Obj))(s:JT)(σ:St)(H:Hp)(x:V)(xs:List V)(v:JS)(us:Cq)(Q:VK),Inv X pins σ H s->RelV x v->Vals xs us->r x xs H Q ->
  JZ (model X.prog X.w) X.A (call (.builtin id) (v::us)) (EP X pins σ Q) X.xe s
section
variable{X:Cx}{a b:JX}{ta tb:TE}{pos:Pos}
theorem IxR.or{r r':R2}(h:IxR X r)(h':IxR X r'):IxR X (λx y H Q=>r x y H Q∨r' x y H Q):=by
 intro value slice pins s σ H x y v u Q I rx ry q hs;rcases q with q|q
 .exact h value slice pins s σ H x y v u Q I rx ry q hs
 .exact h' value slice pins s σ H x y v u Q I rx ry q hs
theorem T8{r:R2}(hr:IxR X r)(ha:PE X a ta)(hb:PE X b tb)(hs:Ts b):PE X (.Subscript a b pos) (tOp r ta tb):=by intro pins s σ H Q I h;exact Subscript_ (Wy ha hb I h λv u s2 x y H2 I2 rx ry q=>hr a b pins s2 σ H2 x y v u Q I2 rx ry q (hs _ _))
def rIxL(K:Frag):R2:=λx y H Q=>∃p xs i v,x=.ref p/\y=.int i/\SqL K H p xs/\atI xs i=Ci v/\Q v H
def rIxT(K:Frag):R2:=λx y H Q=>∃p xs i v,x=.ref p/\y=.int i/\SqT K H p xs/\atI xs i=Ci v/\Q v H
def rIxS:R2:=λx y H Q=>∃z i c,x=.str z/\y=.int i/\z.length<=JY/\atI z.cps.toList i=Ci c/\Q (.str ⟨#[c]⟩) H
theorem HS:IxR X (rIxL X.K):=by
 intro value slice pins s σ H x y v u Q I rx ry h hs;obtain⟨p,xs,i,z,rfl,rfl,hq,he,q⟩:=h;cases rx;obtain⟨t,rfl⟩:=ry;obtain⟨its,r,pl,hz⟩:=I.list hq;obtain⟨j,h1,h2,h3,h4,h5⟩:=SN he;obtain⟨w,ew,BX⟩:=r.get h2;have hl:=r.length;have hn:=Th;have fin:EP X pins σ Q w s:=⟨z,H,I,BX,q⟩
 by_cases h0:0<=i
 .have hj:i.toNat=j:=by
   rw[seqIndex_of h0 h5]at h1;exact QA h1
  exact item_listR pl.isList h0 (by omega) (by rw[hj];simpa using ew) fin hs
 .have hj:(i+(its.toArray.size:Int)).toNat=j:=by
   rw[seqIndex_neg (by omega) h4]at h1;rw[QK,←hl];exact QA h1
  exact subscriptTail_builtinR (x:=w) pl.isList.typeIs slot_list_getitem.lookup
   (wpAny_getItem_list_neg (Q:=λr s'=>r=w/\EP X pins σ Q r s') pl.isList (by omega) (by rw[List.size_toArray]<;>omega) (by omega) (by rw[hj];simpa using ew) ⟨rfl,fin⟩) hs
theorem Hd:IxR X (rIxT X.K):=by
 intro value slice pins s σ H x y v u Q I rx ry h hs;obtain⟨p,xs,i,z,rfl,rfl,hq,he,q⟩:=h;cases rx;obtain⟨t,rfl⟩:=ry;obtain⟨its,r,pl,hz⟩:=I.tuple hq;obtain⟨j,h1,h2,h3,h4,h5⟩:=SN he;obtain⟨w,ew,BX⟩:=r.get h2;have hl:=r.length;have hn:=Th;have fin:EP X pins σ Q w s:=⟨z,H,I,BX,q⟩
 exact subscriptTail_builtinR (x:=w) pl.typeIs slot_tuple_getitem.lookup
  (getItem_tuple (j:=j) (Q:=λr s'=>r=w/\EP X pins σ Q r s') pl (by omega) (by omega) (by rw[List.size_toArray,←hl];exact h1) (by simpa using ew) ⟨rfl,fin⟩) hs
theorem Hc:IxR X rIxS:=by
 intro value slice pins s σ H x y v u Q I rx ry h hs;obtain⟨z,i,c,rfl,rfl,hz,he,q⟩:=h;obtain⟨t,rfl⟩:=rx;obtain⟨t',rfl⟩:=ry;obtain⟨j,h1,h2,h3,h4,h5⟩:=SN he;have hl:z.cps.toList.length=z.length:=by simp[Str.length]
 rw[hl]at h1 h4 h5;have hn:=Th;exact tail_any (typeIs_str s z t) slot_str_getitem.lookup (getItem_str (c:=c) (by have e1:decide (i < -(2 ^ 63:Int))=Cn:=Qz (by omega);have e2:decide (i ≥ 2 ^ 63)=Cn:=Qz (by omega);rw[e1,e2,Bool.or_false]) (by rw[h1];simpa using h2) ⟨.str ⟨#[c]⟩,H,I.tok _,⟨_,rfl⟩,q⟩) hs
def rIx(K:Frag):R2:=λx y H Q=>rIxL K x y H Q∨rIxT K x y H Q∨rIxS x y H Q
theorem Ss:IxR X (rIx X.K):=HS.or (Hd.or Hc)
theorem DQ(lo hi:Cu)(n:Nat):(sliceBounds lo hi Ck n).1=((HT.sIx n 0 lo:Nat):Int)/\(sliceBounds lo hi Ck n).2.1=((HT.sIx n n hi:Nat):Int)/\(sliceBounds lo hi Ck n).2.2=1:=by
 refine⟨?_,?_,rfl⟩
 .cases lo with
  |none=>simp[sliceBounds,HT.sIx]
  |some i=>
   simp only[sliceBounds,HT.sIx,Option.getD_none,show(1:Int) > 0 by decide,if_true];by_cases h:i<0
   .simp only[h,if_true]<;>omega
   .simp only[h,if_false]<;>omega
 .cases hi with
  |none=>simp[sliceBounds,HT.sIx]
  |some i=>
   simp only[sliceBounds,HT.sIx,Option.getD_none,show(1:Int) > 0 by decide,if_true];by_cases h:i<0
   .simp only[h,if_true]<;>omega
   .simp only[h,if_false]<;>omega
theorem Cb(its:Cq)(lo hi:Cu):slicePick its.toArray lo hi Ck=((its.drop (HT.sIx its.length 0 lo)).take (HT.sIx its.length its.length hi-HT.sIx its.length 0 lo)).toArray:=by obtain⟨h1,h2,h3⟩:=DQ lo hi its.toArray.size;unfold slicePick;rw[h1,h2,h3];simp only[sliceRange_one,pick_run,QK]<;>rfl
def rSlL(K:Frag):V->Cu->Cu->Hp->VK->Prop:=λx lo hi H Q=>∃a xs,x=.ref a/\SqL K H a xs/\∀p,H p=Ck->Q (.ref p) (upd H p (.lst (Z8 xs lo hi)))
theorem HR:SlR X (rSlL X.K):=by intro pins s σ H x v vl vu lo hi sl Q I rx hs pl pu h;obtain⟨a,xs,rfl,hx,q⟩:=h;cases rx;obtain⟨its,r,ht,hz⟩:=I.list hx;have hlen:=r.length;refine⟨"list", _,slot_list_getitem.lookup,ht.isList.typeIs,?_⟩;refine wpAny_getItem_list_slice ht.isList hs pl pu .none (by simp) ?_ (by rw[List.size_toArray]<;>omega);rw[Cb,←hlen];refine⟨.ref s.heap.objs.size,_,I.laid (t':=s.toks) (o:=.lst (Z8 xs lo hi)) (λb ob q=>Qf _ q) (Qn _) ?_,rfl,q _ (I.hok.fresh (Qn _))⟩;exact⟨QJ (DD xs lo hi) hz,_,0,(r.drop (HT.sIx xs.length 0 lo)).take (HT.sIx xs.length xs.length hi-HT.sIx xs.length 0 lo),Qx _ Cj⟩
theorem NG:Zo X (.type "list") (λxs H Q=>∃p ys,xs=[.ref p]/\(SqL X.K H p ys∨SqT X.K H p ys)/\∀l,H l=Ck->Q (.ref l) (upd H l (.lst ys))):=by
 intro pins s σ H xs us Q I r h;obtain⟨p,ys,rfl,hq,q⟩:=h;obtain⟨u,rfl,rx⟩:=VX r;cases rx
 have fin:∀(its:Cq),Vals ys its->ys.length<=JY->∀(h':Heap)(c':Nat),(∀b o',s.heap.get? b=Ci o'->h'.get? b=Ci o') ->
   h'.get? s.heap.objs.size=Ci {cls:=.type "list", dict:=Ck,data:=.seq its.toArray c',slots:=#[]}->EP X pins σ Q (.ref s.heap.objs.size) {s with heap:=h'}:=λits r' hz h' c' kp e=>
  ⟨.ref s.heap.objs.size,_,I.laid (t':=s.toks) kp (Qn _) (show KM X.prog X.w _ h' _ (.lst ys)from⟨hz,its,c',r',e⟩),rfl,q _ (I.hok.fresh (Qn _))⟩
 rcases hq with hq|hq
 .obtain⟨its,r',pl,hz⟩:=I.list hq
  have hlen:=r'.length;obtain⟨o,ho,hc,n,hd⟩:=pl.isList;exact call_list_seq p (.inl Cj) ho hc hd (λh' c' kp e=>fin its r' hz h' c' kp e) (by simp only[QK]<;>omega)
 .obtain⟨its,r',pl,hz⟩:=I.tuple hq
  have hlen:=r'.length;obtain⟨o,ho,hc,n,hd⟩:=pl;exact call_list_seq p (.inr Cj) ho hc hd (λh' c' kp e=>fin its r' hz h' c' kp e) (by simp only[QK]<;>omega)
theorem Ca:Zo X (.type "tuple") (λxs H Q=>∃p ys,xs=[.ref p]/\((SqL X.K H p ys/\∀l,H l=Ck->Q (.ref l) (upd H l (.tup ys)))∨(SqT X.K H p ys/\Q (.ref p) H))):=by
 intro pins s σ H xs us Q I r h;obtain⟨p,ys,rfl,h⟩:=h;obtain⟨u,rfl,rx⟩:=VX r;cases rx;rcases h with ⟨hq,q⟩|⟨hq,q⟩
 .obtain⟨its,r',pl,hz⟩:=I.list hq
  have hlen:=r'.length;refine call_tuple_list pl.isList (λh' kp=>?_) (by simp only[QK]<;>omega);have I1:Inv X pins σ H {s with heap:=h'}:=I.kept (t':=s.toks) kp
  have I2:Inv X pins σ (upd H h'.objs.size (.tup ys)) {s with heap:=h'.push {cls:=.type "tuple", data:=.seq its.toArray}}:=
   I1.laid (t':=s.toks) (λb o e=>Qf _ e) (Qn _) (show KM X.prog X.w _ _ _ (.tup ys)from⟨hz,its,r',IsTup.new _ _⟩)
  exact⟨.ref h'.objs.size,_,I2,rfl,q _ (I1.hok.fresh (Qn _))⟩
 .obtain⟨its,r',pl,hz⟩:=I.tuple hq
  exact call_tuple_same pl ⟨.ref p,H,I,rfl,q⟩
def tyV(K:Frag)(T:String)(x:V)(H:Hp):Prop:=match x with
 |.str _=>T = "str"
 |.int _=>T = "int"
 |.ref p=>(T = "list" /\ ∃xs,SqL K H p xs)∨(T = "tuple" /\ ∃o,K.lookup p=Ci o/\o.cls=.type "tuple" /\ o.dict=Ck) ∨
   (T = "dict" /\ ((∃kvs,H p=Ci (.dK kvs)) ∨ ∃kvs,H p=Ci (.dT kvs)))∨(T = "set" /\ ∃S n,H p=Ci (.set S n))
 |_=>False
theorem Pi{pins:List (JV×Obj)}{σ:St}{H:Hp}{s:JT}{T:String}{x:V}{v:JS}(I:Inv X pins σ H s)(r:RelV x v)(ty:tyV X.K T x H) :
  s.TypeIs v T/\∀a,v=.ref a->∃ob,s.heap.get? a=Ci ob/\ob.dict=Ck:=by
 cases x with
 |str z=>obtain⟨t,rfl⟩:=r;cases (show T = "str" from ty);exact⟨typeIs_str s z t,λ_ e=>nomatch e⟩
 |int i=>obtain⟨t,rfl⟩:=r;cases (show T = "int" from ty);exact⟨typeIs_int s i t,λ_ e=>nomatch e⟩
 |ref p=>
  cases r;rcases ty with ⟨rfl,xs,hq⟩|⟨rfl,o,hk,hc,hd⟩|⟨rfl,hk⟩|⟨rfl,S,n,hk⟩
  .obtain⟨its,_,pl,_⟩:=I.list hq
   refine⟨pl.isList.typeIs,λa e=>?_⟩;cases e;obtain⟨o,n,e,c,hd,_⟩:=pl;exact⟨o,e,hd⟩
  .refine⟨⟨o,I.kIn p o hk,hc⟩,λa e=>?_⟩
   cases e;exact⟨o,I.kIn _ o hk,hd⟩
  .have z:∃o,s.heap.get? p=Ci o/\o.ExactDict:=by
    rcases hk with ⟨kvs,hk⟩|⟨kvs,hk⟩
    .obtain⟨_,_,_,_,o,_,_,e,ex,_⟩:=I.hok p _ hk
     exact⟨o,e,ex⟩
    .obtain⟨_,_,_,_,o,_,_,e,ex,_⟩:=I.hok p _ hk
     exact⟨o,e,ex⟩
   obtain⟨o,e,ex⟩:=z;refine⟨⟨o,e,ex.1⟩,λa e2=>?_⟩;cases e2;exact⟨o,e,ex.2.1⟩
  .obtain⟨o,_,_,_,e,ex,_⟩:=I.hok p _ hk
   refine⟨⟨o,e,ex.1⟩,λa e2=>?_⟩;cases e2;exact⟨o,e,ex.2.1⟩
 |_=>exact False.elim ty
def tBM0(K:Frag)(T:String)(r:V->List V->Hp->VK->Prop)(to:TE):TE:=λσ H Q=>to σ H λx H1=>tyV K T x H1/\r x [] H1 Q
def tBM(K:Frag)(T:String)(r:V->List V->Hp->VK->Prop)(to:TE)(t:TA):TE:=λσ H Q=>to σ H λx H1=>tyV K T x H1/\t σ H1 λxs H2=>r x xs H2 Q
variable{o e:JX}{es:Cr}{to:TE}{t:TA}{name:Str}{apos cpos:Pos}{T id:String}{r:V->List V->Hp->VK->Prop}
theorem Hb(pa:PlainAttrs T)(slot:Slot T name id)(hty:typeOf (.builtin id)=pure (.type "method_descriptor"))(hm:MtR X id r)(ho:PE X o to)
  (hbase:attributeBase o name X.env (eval o X.env)=eval o X.env:=by rfl) (hline:(apos.endLine==cpos.line)=Cm:=by rfl):PE X (.Call (.Attribute o name apos) [] [] cpos) (tBM0 X.K T r to):=by
 intro pins s σ H Q I h;refine wpAny_Call_method0_late hbase hline (thn (ho pins s σ H _ I h) λv s1 ⟨x,H1,I1,r1,ty,q1⟩=>?_);obtain⟨h1,h2⟩:=Pi I1 r1 ty;exact⟨T,id,pa,slot,hty,h1,h2,Calls.callWith_builtin Cj (PySem.evalArgs_none (hm pins s1 σ H1 x [] v [] Q I1 r1 .nil q1))⟩
theorem T7(pa:PlainAttrs T)(slot:Slot T name id)(hty:typeOf (.builtin id)=pure (.type "method_descriptor"))(hm:MtR X id r)(ho:PE X o to)(ha:PA X (e::es) t)
  (hbase:attributeBase o name X.env (eval o X.env)=eval o X.env:=by rfl)
  (hfew:((backTo cpos (J0 (e::es) X.env)).all (λx=>!x.1)&&(backToKw cpos (keywordEach [] X.env)).all (λx=>x.1.isSome)
   && decide ((e::es).length+([]:List Keyword).length+(if([]:List Keyword).isEmpty then 0 else 1)<30))=Cm:=by rfl)
  (hline:(apos.endLine==cpos.line)=Cm:=by rfl) (hs:J0 (e::es) X.env=(Cn,eval e X.env)::J0 es X.env:=by rfl) (hplain:(backTo cpos (J0 es X.env)).any (·.1)=Cn:=by rfl) :
  PE X (.Call (.Attribute o name apos) (e::es) [] cpos) (tBM X.K T r to t):=by
 intro pins s σ H Q I h;refine wpAny_Call_method_late hbase hfew hline Cj (thn (ho pins s σ H _ I h) λv s1 ⟨x,H1,I1,r1,ty,q1⟩=>?_);obtain⟨h1,h2⟩:=Pi I1 r1 ty;refine⟨T,id,pa,slot,hty,h1,h2,?_⟩;have hA:=ha cpos pins s1 σ H1 _ I1 q1;rw[hs]at hA⊢;refine Calls.callWith_builtin (by show(Cn || (backTo cpos (J0 es X.env)).any (·.1))=Cn;rw[hplain]<;>rfl) (Calls.evalArgs_plain ?_);exact thn hA λus s2 ⟨vs,H2,I2,r2,q2⟩=>hm pins s2 σ H2 x vs v us Q I2 r1 r2 q2
end
def MtM(X:Cx)(id:String)(r:V->List V->Hp->VK->Prop):Prop:=
 ∀(pins:List (JV×Obj))(s:JT)(σ:St)(H:Hp)(x:V)(xs:List V)(v:JS)(us:Cq)(Q:VK),Inv X pins σ H s->RelV x v->Vals xs us->r x xs H Q ->
  JZ (model X.prog X.w) X.A (call (.builtin id) (v::us)) (EP X pins σ Q) X.xe s
theorem Vals.one:∀{x:V}{us:Cq},Vals [x] us->∃u,us=[u]/\RelV x u
 |_,_,.cons r .nil=>⟨_,rfl,r⟩
theorem Vals.two:∀{x y:V}{us:Cq},Vals [x,y] us->∃u v,us=[u,v]/\RelV x u/\RelV y v
 |_,_,_,.cons r (.cons q .nil)=>⟨_,_,rfl,r,q⟩
theorem Vals.zero:∀{us:Cq},Vals [] us->us=[]
 |_,.nil=>rfl
theorem Vals.reverse{xs:List V}{us:Cq}(h:Vals xs us):Vals xs.reverse us.reverse:=by
 induction h with
 |nil=>exact .nil
 |cons r t ih=>rw[Jw,Jw];exact Vals.append ih (.cons r .nil)
theorem Vals.rep{xs:List V}{us:Cq}(h:Vals xs us):∀k:Nat,Vals (J6 k xs).flatten (J6 k us).flatten
 |0=>.nil
 |k+1=>by rw[Q8,Q8,QO,QO];exact Vals.append h (Vals.rep h k)
theorem O2(its:Cq):∀(k:Nat)(acc:Cq),
  List.foldl (λx1 x2=>x1++x2) acc.toArray (J6 k its.toArray)=(acc++(J6 k its).flatten).toArray
 |0,acc=>by simp
 |k+1,acc=>by
  have e:acc.toArray++its.toArray=(acc++its).toArray:=by simp
  have e2:(acc++its)++(J6 k its).flatten=acc++(J6 (k+1) its).flatten:=by rw[Q8,QO,Jx]
  rw[←e2,←O2 its k (acc++its),←e,Q8,List.foldl_cons]
section
variable{X:Cx}{pins:List (JV×Obj)}{σ:St}{H:Hp}{s:JT}{l b:JV}{xs ys zs:List V}
theorem Inv.lset{its its':Cq}{n:Nat}{f:Array JS->Array JS}{t':Nat}(I:Inv X pins σ H s)(hH:H l=Ci (.lst xs))
  (e:s.heap.get? l=Ci {cls:=.type "list", data:=.seq its.toArray n}) (hf:f its.toArray=its'.toArray) (hv:Vals ys its') (hz:ys.length<=JY) :
  Inv X pins σ (upd H l (.lst ys)) {s with heap:=s.heap.update l (Obj.mapSeq f),toks:=t'}:=by
 have q:=PySem.IsL.update e f;rw[hf]at q;refine I.write (x:=l) (e:=l) (by rw[hH];exact trivial) (.inl Cj) (λb' u hb hu=>(Heap.get?_update_other s.heap (Obj.mapSeq f) (Ne.symm hb)).trans hu) ⟨_,q⟩ ?_;exact⟨hz,its',_,hv,q⟩
theorem Inv.lnew{its:Cq}{t':Nat}(I:Inv X pins σ H s)(hv:Vals ys its)(hz:ys.length<=JY) :
  Inv X pins σ (upd H s.heap.objs.size (.lst ys)) {s with heap:=s.heap.push {cls:=.type "list", data:=.seq its.toArray},toks:=t'}:=
 I.laid (λ_ _ q=>Qf _ q) (Qn _) ⟨hz,its,0,hv,Qx _ Cj⟩
theorem Inv.fresh(I:Inv X pins σ H s):H s.heap.objs.size=Ck:=I.hok.fresh (Qn _)
theorem Inv.lstM(I:Inv X pins σ H s)(hH:H l=Ci (.lst xs)):xs.length<=JY/\∃(its:Cq)(n:Nat),Vals xs its/\xs.length=its.length/\s.heap.get? l=Ci {cls:=.type "list", data:=.seq its.toArray n}:=by obtain⟨z,its,n,r,e⟩:=I.hok l _ hH;exact⟨z,its,n,r,r.length,e⟩
theorem FQ{n:Nat}(h:n<=JY):Builtin.List.listTooLong n=Cn:=by unfold Builtin.List.listTooLong;exact Qz (by omega)
end
section
variable{X:Cx}
def HQ:V->List V->Hp->VK->Prop:=λx vs H Q=>∃l xs y,x=.ref l/\vs=[y]/\H l=Ci (.lst xs)/\xs.length<JY/\Q .non (upd H l (.lst (xs++[y])))
theorem TJ:MtM X "list.append" HQ:=by intro pins s σ H x vs v us Q I rx rv h;obtain⟨l,xs,y,rfl,rfl,hH,hz,q⟩:=h;cases rx;obtain⟨u,rfl,ru⟩:=rv.one;obtain⟨z,its,n,r,hl,e⟩:=I.lstM hH;refine call_meets F.slot_list_append ⟨_,e,rfl⟩ F.entry_list_append (F.args_list_append_2 _ _) (PySem.list_append l its.toArray n u (by rw[QK];omega)) ⟨e,?_⟩;refine⟨.non,_,I.lset (its':=its++[u]) hH e (by simp) (r.append (.cons ru .nil)) ?_,rfl,q⟩;rw[Qj,QN];omega
def Ha:V->List V->Hp->VK->Prop:=λx vs H Q=>∃l xs,x=.ref l/\vs=[]/\H l=Ci (.lst xs)/\Q .non (upd H l (.lst []))
theorem FP:MtM X "list.clear" Ha:=by intro pins s σ H x vs v us Q I rx rv h;obtain⟨l,xs,rfl,rfl,hH,q⟩:=h;cases rx;have hus:=rv.zero;subst hus;obtain⟨z,its,n,r,hl,e⟩:=I.lstM hH;refine call_meets F.slot_list_clear ⟨_,e,rfl⟩ F.entry_list_clear (F.args_list_clear_1 _) (AutoSeq1.list_clear_list_0 l its.toArray n (by rw[QK];omega)) ⟨e,?_⟩;exact⟨.non,_,I.lset (its':=[]) (ys:=[]) hH e Cj .nil (JI _),rfl,q⟩
theorem HP{α:Type}(xs:List α)(k:Nat):(J6 k xs).flatten.length=k*xs.length:=by
 induction k with
 |zero=>simp
 |succ k ih=>rw[Q8,QO,Qj,ih,Nat.succ_mul,Nat.add_comm]
end
section
variable{prog:JU}{w:World}{A:Around}{E:JS->JT->Prop}{s:JT}
set_option maxRecDepth 100000 in
end
end L2
namespace Att
open PySem PySem.W PySem.Calls PyProof.Rows
theorem Cg{P:Params}{h:Heap}:∀(ns:Cp)(vs:Cq),WellAll P h vs (ns.map WData.int)->IntsAre vs ns:=by
 intro ns;induction ns with
 |nil=>intro vs w;rw[List.map_nil]at w;cases w;exact .nil
 |cons n ns ih=>
  intro vs w;rw[QG]at w;cases w with
  |cons a b=>cases a;exact .cons _ _ (ih _ b)
theorem E2{l:OpenLaw}{n:Nat}(hn:l.most=Ci n){P:Params}{h:Heap}{args:List WData}{vals:Cq}
  (hpre:l.row.toRowW.claim.pre args=Cm) (CI:WellAll P h vals args) :
  ∃a vs ns,vals=[Value.ref a]/\args=[WData.list (ns.map WData.int)]/\h.get? a=Ci {cls:=.type "list", data:=.seq vs.toArray}/\IntsAre vs ns/\ns.length<=n:=by
 have hsh:WShape.hasAll [] args [.list .int]=Cm:=(pre_splitW hpre).1;have hc:l.pre.holds [] {args:=args}=Cm:=(pre_splitW hpre).2;obtain⟨d,r,rfl,h1,h2⟩:=hasAllW_cons hsh;obtain rfl:=hasAllW_nil h2;obtain⟨xs,rfl,h3⟩:=hasW_list h1;obtain⟨ns,rfl⟩:=items_int h3
 have hlen:ns.length<=n:=by
  unfold OpenLaw.pre at hc;have h4:(WTm.not (.lt (.lit (.int (n:Int))) (.len (.arg 0)))).holds [] {args:=[.list (ns.map .int)]}=Cm:=by have h4:=(holds_andW hc).1;rw[hn]at h4;exact h4
  have h5:=condW_of h4 (w_not (w_lt w_lit (w_len_list (w_arg Cj))));rw[Qd]at h5;refine QP λq=>?_;have q':(n:Int)<((ns.length:Nat):Int):=by omega
  first
   |(rw[QS q']at h5;exact absurd h5 (by decide))
   |(simp at h5;omega)
 cases CI with
 |cons w1 w2=>
  cases w2;cases w1 with
  |list ho hall=>exact⟨_,_,ns,rfl,rfl,ho,Cg ns _ hall,hlen⟩
theorem E1(l:OpenLaw)(args:List WData):l.row.toRowW.claim.post args (.bool Cm) args=Cm:=
 postW_of (r:=l.row.toRowW) (X:=(Cm==Cm))
  (show WShape.has [] (.bool Cm) .bool=Cm by first|rfl|decide|simp[WShape.has,WShape.arms,WShape.armsAll])
  (show(WTm.eq .res (.lit (.bool Cm))).value [] {args:=args,res:=Ci (.bool Cm),after:=args}=Ci (.bool (Cm==Cm))from w_eq_bool (w_res Cj) w_lit) Cj
theorem attach_call{l:OpenLaw}{n:Nat}{q:JU}{loose:List Str}{XP:(Str->Cw)->Heap->Prop}{YP:World->Heap->Prop}{d:DefRec}
  (hn:l.most=Ci n) (hdf:d.params.defaults=[])
  (call:∀(w:World)(s₀ s₁:JT)(mg mb:Str->Cw)(fa:JV)(o:Obj)(pm cd doc:JS)(a:JV)(vs:Cq)(ns:Cp),
   Ground q loose [] XP w s₀ mg mb s₁.heap->YP w s₁.heap ->
   s₁.heap.get? fa=Ci o->o.data=.func (docDef d.name d.params d.body d.scope pm cd doc)->s₁.heap.CodeRec cd d.name->mg d.name=Ci (.ref fa) ->
   s₁.heap.get? a=Ci {cls:=.type "list", data:=.seq vs.toArray}->IntsAre vs ns->ns.length<=n->s₁.gens=#[] ->
   codeAny (model l.prog w) callerA (.call (.ref fa) ⟨[.ref a],[]⟩) (λr s'=>r=.ok (.ret (.bool Cm))/\OldK s₁.heap s'.heap/\s'.os=s₁.os/\AllBare s'.gens) s₁) :
  WalkO q loose XP YP l.row.toRowW d [] (λf vs=>PySem.call f vs):=by
 intro w s₀ s₁ mg mb G Y fa o pm cd doc dV kV ho hd hcd hD hmg hg args vals as hpre hlay hrd CI hlo;obtain rfl:dV=.none:=Dflts.none hD hdf;obtain rfl:kV=.none:=Dflts.noKw hD;obtain⟨a,vs,ns,rfl,rfl,hobj,hints,hlen⟩:=E2 hn hpre CI;refine enter_call (codeAny_mono (call w s₀ s₁ mg mb fa o pm cd doc a vs ns G Y ho (fd_plain hd) hcd hmg hobj hints hlen hg) λr s' hq=>?_);obtain⟨rfl,h2,h3,h4⟩:=hq;exact⟨.inl ⟨.bool Cm,.bool Cm,[],rfl,λ_=>rfl,.bool Cm,E1 l _,λ_=>⟨List.Pairwise.nil,λ_ hm=>(nomatch hm)⟩⟩,h2,h3,h4⟩
end Att
namespace L2
open PySem PySem.Spec PyProof.Rows
theorem W6:∀{vs:Cq}{ns:Cp},IntsAre vs ns->Vals (ns.map V.int) vs
 |_,_,.nil=>.nil
 |_,_,.cons n t h=>.cons ⟨t,rfl⟩ (W6 h)
def Only(H:Hp):Prop:=∀b,H b=Ck ∨ ∃o xs,H b=Ci (.frz o (.lst xs))
theorem FO{P:JU}{w:World}{K:Frag}{mg mb:Str->Cw}{CX:CXT}{k:Nat}{fa a:JV}{fd:JW}{x:Str}{sp:Sp}{s₁:JT}{vs:Cq}{ns:Cp}
  (KX:K.In s₁.heap) (hns:s₁.heap.Ns mainGlobals mg) (hb:s₁.heap.Ns builtinsNs mb) (hbb:∀x:Str,x ≠ "__name__" -> mb x=bootBuiltins x) (hlim:s₁.heap.NoLimit) (hg:s₁.gens=#[])
  (ha:s₁.heap.get? a=Ci {cls:=.type "list", data:=.seq vs.toArray}) (hi:IntsAre vs ns) (hl:ns.length<=JY) (hr:Room k callerA)
  (F:∀base:Heap,K.In base->base.Ns mainGlobals mg->FnOk P w K mg base CX k fa fd [x] sp) (hbind:∀(s:JT)(u:JS),BindsTo s fd ⟨[u],[]⟩ [(x,u)])
  (BS:∀H:Hp,Only H->SqL K H a (ns.map V.int)->sp [.ref a] H (λv _=>v=.bl Cm) λ_ _ _=>False)
  (hCX:∀H e s',CX [] H s₁ (λ_ _ _=>False) e s'->False) :
  codeAny (model P w) callerA (.call (.ref fa) ⟨[.ref a],[]⟩) (λr s'=>r=.ok (.ret (.bool Cm))/\OldK s₁.heap s'.heap/\s'.os=s₁.os/\AllBare s'.gens) s₁:=by
 have rv:=W6 hi;have lenV:=hi.length
 have core:∀H:Hp,Only H->SqL K H a (ns.map V.int)->HOk P w H s₁.heap->(∀b,H b≠Ck->b=a)->(H a≠Ck->K.lookup a=Ck) ->
   codeAny (model P w) callerA (.call (.ref fa) ⟨[.ref a],[]⟩) (λr s'=>r=.ok (.ret (.bool Cm))/\OldK s₁.heap s'.heap/\s'.os=s₁.os/\AllBare s'.gens) s₁:=by
  intro H hO hS hok hA hK;have base_of:∀{b:JV}{o:Obj},s₁.heap.get? b=Ci o->H b=Ck->(Zj s₁.heap H).get? b=Ci o:=λe n=>FW e n
  have noA:∀{b:JV}{o:Obj}{es:Array DictEntry}{ep:Nat},s₁.heap.get? b=Ci o->o.data=.dict es ep->H b=Ck:=λ{b o es ep} e d=>by
   cases q:H b with
   |none=>rfl
   |some u=>have e':b=a:=hA b (by rw[q];simp);subst e';rw[ha]at e;cases e;have d':Data.seq vs.toArray _=Data.dict es ep:=d;cases d'
  have nsK:∀{b:JV}{m:Str->Cw},s₁.heap.Ns b m->(Zj s₁.heap H).Ns b m:=λ{b m} ⟨o,es,ep,e,d,r⟩=>⟨o,es,ep,base_of e (noA e d),d,r⟩
  have hKb:K.In (Zj s₁.heap H):=λb o e=>base_of (KX b o e) (by
   cases q:H b with
   |none=>rfl
   |some u=>have e':b=a:=hA b (by rw[q];simp);subst e';rw[hK (by rw[q];simp)]at e;cases e)
  have hM:Mod K mg (Zj s₁.heap H):=⟨hKb,nsK hns,⟨mb,nsK hb,hbb⟩,let ⟨mc,h1,h2⟩:=hlim;⟨mc,nsK h1,h2⟩⟩
  have e0:Env0 P w K mg (Zj s₁.heap H) callerA [] s₁ H:=⟨rfl,hM,λb o e=>Fn e,Nat.le_of_eq (EA _ _),trivial,λb hb=>absurd (show b∈([]:Ct)from hb) (by simp),hok,.of_eq hg⟩
  refine codeAny_mono ((F _ hKb (nsK hns)).run callerA [] s₁ H ⟨[.ref a],[]⟩ [.ref a] [.ref a] _ _ hr e0 (hbind s₁ (.ref a)) (.cons Cj .nil) (BS H hO hS)) λr s' h=>?_
  cases r with
  |error e=>exact(hCX H e s' h).elim
  |ok fl=>
   cases fl with
   |next=>exact False.elim h
   |brk=>exact False.elim h
   |cont=>exact False.elim h
   |ret u=>
    obtain⟨v,H',os,bare,un,hok',r',q⟩:=h;have q':v=.bl Cm:=q;subst q';obtain rfl:u=Value.bool Cm:=r';refine⟨rfl,OldK.of_keep λb o e=>?_,os,bare⟩;cases q:H b with
    |none=>exact un.keep b o e q (by intro z;exact absurd (show b∈([]:Ct)from z) (by simp)) (by simp)
    |some u=>
     rcases hO b with z|⟨ob,xs,z⟩
     .rw[q]at z;cases z
     .have z2:=un.frzs b ob _ z
      obtain⟨e1,_⟩:=hok b _ z;obtain⟨e2,_⟩:=hok' b _ z2;rw[e]at e1;cases e1;exact e2
 cases hk:K.lookup a with
 |some o=>have e:=KX a o hk;rw[ha]at e;cases e;refine core (λ_=>Ck) (λ_=>.inl Cj) (.inr ⟨_,vs.toArray,_,hk,rfl,rfl,rfl,by rw[List.size_toArray,lenV];exact hl,by simpa using rv⟩) (λb u z=>by have z':(none:Option HO)=Ci u:=z;cases z') (λb z=>absurd Cj z) λz=>absurd Cj z
 |none=>
  refine core (λb=>if b=a then Ci (.frz {cls:=.type "list", data:=.seq vs.toArray} (.lst (ns.map V.int)))else Ck) (λb=>?_) (.inl (.inr ⟨{cls:=.type "list", data:=.seq vs.toArray},Qs Cj⟩)) (λb u z=>?_) (λb z=>?_) λ_=>hk
  .by_cases hb:b=a
   .exact .inr ⟨_,_,Qs hb⟩
   .exact .inl (QM hb)
  .by_cases hb:b=a
   .have z':=(Qs hb).symm.trans z
    cases z';subst hb;exact⟨ha,by rw[Qd];exact hl,vs,_,rv,ha⟩
   .have z':=(QM hb).symm.trans z
    cases z'
  .by_cases hb:b=a
   .exact hb
   .exact absurd (QM hb) z
def XG(s:Stmt):Arguments:=match s with
 |.FunctionDef _ a _ _ _ _ _ _ _ _=>a
 |_=>{posonlyargs:=[],args:=[],vararg:=Ck,kwonlyargs:=[],kw_defaults:=[],kwarg:=Ck,defaults:=[]}
def Yk(s:Stmt):List Stmt:=match s with
 |.FunctionDef _ _ b _ _ _ _ _ _ _=>b
 |_=>[]
def Kj(s:Stmt):Scope:=match s with
 |.FunctionDef _ _ _ _ _ _ sc _ _ _=>sc
 |_=>{kind:=.function,names:=[],isGenerator:=Cn,isCoroutine:=Cn}
abbrev CX0:CXT:=λ_ _ _ _ _ _=>False
abbrev E0:XK:=λ_ _ _=>False
theorem T6{X:Cx}:Su CX0 X E0:=λ_ _ _ _ _ _ _ h=>h.elim
structure Fun(K:Frag)(x qual:Str)(st:Stmt)(f:JV)(fd:JW):Prop where
 ex:∃(oc:JS)(od:CA)(kV doc pm:JS)(an:CA)(cdv ct:JS)(osl:Array Cw),
  fd=PySem.W.fnOf x qual (XG st) (Yk st) (Kj st) .none kV doc pm an cdv ct/\K.lookup f=Ci ⟨oc,od,.func fd,osl⟩/\PySem.W.codeIn K cdv qual=Cm
 kp:PySem.W.keepIn K (.ref f)=Cm
section
variable{P:JU}{w:World}{K:Frag}{mg:Str->Cw}{base:Heap}
theorem Fun.ok{x qual:Str}{st:Stmt}{f:JV}{fd:JW}{N ps:List Str}{k:Nat}{sp:Sp}(F:Fun K x qual st f fd)(S:X7 N ps (Kj st))(len:∀vs H Q E,sp vs H Q E->vs.length=ps.length)
  (hbody:∀(cdv:JS)(A:Around)(outer:List Env)(s:JT)(H:Hp)(vs:List V)(Q:VK)(E:XK),Room k (A.deeper (envOfC qual (Kj st) s.heap.objs.size f cdv))->sp vs H Q E ->
   ∃t,PSs (Zk CX0 P w K mg base N qual (Kj st) f cdv A outer s H E).nox (Yk st) t/\t {nx:=λ_ H'=>Q .non H',rt:=Q} (Ym N vs) H):FnOk P w K mg base CX0 (k+1) f fd ps sp:=by
 obtain⟨oc,od,kV,doc,pm,an,cdv,ct,osl,rfl,lk,hcd⟩:=F.ex;refine Lr lk hcd S len λA outer s H vs Q E hr BS=>?_
 obtain⟨t,h,q⟩:=hbody cdv A outer s H vs Q E hr BS;exact⟨t,h.nox,q⟩
theorem Fun.binds{x qual:Str}{st:Stmt}{f:JV}{fd:JW}{ps:List Str}(F:Fun K x qual st f fd)
  (h:∀(kV doc pm:JS)(an:CA)(cdv ct:JS)(us:Cq),us.length=ps.length->bindArgs (PySem.W.fnOf x qual (XG st) (Yk st) (Kj st) .none kV doc pm an cdv ct) ⟨us,[]⟩=pure (ps.zip us)):YN K fd ps []:=by
 obtain⟨oc,od,kV,doc,pm,an,cdv,ct,osl,rfl,lk,hcd⟩:=F.ex;exact .all (h kV doc pm an cdv ct)
end
def Same(H H':Hp):Prop:=∀b o,H b=Ci o->H' b=Ci o
theorem Same.refl(H:Hp):Same H H:=λ_ _ h=>h
theorem Same.trans{H H1 H2:Hp}(a:Same H H1)(b:Same H1 H2):Same H H2:=λc o h=>b c o (a c o h)
theorem Same.free{H H':Hp}(e:Same H H'){l:JV}(h:H' l=Option.none):H l=Option.none:=by
 cases q:H l with
 |none=>rfl
 |some o=>rw[e l o q]at h;cases h
theorem Same.seq{K:Frag}{H H':Hp}{a:JV}{xs:List V}(e:Same H H')(h:SqL K H a xs):SqL K H' a xs:=by
 rcases h with (h|⟨o,h⟩)|h
 .exact .inl (.inl (e _ _ h))
 .exact .inl (.inr ⟨o,e _ _ h⟩)
 .exact .inr h
section
variable{X:Cx}{pins:List (JV×Obj)}{σ:St}{H:Hp}{s:JT}{h':Heap}
theorem Inv.turnedNew{t':Nat}{fp:Ct}{p:JV}{o:HO}(I:Inv X pins σ H s)(hf:∀b∈fp,U8 X pins H b)
  (k:∀b o,b∉fp->s.heap.get? b=Ci o->h'.get? b=Ci o) (hp:s.heap.objs.size<=p) (new:KM X.prog X.w (upd H p o) h' p o) :
  Inv X pins σ (upd H p o) {s with heap:=h',toks:=t'}:=by
 have hn:H p=Ck:=I.hok.fresh hp;have trk:∀b u,H b=Ci u->b∉fp:=λb u e z=>by rw[(hf b z).1]at e;cases e
 refine I.step (g':=s.gens) (d':=s.drawn) (ch:=fp) (λb hb=>?_) (λb o _ _ hc e _=>k b o hc e) (λb o _ _ hc e _=>⟨o.slots,k b o hc e⟩)
  (λb o _ e n=>by rw[US (QE (QD (Qh e) hp))];exact n) (λb o hc e=>⟨o,k b o hc e⟩)
  (λb xs e=>by rw[US (Zm e hn)];exact e) (λb ob u e=>by rw[US (Zm e hn)];exact e) (λb ps e=>⟨#[],by rw[US (Zm e hn),e];simp⟩)
  (λm hm=>?_) (λb u e=>?_) I.bare
 .obtain⟨_,f1,_,f3,f4,f5⟩:=hf b hb
  exact⟨f3,f1,f4,f5⟩
 .obtain⟨ob,es,ep,ho,r⟩:=hm
  exact⟨ob,es,ep,k _ ob (λz=>(hf _ z).2.1 Cj) ho,r⟩
 .by_cases hb:b=p
  .subst hb;rw[Kk]at e;cases e;exact new
  .rw[US hb]at e
   refine(I.hok b u e).stay (λc v hc q=>k c v ?_ q) (λc q=>by rw[US (Zm q hn)];exact q) λc xs q=>by rw[US (Zm q hn)];exact q
   rcases hc with z|z
   .rw[z];exact trk b u e
   .exact trk c _ z
theorem Inv.turnedL{t':Nat}{fp:Ct}(I:Inv X pins σ H s)(hf:∀b∈fp,U8 X pins H b)
  (k:∀b o,b∉fp->s.heap.get? b=Ci o->h'.get? b=Ci o):Inv X pins σ H {s with heap:=h',toks:=t'}:=by
 have trk:∀b u,H b=Ci u->b∉fp:=λb u e z=>by rw[(hf b z).1]at e;cases e
 refine I.step (g':=s.gens) (d':=s.drawn) (ch:=fp) (λb hb=>?_) (λb o _ _ hc e _=>k b o hc e) (λb o _ _ hc e _=>⟨o.slots,k b o hc e⟩)
  (λ_ _ _ _ n=>n) (λb o hc e=>⟨o,k b o hc e⟩) (λ_ _ e=>e) (λ_ _ _ e=>e) (λb ps e=>⟨#[],by rw[e];simp⟩) (λm hm=>?_) (λb u e=>?_) I.bare
 .obtain⟨_,f1,_,f3,f4,f5⟩:=hf b hb
  exact⟨f3,f1,f4,f5⟩
 .obtain⟨ob,es,ep,ho,r⟩:=hm
  exact⟨ob,es,ep,k _ ob (λz=>(hf _ z).2.1 Cj) ho,r⟩
 .refine(I.hok b u e).stay (λc v hc q=>k c v ?_ q) (λc q=>q) λc xs q=>q
  rcases hc with z|z
  .rw[z];exact trk b u e
  .exact trk c _ z
end
def Ite(K:Frag)(a:JV):It:=
 ⟨λi H=>∃xs x,SqL K H a xs/\xs[i]?=Ci x,
  λi H v H'=>∃p x,H p=Ck/\v=.ref p/\(∀xs,SqL K H a xs->xs[i]?=Ci x)/\H'=upd H p (.tup [.int i,x]),
  λi H=>∃xs,SqL K H a xs/\xs.length<=i⟩
theorem EZ{P:JU}{w:World}{K:Frag}{elts:Cr}{x1}{tp:Pos}(a e it:JV)(hne:e≠it) :
  Turn P w K (.Tuple elts x1 tp) (Ite K a) [e,it] e (λi h=>(∃old,IsEnum h e it i old)/\h.IsListIter it a i) where
 mem:=by simp
 obj:=λi h st b hb=>by
  obtain⟨⟨old,he⟩,o,ho,c,d⟩:=st;have hb':b=e∨b=it:=by simpa using hb
  rcases hb' with rfl|rfl
  .exact⟨_,he,λv z=>by have z':Data.fields _=Data.cell v:=z;cases z'⟩
  .exact⟨o,ho,λv z=>by rw[d]at z;cases z⟩
 keep:=λi h h' st k=>by obtain⟨⟨old,he⟩,hi⟩:=st;exact⟨⟨old,k e (by simp) _ he⟩,hi.at λo q=>k it (by simp) o q⟩
 item:=by
  intro X hP hw hK hc i pins s σ H E I hf st hg;subst hP hw hK;obtain⟨⟨old,he⟩,hi⟩:=st;obtain⟨xs,x,hq,hx⟩:=hg;obtain⟨its,rv,p,hz⟩:=I.list hq;obtain⟨u,hu,ru⟩:=rv.get hx;refine wpAny_pyNext_enum_item he hi p.isList (x:=u) (by simpa using hu) hne λh1 out hi1 ht hsz kk=>?_
  refine⟨_,rfl,wpAny_letOwnedTupleGo_enum out λh2 Bj hs2=>?_⟩;have hel:e<s.heap.objs.size:=Qh he;have CU:Heap.SameBut e h1 h2:=hs2;have ht2:h2.get? s.heap.objs.size=Ci {cls:=.type "tuple", data:=.seq #[.int i s.toks,u]}:=(CU.2 _ (Js hel)).trans ht
  have kk2:∀b o,b∉[e,it]->s.heap.get? b=Ci o->h2.get? b=Ci o:=λb o hb q=>by
   have C7:b≠e:=λz=>hb (by simp[z])
   have hbi:b≠it:=λz=>hb (by simp[z])
   exact(CU.2 b C7).trans (kk b o C7 hbi q)
  have hn:H s.heap.objs.size=Ck:=I.hok.fresh (Qn _)
  have I2:Inv X pins σ (upd H s.heap.objs.size (.tup [.int i,x])) {s with heap:=h2,toks:=s.toks+1}:=
   I.turnedNew (fp:=[e,it]) hf kk2 (Qn _) ⟨by show 2<=JY;decide,[.int i s.toks,u],.cons ⟨_,rfl⟩ (.cons ru .nil),⟨_,ht2,rfl,_,rfl⟩⟩
  refine⟨.ref s.heap.objs.size,_,I2,rfl,⟨_,x,hn,rfl,λys hy=>by rw[I.list_inj hy hq];exact hx,rfl⟩,⟨⟨u,?_⟩,?_⟩,λb hb=>?_⟩
  .have:=Bj
   simpa using this
  .have hi2:h2.IsListIter it a (i+1):=hi1.at λo q=>(CU.2 it (Ne.symm hne)).trans q
   exact hi2
  .have fr:=(hf b hb)
   have hlt:b<s.heap.objs.size:=by
    have hb':b=e∨b=it:=by simpa using hb
    rcases hb' with rfl|rfl
    .exact hel
    .obtain⟨o,ho,_⟩:=hi;exact Qh ho
   rw[US (QE hlt)];exact fr.1
 done:=by intro X hP hw hK hc i pins s σ H E I hf st hg;subst hP hw hK;obtain⟨⟨old,he⟩,hi⟩:=st;obtain⟨xs,hq,hx⟩:=hg;obtain⟨its,rv,p,hz⟩:=I.list hq;have hl:=rv.length;exact wpAny_pyNext_enum_end (I.ok.hd hc) he hi p.isList (by simp;omega) λh' eb=>⟨rfl,I.turnedL (t':=s.toks) hf λb o hb q=>eb b o (λz=>hb (by simp[z])) q⟩
 self:=λ_ _ _ _ _ st h=>by obtain⟨⟨old,he⟩,_⟩:=st;exact wpAny_pyIter_enum he h
section
variable{X:Cx}
def Lp(K:Frag)(ta:TA):TI:=λσ H R=>ta σ H λvs H1=>∃a xs,vs=[.ref a]/\SqL K H1 a xs/\R (Ite K a) H1
theorem HN{a:JX}{ta:TA}{p pos:Pos}{elts:Cr}{x1}{tp:Pos}(hg:Gl X "enumerate")(hm:X.mg "enumerate" = Ck)(ha:PA X [a] ta)
  (hs:J0 [a] X.env=[(Cn,eval a X.env)]:=by rfl):PI X (.Tuple elts x1 tp) (.Call (.Name "enumerate" p) [a] [] pos) (Lp X.K ta):=by
 intro pins s σ H R I h;refine Call_ (X0 I hg hm boot_enumerate (Jt (thn (ha pos pins s σ H _ I h) λus s1 ⟨vs,H1,I1,r1,q1⟩=>?_) hs Cj));obtain⟨l,xs,e,hq,q⟩:=q1;subst e;cases r1 with
 |cons r rr=>
  cases rr;cases (show _=Value.ref l from r);obtain⟨its,rv,pl,hz⟩:=I1.list hq;refine call_enumerate_list pl.isList λh' he hi hsz kk=>?_;have I2:Inv X pins σ H1 {s1 with heap:=h'}:=I1.kept (t':=s1.toks) kk;refine wpAny_pyIter_enum he ?_
  refine⟨s1.heap.objs.size+1,[s1.heap.objs.size+1,s1.heap.objs.size],_,_,H1,rfl,I2,EZ l _ _ (Nat.succ_ne_self _),⟨⟨_,he⟩,hi⟩,λb hb=>?_,q⟩;have hb':b=s1.heap.objs.size+1∨b=s1.heap.objs.size:=by simpa using hb
  rcases hb' with rfl|rfl
  .exact I1.fpOk (JE _) (I1.hok.fresh (JE _))
  .exact I1.fpOk (Qn _) (I1.hok.fresh (Qn _))
end
end L2
namespace L2
open PySem PySem.Spec
def ZQ(bmB bm:Cq):Prop:=∀(X:String)(b:Bool),bmB.contains (.type X)=b->bm.contains (.type X)=b
def K1(M:Model)(C:JV)(name:Str)(r:Cw)(h:Heap):Prop:=∀(A:Around)(E:JS->JT->Prop)(Q:Cw->JT->Prop)(h':Heap)(g:Array GenState)(d:Drawn)(t:Nat)(os:OsState),
 (∀b o,h.get? b=Ci o->h'.get? b=Ci o)->Q r ⟨h',g,d,t,os⟩->JZ M A (typeLookup (.ref C) name) Q E ⟨h',g,d,t,os⟩
theorem K1.keeps{M:Model}{C:JV}{name:Str}{r:Cw}{h h':Heap}(x:K1 M C name r h)(k:∀b o,h.get? b=Ci o->h'.get? b=Ci o):K1 M C name r h':=
 λA E Q h2 g d t os k2 q=>x A E Q h2 g d t os (λb o e=>k2 b o (k b o e)) q
theorem K1.at{M:Model}{A:Around}{E:JS->JT->Prop}{Q:Cw->JT->Prop}{C:JV}{name:Str}{r:Cw}{h:Heap}{g:Array GenState}{d:Drawn}{t:Nat}{os:OsState}(x:K1 M C name r h)(q:Q r ⟨h,g,d,t,os⟩):JZ M A (typeLookup (.ref C) name) Q E ⟨h,g,d,t,os⟩:=
 x A E Q h g d t os (λ_ _ e=>e) q
section
variable{prog:JU}{w:World}{A:Around}{E:JS->JT->Prop}{h:Heap}{g:Array GenState}{d:Drawn}{t:Nat}{os:OsState}{R:Result->JT->Prop}
variable{nm q:Str}{C N x:JV}{bs bm bmB:Cq}{hdct:Bool}{sn:List Str}{sub:Cq}{ab:Bool}{col:Cy}{dd:CA}{k0 k1 k2 k3 k5:Cw}{B newId sa owner:String}{mN mA:Str->Cw}{name:Str}{v:JS}
theorem EY{M:Model}{o:Obj}{nameV:JS}{Q:Unit->JT->Prop}(T:ZQ bmB bm)(hb:bmB.contains (.type "BaseException")=Cm)(hC:h.get? C=Ci (excClassObj nm q C N bs bm hdct sn sub ab col dd k0 k1 k2 k3 k5 newId))
  (hx:h.get? x=Ci o) (hc:o.cls=.ref C) (hq:Q () ⟨h,g,d,t,os⟩):JZ M A (checkBuiltinCall "BaseException.__getattribute__" ⟨[.ref x,nameV],[]⟩) Q E ⟨h,g,d,t,os⟩:=by
 have hk:builtinKind "BaseException.__getattribute__" = Ci .slot:=by decide +kernel
 have hsplit:splitId "BaseException.__getattribute__" = Ci ("BaseException", "__getattribute__"):=by decide +kernel
 have hcB:(Value.ref C::bm).contains (.type "BaseException")=Cm:=by rw[List.contains_cons,T _ _ hb];rfl
 have ha:=PySem.F.args_bexc_ga (.ref x) nameV;simp only[checkBuiltinCall,hk,hsplit];refine Qb ?_
 .unfold isInstance
  repeat (first|(with_reducible refine QF hx ?_;rw[hc])|(with_reducible refine Jd hC ?_;rw[hcB])|wp_step)
  exact hq
end
end L2
namespace L2
open PySem PySem.Spec PyProof.Rows PySem.Calls PyProof.V
def XO(fr:Bool)(e C:JV)(dd:CA):Heap->Prop:=λh=>∃vs sl,h.get? e=Ci {cls:=.ref C,dict:=dd,data:=.fields vs,slots:=sl}/\(fr=Cm->vs[1]?=Ci .none/\∃t0,vs[0]?=Ci (.ref t0))
abbrev VB:Cq:=[.type "ValueError", .type "Exception", .type "BaseException", .type "object"]
structure XCls(M:Model)(base:Heap)(C:JV)(bm:Cq)(fI:JV):Prop where
 obj:∃nm q N bs sn sub ab col dd k0 k1 k2 k3 k5,base.get? C=Ci (excClassObj nm q C N bs bm Cm sn sub ab col dd k0 k1 k2 k3 k5 "ValueError.__new__")
 tail:ZQ VB bm
 init:K1 M C "__init__" (Ci (.ref fI)) base
 fn:∃o,base.get? fI=Ci o/\o.cls=.type "function"
 sa:K1 M C "__setattr__" (Ci (.builtin "object.__setattr__")) base
 ga:K1 M C "__getattribute__" (Ci (.builtin "BaseException.__getattribute__")) base
 gh:K1 M C "__getattr__" none base
 cl:K1 M C "__class__" (Ci (.builtin "object.__class__")) base
 pass:∀v,refuseLoop v "__setattr__" bm=pure ()
def XD(dx:JV)(fs:List (Str×V)):Heap->Prop:=λh=>∃mA,h.Ns1 dx mA/\h.ExactDictFk dx/\(∀f,Wz (fs.lookup f) (mA f))/\PySem.Within mA (fs.map (·.1))
end L2
namespace L2
open PySem PySem.Spec
section
variable{prog:JU}{w:World}{A:Around}{E:JS->JT->Prop}{h:Heap}{g:Array GenState}{d:Drawn}{t:Nat}{os:OsState}{R:Result->JT->Prop}
variable{nm q:Str}{C N a:JV}{bs bm bmB:Cq}{hdct:Bool}{sn:List Str}{sub:Cq}{ab:Bool}{col:Cy}{dd:CA}{k0 k1 k2 k3 k5:Cw}{newId:String}{o:Obj}
theorem Df(T:ZQ bmB bm)(ho:bmB.contains (.type "object")=Cm)(hC:h.get? C=Ci (excClassObj nm q C N bs bm hdct sn sub ab col dd k0 k1 k2 k3 k5 newId))(hx:h.get? a=Ci o)(hc:o.cls=.ref C)(hq:R (.ok (.ret (.ref C))) ⟨h,g,d,t,os⟩) :
  codeAny (model prog w) A (.call (.builtin "getset_descriptor.__get__") ⟨[.builtin "object.__class__", .ref a,.ref C],[]⟩) R ⟨h,g,d,t,os⟩:=by
 have hT5:(⟨h,g,d,t,os⟩:JT).TypeIs (.builtin "object.__class__") "getset_descriptor" :=PySem.F.typeOf_object_class;have hcB:(Value.ref C::bm).contains (.type (".".intercalate ("object.__class__".cutAt '.').dropLast))=Cm:=by rw[PySem.F.owner_object_class,List.contains_cons,T _ _ ho];rfl
 refine codeAny_call_builtin PySem.F.slot_gs_get.plain PySem.F.entry_gs_get (PySem.F.slot_gs_get.check _ _ _ _ _ _ _ _ hT5 (PySem.F.args_gs_get _ _ _) ?_)
 repeat (any_goals (first|assumption|(with_reducible refine QF hx ?_;rw[hc])|(with_reducible refine Jd hC ?_;rw[hcB])|wp_step))
 refine⟨Code.quiet_builtin _ (by decide +kernel),codeAny_builtin PySem.F.entry_object_class ?_⟩;unfold Builtin.«object.__class__»
 repeat (any_goals (first|assumption|(with_reducible refine QF hx ?_;rw[hc])|wp_step))
theorem DP{tk:Tok}{Q:PySem.Fin->JT->Prop}(T:ZQ bmB bm)(ho:bmB.contains (.type "object")=Cm)(hC:h.get? C=Ci (excClassObj nm q C N bs bm hdct sn sub ab col dd k0 k1 k2 k3 k5 newId))(fc:K1 (model prog w) C "__class__" (Ci (.builtin "object.__class__")) h)(hx:h.get? a=Ci o)(hc:o.cls=.ref C)(hq:Q (.done (.ret (.ref C))) ⟨h,g,d,t,os⟩) :
  JZ (model prog w) A (Builtin.«object.__getattribute__» ⟨[.ref a,.str "__class__" tk],[]⟩) Q E ⟨h,g,d,t,os⟩:=by
 have hT5:(⟨h,g,d,t,os⟩:JT).TypeIs (.builtin "object.__class__") "getset_descriptor" :=PySem.F.typeOf_object_class;have f5:=PySem.F.typeOf_object_class;have f6:=PySem.F.slot_gs_get.lookup;have f7:=PySem.F.slot_gs_set.lookup
 repeat (any_goals (first|assumption|(with_reducible refine QF hx ?_;rw[hc])|with_reducible refine fc.at ?_|wp_step))
 refine Df T ho hC hx hc ?_
 repeat (any_goals (first|assumption|wp_step))
theorem NM{Q:Cw->JT->Prop}(FB:ExcAttrFacts "ValueError")(T:ZQ VB bm)(hC:h.get? C=Ci (excClassObj nm q C N bs bm hdct sn sub ab col dd k0 k1 k2 k3 k5 newId))(fc:K1 (model prog w) C "__class__" (Ci (.builtin "object.__class__")) h)
  (fg:K1 (model prog w) C "__getattribute__" (Ci (.builtin "BaseException.__getattribute__")) h) (fa:K1 (model prog w) C "__getattr__" none h) (hx:h.get? a=Ci o) (hc:o.cls=.ref C) (hq:Q (Ci (.ref C)) ⟨h,g,d,t+1,os⟩) :
  JZ (model prog w) A (getAttr? (.ref a) "__class__") Q E ⟨h,g,d,t,os⟩:=by
 have f3:=FB.ga.bind (.ref a);have hx0:(Cn&&onTheHeap (Value.builtin "BaseException.__getattribute__"))=Cn:=rfl;have hx2:(Value.builtin "BaseException.__getattribute__" == Value.builtin "object.__getattribute__")=Cn:=by decide +kernel
 have hx1:(onTheHeap (Value.ref C)&&Value.builtin "BaseException.__getattribute__" == Value.builtin "object.__getattribute__")=Cn:=by rw[hx2];rfl
 unfold getAttr? getAttrBy?;refine Qb (wpAny_mkText (Qb (wpAny_attempt ?_)))
 repeat (any_goals (first|assumption|(with_reducible refine QF hx ?_;rw[hc])|with_reducible refine fg.at ?_|with_reducible refine fa.at ?_|wp_step))
 refine codeAny_call_builtin FB.ga.plain PySem.F.entry_bexc_ga (EY T Cj hC hx hc (DP T Cj hC fc hx hc ?_))
 repeat (any_goals (first|assumption|wp_step))
end
end L2
namespace L2
open PySem PySem.Spec PyProof.Rows
section
variable{prog:JU}{w:World}{A:Around}{E:JS->JT->Prop}{h:Heap}{g:Array GenState}{d:Drawn}{t:Nat}{os:OsState}
variable{nm q nm' q':Str}{C N D N' a:JV}{bs bm bs' bm':Cq}{hdct Bw:Bool}{sn sn':List Str}{sub sub':Cq}{ab ab':Bool}{col col':Cy}{dd dd':CA}{k0 k1 k2 k3 k5 j0 j1 j2 j3 j5:Cw}{newId newId':String}{o:Obj}{b:Bool}
theorem HM{Q:JS->JT->Prop}(T:ZQ VB bm)(hC:h.get? C=Ci (excClassObj nm q C N bs bm hdct sn sub ab col dd k0 k1 k2 k3 k5 newId))(hD:h.get? D=Ci (excClassObj nm' q' D N' bs' bm' Bw sn' sub' ab' col' dd' j0 j1 j2 j3 j5 newId'))
  (fc:K1 (model prog w) C "__class__" (Ci (.builtin "object.__class__")) h) (fg:K1 (model prog w) C "__getattribute__" (Ci (.builtin "BaseException.__getattribute__")) h) (fa:K1 (model prog w) C "__getattr__" none h)
  (hx:h.get? a=Ci o) (hc:o.cls=.ref C) (hb:(Value.ref C::bm).contains (.ref D)=b) (hq:∀tk,Q (.bool b) ⟨h,g,d,tk,os⟩):JZ (model prog w) A (call (.builtin "isinstance") [.ref a,.ref D]) Q E ⟨h,g,d,t,os⟩:=by
 have hT:(⟨h,g,d,t,os⟩:JT).TypeIs (.ref D) "type" :=⟨_,hD,rfl⟩
 have f2:=tc_sub;refine call_isinstance_of ?_ (λz=>nomatch z);unfold Builtin.«isinstance.nested»;refine Qb ?_;unfold typeOf;refine Qb (QF hx (Qi ?_));rw[hc];by_cases e:C=D
 .subst e
  have hb1:b=Cm:=by rw[←hb];simp
  subst hb1;rw[if_pos (by simp)];exact Qb (wpAny_rule (Qi (hq t)))
 .rw[if_neg (by simp[e])]
  refine Qb (Qb (QF hD (Qi ?_)));rw[Qs (show(Value.type "type" == Value.type "type")=Cm by decide)]
  k_delta "plainIsInstance"
  unfold isType isInstance
  repeat (first|(with_reducible refine QF hx ?_;rw[hc])|with_reducible refine QF hD ?_|with_reducible refine QF hC ?_|(with_reducible refine Jd hC ?_;rw[hb])|wp_step)
  cases b with
  |true=>wp_walk;exact hq t
  |false=>
   rw[QM (by decide)];refine Qb (NM PySem.F.excAttr_ValueError T hC fc fg fa hx hc ?_)
   repeat (first|with_reducible refine QF hC ?_|(with_reducible refine Jd hC ?_;rw[hb])|wp_step)
   exact hq _
theorem L9{Q:JS->JT->Prop}{X:String}(T:ZQ VB bm)(hC:h.get? C=Ci (excClassObj nm q C N bs bm hdct sn sub ab col dd k0 k1 k2 k3 k5 newId))(hX:typeOf (.type X)=pure (.type "type"))
  (fc:K1 (model prog w) C "__class__" (Ci (.builtin "object.__class__")) h) (fg:K1 (model prog w) C "__getattribute__" (Ci (.builtin "BaseException.__getattribute__")) h) (fa:K1 (model prog w) C "__getattr__" none h)
  (hx:h.get? a=Ci o) (hc:o.cls=.ref C) (hb:(Value.ref C::bm).contains (.type X)=b) (hq:∀tk,Q (.bool b) ⟨h,g,d,tk,os⟩):JZ (model prog w) A (call (.builtin "isinstance") [.ref a,.type X]) Q E ⟨h,g,d,t,os⟩:=by
 refine call_isinstance_of ?_ (λz=>nomatch z);unfold Builtin.«isinstance.nested»;refine Qb ?_;have ty:∀{M:Model}{A:Around}{Q:JS->JT->Prop}{E:JS->JT->Prop},Q (.ref C) ⟨h,g,d,t,os⟩->JZ M A (typeOf (.ref a)) Q E ⟨h,g,d,t,os⟩:=λq=>by unfold typeOf;refine Qb (QF hx (Qi ?_));rw[hc];exact q
 refine ty ?_;rw[if_neg (by simp)];refine Qb (wpAny_of_eq hX ?_);rw[Qs (show(Value.type "type" == Value.type "type")=Cm by decide)]
 k_delta "plainIsInstance"
 unfold isType isInstance
 repeat (first|(with_reducible refine QF hx ?_;rw[hc])|with_reducible refine QF hC ?_|(with_reducible refine Jd hC ?_;rw[hb])|wp_step)
 cases b with
 |true=>wp_walk;exact hq t
 |false=>
  rw[QM (by decide)];refine Qb (NM PySem.F.excAttr_ValueError T hC fc fg fa hx hc ?_)
  repeat (first|with_reducible refine QF hC ?_|(with_reducible refine Jd hC ?_;rw[hb])|wp_step)
  exact hq _
end
def rIsX(KC:JV->Cq->Prop):List V->Hp->VK->Prop:=λxs H Q=>∃a C dd bm fr c b,xs=[.ref a,c]/\KC C bm/\H a=Ci (.ext (XO fr a C dd)) /\
 ((∃D bm',c=.ref D/\KC D bm'/\(Value.ref C::bm).contains (.ref D)=b) ∨ ∃T,c=.ty T/\typeOf (.type T)=pure (.type "type")/\(Value.ref C::bm).contains (.type T)=b)/\Q (.bl b) H
theorem FN{X:Cx}{KC:JV->Cq->Prop}(hcls:∀C bm,KC C bm->∃fI,XCls (model X.prog X.w) X.base C bm fI):Zo X (.builtin "isinstance") (rIsX KC):=by
 rintro pins s σ H xs us Q I r ⟨a,C,dd,bm,fr,c,b,rfl,kc,hx,hD,q⟩;cases r with
 |cons ra r=>
 cases r with
 |cons rc r=>
 cases r;have ra':_=Value.ref a:=ra;subst ra';obtain⟨fI,XC⟩:=hcls C bm kc;obtain⟨nm,qn,N,bs,sn,sub,ab,col,dd1,k0,k1,k2,k3,k5,hC⟩:=XC.obj;obtain⟨⟨vs,sl,ga,_⟩,_,_⟩:=I.hok a _ hx;obtain⟨hp,g,d,tk,os⟩:=s;rcases hD with ⟨D,bm',rfl,kd,hb⟩|⟨T,rfl,hT,hb⟩
 .have rc':_=Value.ref D:=rc
  subst rc';obtain⟨fI',XD'⟩:=hcls D bm' kd;obtain⟨nm',qn',N',bs',sn',sub',ab',col',dd2,j0,j1,j2,j3,j5,CO⟩:=XD'.obj;exact HM XC.tail (I.bk _ _ hC) (I.bk _ _ CO) (XC.cl.keeps I.bk) (XC.ga.keeps I.bk) (XC.gh.keeps I.bk) ga Cj hb λtk'=>⟨.bl b,H,I.tok tk',rfl,q⟩
 .have rc':_=Value.type T:=rc
  subst rc';exact L9 XC.tail (I.bk _ _ hC) hT (XC.cl.keeps I.bk) (XC.ga.keeps I.bk) (XC.gh.keeps I.bk) ga Cj hb λtk'=>⟨.bl b,H,I.tok tk',rfl,q⟩
def Lo(nm:Str):List Str:=if nm = "NoWishes" then ["part", "number"]else if nm = "NoAim" then ["part"]else if nm = "NoText" then ["row"]else []
def RW(K:Frag)(nm:Str):CA:=match PySem.W.nsIn K mainGlobals nm with|some (Ci (.ref C))=>Ci C|_=>Ck
def NmAt(K:Frag)(nm:Str)(C:JV):Prop:=∃o cd,K.lookup C=Ci o/\o.data=.cls cd/\cd.name=nm
structure ClsK(K:Frag)(nm:Str)(C:JV)(bm:Cq):Prop where
 ad:RW K nm=Ci C
 nmd:NmAt K nm C
 up:nm = "DealError" /\ bm=VB∨nm ≠ "DealError" /\ ∃D,RW K "DealError" = Ci D/\bm=.ref D::VB/\NmAt K "DealError" D
 cls:∀(M:Model)(h:Heap),K.In h->∃fI,XCls M h C bm fI
 fld:∀(M:Model)(h:Heap),K.In h->∀f∈(["part", "number", "row"]:List Str),K1 M C f Ck h
def KC(K:Frag):JV->Cq->Prop:=λC bm=>∃nm,ClsK K nm C bm
section
variable{K:Frag}{nm x:Str}{C D:JV}{bm bm':Cq}
theorem ClsK.ty(c:ClsK K nm C bm)(T:String):(Value.ref C::bm).contains (.type T)=VB.contains (.type T):=by
 rcases c.up with ⟨_,rfl⟩|⟨_,D',g,rfl,n⟩
 .rfl
 .rfl
end
section
variable{X:Cx}{e:JX}{st:Stmt}{sts:List Stmt}{t:TE}{ts:TS}
theorem Ln(k:X.K.In X.base):∀C bm,KC X.K C bm->∃fI,XCls (model X.prog X.w) X.base C bm fI:=λ_ _ ⟨_,c⟩=>c.cls _ _ k
end
end L2
namespace DL
open PySem PySem.Spec L2
open PyProof.Rows hiding St
abbrev D:=PyData
abbrev Co:=List D
abbrev Cs:=Option D
abbrev XW:=V->St->Hp->Prop
abbrev KX0:XW:=λ_ _ _=>False
def XFs(G:Hp)(dd:CA)(fs:List Str)(vs:List V):Prop:=match dd with
 |none=>fs=[]/\vs=[]
 |some dx=>fs.length=vs.length/\G dx=Ci (.ext (XD dx (fs.zip vs)))
theorem XFs.mono{G G1:Hp}{dd:CA}{fs:List Str}{vs:List V}(e:Same G G1)(h:XFs G dd fs vs):XFs G1 dd fs vs:=by
 cases dd with
 |none=>exact h
 |some dx=>exact⟨h.1,e _ _ h.2⟩
def kD:Key->D
 |.inl i=>.int i
 |.inr x=>.str x
def tkD(k:CB):D:=.tuple (k.map kD)
def pdD(ks:List CB)(ds:Co):List (D×D):=(.bool Cm,.none)::(ks.map tkD).zip ds
mutual
inductive Rep(K:Frag)(G:Hp):V->D->Prop where
 |non:Rep K G .non .none
 |bl (b:Bool):Rep K G (.bl b) (.bool b)
 |int (i:Int):Rep K G (.int i) (.int i)
 |str (x:Str):Rep K G (.str x) (.str x)
 |lst {a:JV} {vs:List V} {ds:Co} (h:SqL K G a vs) (r:Reps K G vs ds):Rep K G (.ref a) (.list ds)
 |tup {a:JV} {vs:List V} {ds:Co} (h:SqT K G a vs) (r:Reps K G vs ds):Rep K G (.ref a) (.tuple ds)
 |dic {a:JV} (h:G a=Ci (.dK [])):Rep K G (.ref a) (.dict [])
 |exc {a C:JV} {dd:CA} {bm:Cq} {nm:Str} {vs:List V} {ds:Co} (c:ClsK K nm C bm) (h:G a=Ci (.ext (XO Cn a C dd))) (hd:XFs G dd (Lo nm) vs) (r:Reps K G vs ds):Rep K G (.ref a) (.dict [(.none,.tuple [.str nm,.list ds])])
 |dct {a:JV} {ks:CB} {vs:List V} {ds:Co} {kvs:List (D×D)} (e:kvs=(ks.map kD).zip ds) (hne:ks≠[]) (hl:ks.length=ds.length) (h:G a=Ci (.dK (ks.zip vs))) (r:Reps K G vs ds):Rep K G (.ref a) (.dict kvs)
 |dtt {a:JV} {o:Obj} {ks:List CB} {vs:List V} {ds:Co} {kvs:List (D×D)} (e:kvs=pdD ks ds) (hl:ks.length=ds.length) (h:G a=Ci (.frz o (.dT (ks.zip vs)))) (r:Reps K G vs ds):Rep K G (.ref a) (.dict kvs)
inductive Reps(K:Frag)(G:Hp):List V->Co->Prop where
 |nil:Reps K G [] []
 |cons {v:V} {d:D} {vs:List V} {ds:Co} (h:Rep K G v d) (t:Reps K G vs ds):Reps K G (v::vs) (d::ds)
end
variable{K:Frag}{B G0 G G1 G2 H H1 H2:Hp}
theorem Zn{a:JV}{xs:List V}(e:Same G G1)(h:SqT K G a xs):SqT K G1 a xs:=by
 rcases h with (h|⟨o,h⟩)|h
 .exact .inl (.inl (e _ _ h))
 .exact .inl (.inr ⟨o,e _ _ h⟩)
 .exact .inr h
theorem Rep.mono(e:Same G G1){v:V}{d:D}(r:Rep K G v d):Rep K G1 v d:=Rep.rec (motive_1:=λv d _=>Rep K G1 v d) (motive_2:=λvs ds _=>Reps K G1 vs ds) .non .bl .int .str (λh _ r=>.lst (e.seq h) r) (λh _ r=>.tup (Zn e h) r) (λh=>.dic (e _ _ h)) (λc h hd _ r=>.exc c (e _ _ h) (hd.mono e) r) (λz n l h _ r=>.dct z n l (e _ _ h) r) (λz l h _ r=>.dtt z l (e _ _ h) r) .nil (λ_ _=>.cons) r
theorem Reps.mono(e:Same G G1){vs:List V}{ds:Co}(r:Reps K G vs ds):Reps K G1 vs ds:=Reps.rec (motive_1:=λv d _=>Rep K G1 v d) (motive_2:=λvs ds _=>Reps K G1 vs ds) .non .bl .int .str (λh _ r=>.lst (e.seq h) r) (λh _ r=>.tup (Zn e h) r) (λh=>.dic (e _ _ h)) (λc h hd _ r=>.exc c (e _ _ h) (hd.mono e) r) (λz n l h _ r=>.dct z n l (e _ _ h) r) (λz l h _ r=>.dtt z l (e _ _ h) r) .nil (λ_ _=>.cons) r
section
variable{v:V}{vs ws:List V}{ds es:Co}
theorem Rep.bl_inv{b:Bool}(h:Rep K G v (.bool b)):v=.bl b:=by cases h;rfl
theorem Rep.int_inv{i:Int}(h:Rep K G v (.int i)):v=.int i:=by cases h;rfl
theorem Rep.str_inv{x:Str}(h:Rep K G v (.str x)):v=.str x:=by cases h;rfl
theorem Rep.lst_inv(h:Rep K G v (.list ds)):∃a vs,v=.ref a/\SqL K G a vs/\Reps K G vs ds:=by
 cases h with
 |lst h r=>exact⟨_,_,rfl,h,r⟩
theorem Rep.tup_inv(h:Rep K G v (.tuple ds)):∃a vs,v=.ref a/\SqT K G a vs/\Reps K G vs ds:=by
 cases h with
 |tup h r=>exact⟨_,_,rfl,h,r⟩
theorem Reps.length:∀{vs:List V}{ds:Co},Reps K G vs ds->vs.length=ds.length
 |_,_,.nil=>rfl
 |_,_,.cons _ t=>by rw[QI,QI,Reps.length t]
theorem Reps.get:∀{vs:List V}{ds:Co}{i:Nat}{d:D},Reps K G vs ds->ds[i]?=Ci d->∃v,vs[i]?=Ci v/\Rep K G v d
 |_,_,_,_,.nil,e=>by simp at e
 |_,_,0,_,.cons h _,e=>by simp at e;subst e;exact⟨_,rfl,h⟩
 |_,_,i+1,d,.cons _ t,e=>by obtain⟨u,h1,h2⟩:=Reps.get (i:=i) (d:=d) t (by simpa using e);exact⟨u,by simpa using h1,h2⟩
theorem Reps.append:∀{vs ws:List V}{ds es:Co},Reps K G vs ds->Reps K G ws es->Reps K G (vs++ws) (ds++es)
 |_,_,_,_,.nil,s=>s
 |_,_,_,_,.cons r t,s=>.cons r (Reps.append t s)
theorem Reps.take:∀{vs:List V}{ds:Co}(n:Nat),Reps K G vs ds->Reps K G (vs.take n) (ds.take n)
 |_,_,0,_=>by rw[List.take_zero,List.take_zero];exact .nil
 |_,_,_+1,.nil=>.nil
 |_,_,n+1,.cons r t=>.cons r (Reps.take n t)
theorem Reps.drop:∀{vs:List V}{ds:Co}(n:Nat),Reps K G vs ds->Reps K G (vs.drop n) (ds.drop n)
 |_,_,0,r=>r
 |_,_,_+1,.nil=>.nil
 |_,_,n+1,.cons _ t=>Reps.drop n t
theorem Reps.reverse:∀{vs:List V}{ds:Co},Reps K G vs ds->Reps K G vs.reverse ds.reverse
 |_,_,.nil=>.nil
 |_,_,.cons r t=>by rw[Jw,Jw];exact Reps.append (Reps.reverse t) (.cons r .nil)
theorem Reps.set{v:V}{d:D}(r:Rep K G v d):∀{vs:List V}{ds:Co}(i:Nat),Reps K G vs ds->Reps K G (vs.set i v) (ds.set i d)
 |_,_,_,.nil=>.nil
 |_,_,0,.cons _ t=>.cons r t
 |_,_,i+1,.cons q t=>.cons q (Reps.set r i t)
theorem Reps.ints:∀(ns:Cp),Reps K G (ns.map V.int) (ns.map int)
 |[]=>.nil
 |n::ns=>.cons (.int n) (Reps.ints ns)
end
inductive MO where
 |l (vs:List V)|k (kvs:List (Key×V))|t (kvs:List (CB×V))|s (S:Int->Bool) (n:Nat)
def MO.ho:MO->HO
 |.l vs=>.lst vs
 |.k kvs=>.dK kvs
 |.t kvs=>.dT kvs
 |.s S n=>.set S n
structure Ext(G H G' H':Hp):Prop where
 h:Same H H'
 g:Same G G'
 gh:Same G' H'
 np:∀a(u:MO),H a=Ci u.ho->G a=Ck->G' a=Ck
theorem Ext.refl(e:Same G H):Ext G H G H:=⟨.refl _,.refl _,e,λ_ _ _ q=>q⟩
theorem KD{p:JV}{o:HO}(h:H p=Ck):Same H (upd H p o):=λb u e=>by rw[US (Zm e h)];exact e
theorem Ext.new{p:JV}{o:HO}(e:Same G H)(h:H p=Ck):Ext G H (upd G p o) (upd H p o):=by
 have hg:G p=Ck:=e.free h;refine⟨KD h,KD hg,λb u q=>?_,λa u q n=>?_⟩
 .by_cases z:b=p
  .subst z;rw[Kk]at q⊢;exact q
  .rw[US z]at q⊢;exact e b u q
 .rw[US (Zm q h)];exact n
theorem Ext.hid{p:JV}{o:HO}(e:Same G H)(h:H p=Ck):Ext G H G (upd H p o):=
 ⟨KD h,.refl _,e.trans (KD h),λ_ _ _ n=>n⟩
inductive Pat where
 |leaf|lst (p:Pat)|tup (ps:List Pat)|dic
mutual
inductive RepO(K:Frag)(G H:Hp):Pat->V->D->Ct->Prop where
 |leaf {v:V} {d:D} (r:Rep K G v d):RepO K G H .leaf v d []
 |lst {p:Pat} {a:JV} {vs:List V} {ds:Co} {fp:Ct} (h:H a=Ci (.lst vs)) (r:RepOl K G H p vs ds fp):RepO K G H (.lst p) (.ref a) (.list ds) (a::fp)
 |tup {ps:List Pat} {a:JV} {vs:List V} {ds:Co} {fp:Ct} (h:H a=Ci (.tup vs)) (r:RepOs K G H ps vs ds fp):RepO K G H (.tup ps) (.ref a) (.tuple ds) fp
 |dic {a:JV} {ks:CB} {vs:List V} {ds:Co} {kvs:List (D×D)} (e:kvs=(ks.map kD).zip ds) (hl:ks.length=ds.length) (h:H a=Ci (.dK (ks.zip vs))) (r:Reps K G vs ds):RepO K G H .dic (.ref a) (.dict kvs) [a]
inductive RepOl(K:Frag)(G H:Hp):Pat->List V->Co->Ct->Prop where
 |nil {p:Pat}:RepOl K G H p [] [] []
 |cons {p:Pat} {v:V} {d:D} {vs:List V} {ds:Co} {f1 f2:Ct} (h:RepO K G H p v d f1) (t:RepOl K G H p vs ds f2):RepOl K G H p (v::vs) (d::ds) (f1++f2)
inductive RepOs(K:Frag)(G H:Hp):List Pat->List V->Co->Ct->Prop where
 |nil:RepOs K G H [] [] [] []
 |cons {p:Pat} {ps:List Pat} {v:V} {d:D} {vs:List V} {ds:Co} {f1 f2:Ct} (h:RepO K G H p v d f1) (t:RepOs K G H ps vs ds f2):RepOs K G H (p::ps) (v::vs) (d::ds) (f1++f2)
end
def Yd(K:Frag)(G H:Hp)(M1:Pat->V->D->Ct->Prop)(M2:Pat->List V->Co->Ct->Prop)(M3:List Pat->List V->Co->Ct->Prop):Prop:=
 (∀{p v d fp},RepO K G H p v d fp->M1 p v d fp)/\(∀{p vs ds fp},RepOl K G H p vs ds fp->M2 p vs ds fp)/\∀{ps vs ds fp},RepOs K G H ps vs ds fp->M3 ps vs ds fp
theorem RepO.ind3{M1:Pat->V->D->Ct->Prop}{M2:Pat->List V->Co->Ct->Prop}{M3:List Pat->List V->Co->Ct->Prop}
  (c1:∀{v d},Rep K G v d->M1 .leaf v d []) (c2:∀{p a vs ds fp},H a=Ci (.lst vs)->M2 p vs ds fp->M1 (.lst p) (.ref a) (.list ds) (a::fp)) (c3:∀{ps a vs ds fp},H a=Ci (.tup vs)->M3 ps vs ds fp->M1 (.tup ps) (.ref a) (.tuple ds) fp)
  (c4:∀{a:JV}{ks:CB}{vs:List V}{ds:Co}{kvs:List (D×D)},kvs=(ks.map kD).zip ds->ks.length=ds.length->H a=Ci (.dK (ks.zip vs))->Reps K G vs ds->M1 .dic (.ref a) (.dict kvs) [a])
  (c5:∀{p},M2 p [] [] []) (c6:∀{p v d vs ds f1 f2},M1 p v d f1->M2 p vs ds f2->M2 p (v::vs) (d::ds) (f1++f2)) (c7:M3 [] [] [] []) (c8:∀{p ps v d vs ds f1 f2},M1 p v d f1->M3 ps vs ds f2->M3 (p::ps) (v::vs) (d::ds) (f1++f2)) :
  Yd K G H M1 M2 M3:=
 ⟨λh=>RepO.rec (motive_1:=λp v d fp _=>M1 p v d fp) (motive_2:=λp v d fp _=>M2 p v d fp) (motive_3:=λp v d fp _=>M3 p v d fp) c1 (λh _=>c2 h) (λh _=>c3 h) c4 c5 (λ_ _=>c6) c7 (λ_ _=>c8) h,
  λh=>RepOl.rec (motive_1:=λp v d fp _=>M1 p v d fp) (motive_2:=λp v d fp _=>M2 p v d fp) (motive_3:=λp v d fp _=>M3 p v d fp) c1 (λh _=>c2 h) (λh _=>c3 h) c4 c5 (λ_ _=>c6) c7 (λ_ _=>c8) h,
  λh=>RepOs.rec (motive_1:=λp v d fp _=>M1 p v d fp) (motive_2:=λp v d fp _=>M2 p v d fp) (motive_3:=λp v d fp _=>M3 p v d fp) c1 (λh _=>c2 h) (λh _=>c3 h) c4 c5 (λ_ _=>c6) c7 (λ_ _=>c8) h⟩
theorem RepO.mono3(sg:Same G G1)(sh:Same H H1):Yd K G H (RepO K G1 H1) (RepOl K G1 H1) (RepOs K G1 H1):=
 RepO.ind3 (λr=>.leaf (r.mono sg)) (λh r=>.lst (sh _ _ h) r) (λh r=>.tup (sh _ _ h) r) (λe hl h r=>.dic e hl (sh _ _ h) (r.mono sg)) .nil .cons .nil .cons
theorem RepO.mono(sg:Same G G1)(sh:Same H H1){p:Pat}{v:V}{d:D}{fp:Ct}(r:RepO K G H p v d fp):RepO K G1 H1 p v d fp:=(RepO.mono3 sg sh).1 r
theorem RepO.upd3{a:JV}{o:HO}(nt:∀vs,H a≠Ci (.tup vs)):Yd K G H (λp v d fp=>a∉fp->RepO K G (upd H a o) p v d fp) (λp v d fp=>a∉fp->RepOl K G (upd H a o) p v d fp) (λp v d fp=>a∉fp->RepOs K G (upd H a o) p v d fp):=
 RepO.ind3
 (λr _=>.leaf r) (λh r n=>.lst (by rw[US (λz=>n (by rw[z];exact Ql))];exact h) (r λz=>n (Qo _ z))) (λh r n=>.tup (by rw[US (λz=>by subst z;exact nt _ h)];exact h) (r n))
 (λe hl h r n=>.dic e hl (by rw[US (λz=>n (by rw[z];exact Ql))];exact h) r) (λ_=>.nil) (λh t n=>.cons (h λz=>n (Q2 _ z)) (t λz=>n (Qq _ z))) (λ_=>.nil) (λh t n=>.cons (h λz=>n (Q2 _ z)) (t λz=>n (Qq _ z)))
theorem RepO.upd{a:JV}{o:HO}(nt:∀vs,H a≠Ci (.tup vs)){p:Pat}{v:V}{d:D}{fp:Ct}(r:RepO K G H p v d fp)(n:a∉fp):RepO K G (upd H a o) p v d fp:=(RepO.upd3 nt).1 r n
theorem RepOl.upd{a:JV}{o:HO}(nt:∀vs,H a≠Ci (.tup vs)){p:Pat}{v:List V}{d:Co}{fp:Ct}(r:RepOl K G H p v d fp)(n:a∉fp):RepOl K G (upd H a o) p v d fp:=(RepO.upd3 nt).2.1 r n
theorem RepOs.upd{a:JV}{o:HO}(nt:∀vs,H a≠Ci (.tup vs)){p:List Pat}{v:List V}{d:Co}{fp:Ct}(r:RepOs K G H p v d fp)(n:a∉fp):RepOs K G (upd H a o) p v d fp:=(RepO.upd3 nt).2.2 r n
theorem RepO.rep3(gh:Same G H):Yd K G H (λ_ v d _=>Rep K H v d) (λ_ v d _=>Reps K H v d) (λ_ v d _=>Reps K H v d):=
 RepO.ind3 (λr=>r.mono gh) (λh r=>.lst (SqL.of h) r) (λh r=>.tup (SqT.of h) r)
 (λ{a ks vs ds kvs} e hl h r=>by
  cases ks with
  |nil=>subst e;exact .dic h
  |cons k ks=>exact .dct e (λz=>by cases z) hl h (r.mono gh)) .nil .cons .nil .cons
theorem RepO.rep(gh:Same G H){p:Pat}{v:V}{d:D}{fp:Ct}(r:RepO K G H p v d fp):Rep K H v d:=(RepO.rep3 gh).1 r
theorem RepO.isl3:Yd K G H (λ_ _ _ fp=>∀a∈fp,∃u:MO,H a=Ci u.ho) (λ_ _ _ fp=>∀a∈fp,∃u:MO,H a=Ci u.ho) (λ_ _ _ fp=>∀a∈fp,∃u:MO,H a=Ci u.ho):=
 RepO.ind3 (λ_ a m=>by cases m)
 (λh r b m=>(Qu.mp m).elim (λe=>⟨.l _,e ▸ h⟩) (r b)) (λ_ r=>r) (λ_ _ h _ b m=>⟨.k _,Qp.mp m ▸ h⟩) (λa m=>by cases m) (λh t b m=>(QC.mp m).elim (h b) (t b)) (λa m=>by cases m) (λh t b m=>(QC.mp m).elim (h b) (t b))
theorem RepO.isl{p:Pat}{v:V}{d:D}{fp:Ct}(r:RepO K G H p v d fp):∀a∈fp,∃u:MO,H a=Ci u.ho:=RepO.isl3.1 r
theorem RepO.uniq3(sh:Same H H1):Yd K G H (λp v _ fp=>∀d' fp',RepO K G1 H1 p v d' fp'->fp=fp') (λp v _ fp=>∀d' fp',RepOl K G1 H1 p v d' fp'->fp=fp') (λp v _ fp=>∀d' fp',RepOs K G1 H1 p v d' fp'->fp=fp'):=
 RepO.ind3
 (λ_ d' fp' h=>by cases h;rfl)
 (λh r d' fp' h'=>by
  cases h' with
  |lst h2 r2=>have e:=sh _ _ h;rw[h2]at e;cases e;rw[r _ _ r2])
 (λh r d' fp' h'=>by
  cases h' with
  |tup h2 r2=>have e:=sh _ _ h;rw[h2]at e;cases e;exact r _ _ r2)
 (λ_ _ _ _ d' fp' h=>by cases h;rfl) (λd' fp' h=>by cases h;rfl)
 (λh t d' fp' h'=>by
  cases h' with
  |cons h2 t2=>rw[h _ _ h2,t _ _ t2])
 (λd' fp' h=>by cases h;rfl)
 (λh t d' fp' h'=>by
  cases h' with
  |cons h2 t2=>rw[h _ _ h2,t _ _ t2])
theorem RepO.uniq(sh:Same H H1){p:Pat}{v:V}{d d':D}{fp fp':Ct}(r:RepO K G H p v d fp)(r':RepO K G1 H1 p v d' fp'):fp=fp':=(RepO.uniq3 sh).1 r _ _ r'
inductive Sl where
 |pub (d:D)|own (ds:Co)|deep (p:Pat) (d:D)
abbrev Ul:=List (Option Sl)
abbrev Cv:=Option Ul
def DpOk(K:Frag)(B G H:Hp)(σ:St)(Z:Ul):Prop:=∃ω:JV->Nat,
 (∀(i:Nat) p d,Z[i]?=Ci (Ci (.deep p d))->∃v fp,σ[i]?=Ci (Ci v)/\RepO K G H p v d fp/\fp.Nodup/\∀a∈fp,B a=Ck/\G a=Ck/\ω a=i) /\
 (∀(i:Nat) ds a,Z[i]?=Ci (Ci (.own ds))->σ[i]?=Ci (Ci (.ref a))->ω a=i)
theorem DpOk.of{σ:St}{Z:Ul}(h1:∀(i:Nat) p d,Z[i]?=Ci (Ci (.deep p d))->False)(h2:∀(i:Nat) ds,Z[i]?=Ci (Ci (.own ds))->False):DpOk K B G H σ Z:=
 ⟨λ_=>0,λi p d q=>(h1 i p d q).elim,λi ds a q=>(h2 i ds q).elim⟩
theorem DpOk.map{B1:Hp}{σ σ1:St}{Z Z1:Ul}(k:DpOk K B G H σ Z)
  (h1:∀(i:Nat) p d,Z1[i]?=Ci (Ci (.deep p d))->Z[i]?=Ci (Ci (.deep p d))/\σ1[i]?=σ[i]?)
  (h2:∀(i:Nat) ds,Z1[i]?=Ci (Ci (.own ds))->∃es,Z[i]?=Ci (Ci (.own es))/\σ1[i]?=σ[i]?)
  (h3:∀(i:Nat) p d v fp,Z[i]?=Ci (Ci (.deep p d))->σ[i]?=Ci (Ci v)->RepO K G H p v d fp->(∀a∈fp,B a=Ck/\G a=Ck)->(∀(j:Nat) ds a,Z[j]?=Ci (Ci (.own ds))->σ[j]?=Ci (Ci (.ref a))->a∉fp)->RepO K G1 H1 p v d fp/\∀a∈fp,B1 a=Ck/\G1 a=Ck):DpOk K B1 G1 H1 σ1 Z1:=by
 obtain⟨ω,k1,k2⟩:=k;refine⟨ω,λi p d q=>?_,λi ds a q s=>?_⟩
 .obtain⟨q1,e1⟩:=h1 i p d q
  obtain⟨v,fp,s,r,n,w⟩:=k1 i p d q1;obtain⟨r1,w1⟩:=h3 i p d v fp q1 s r (λa m=>⟨(w a m).1,(w a m).2.1⟩) λj ds a qj sj m=>by have z1:=k2 j ds a qj sj;have z2:=(w a m).2.2;rw[z1]at z2;subst z2;rw[q1]at qj;cases qj
  exact⟨v,fp,by rw[e1];exact s,r1,n,λa m=>⟨(w1 a m).1,(w1 a m).2,(w a m).2.2⟩⟩
 .obtain⟨es,q1,e1⟩:=h2 i ds q
  rw[e1]at s;exact k2 i es a q1 s
structure EOk(K:Frag)(B G0 G H:Hp)(σ:St)(Z:Ul):Prop where
 bh:Same B H
 gh:Same G H
 g0:Same G0 G
 np:∀a(u:MO),B a=Ci u.ho->G0 a=Ck->G a=Ck
 len:Z.length=σ.length
 pub:∀(i:Nat) d,Z[i]?=Ci (Ci (.pub d))->∃v,σ[i]?=Ci (Ci v)/\Rep K G v d
 own:∀(i:Nat) ds,Z[i]?=Ci (Ci (.own ds))->∃a vs,σ[i]?=Ci (Ci (.ref a))/\B a=Ck/\G a=Ck/\H a=Ci (.lst vs)/\Reps K G vs ds
 sep:∀(i j:Nat) a ds es,Z[i]?=Ci (Ci (.own ds))->Z[j]?=Ci (Ci (.own es))->σ[i]?=Ci (Ci (.ref a))->σ[j]?=Ci (Ci (.ref a))->i=j
 dp:DpOk K B G H σ Z
theorem EOk.ext{G' H':Hp}{σ:St}{Z:Ul}(k:EOk K B G0 G H σ Z)(e:Ext G H G' H'):EOk K B G0 G' H' σ Z where
 bh:=k.bh.trans e.h
 gh:=e.gh
 g0:=k.g0.trans e.g
 np:=λa o q n=>e.np a o (k.bh a _ q) (k.np a o q n)
 len:=k.len
 pub:=λi d q=>let ⟨v,h1,h2⟩:=k.pub i d q;⟨v,h1,h2.mono e.g⟩
 own:=λi ds q=>let ⟨a,vs,h1,h2,h3,h4,h5⟩:=k.own i ds q;⟨a,vs,h1,h2,e.np a (.l _) h4 h3,e.h a _ h4,h5.mono e.g⟩
 sep:=k.sep
 dp:=k.dp.map (λ_ _ _ q=>⟨q,rfl⟩) (λ_ ds q=>⟨ds,q,rfl⟩) λi p d v fp q s r w n=>⟨r.mono e.g e.h,λa m=>let ⟨_,hl⟩:=r.isl a m;⟨(w a m).1,e.np a _ hl (w a m).2⟩⟩
theorem EOk.publish{σ:St}{Z:Ul}{i:Nat}{ds:Co}(k:EOk K B G0 G H σ Z)(h:Z[i]?=Ci (Ci (.own ds))) :
  ∃a G',σ[i]?=Ci (Ci (.ref a))/\Same G G'/\Rep K G' (.ref a) (.list ds)/\EOk K B G0 G' H σ (Z.set i (Ci (.pub (.list ds)))):=by
 obtain⟨a,vs,h1,h2,h3,h4,h5⟩:=k.own i ds h;have sg:Same G (upd G a (.lst vs)):=KD h3;have hr:Rep K (upd G a (.lst vs)) (.ref a) (.list ds):=.lst (SqL.of Kk) (h5.mono sg);refine⟨a,upd G a (.lst vs),h1,sg,hr,⟨k.bh,λb u q=>?_,k.g0.trans sg,λb o q n=>?_,by rw[QZ];exact k.len,λj d q=>?_,λj es q=>?_,λj l c es fs q1 q2 s1 s2=>?_,?_⟩⟩
 .by_cases z:b=a
  .subst z;rw[Kk]at q;cases q;exact h4
  .rw[US z]at q;exact k.gh b u q
 .have z:b≠a:=λz=>by subst z;rw[h2]at q;cases q
  rw[US z];exact k.np b o q n
 .by_cases z:i=j
  .subst z
   have hl:i<Z.length:=(Qm.mp h).1;rw[QL hl]at q;cases q;exact⟨.ref a,h1,hr⟩
  .rw[Qk z]at q
   obtain⟨v,g1,g2⟩:=k.pub j d q;exact⟨v,g1,g2.mono sg⟩
 .by_cases z:i=j
  .subst z
   have hl:i<Z.length:=(Qm.mp h).1;rw[QL hl]at q;cases q
  .rw[Qk z]at q
   obtain⟨b,ws,g1,g2,g3,g4,g5⟩:=k.own j es q;have zb:b≠a:=λe=>z (k.sep i j a ds es h q h1 (by rw[←e];exact g1))
   exact⟨b,ws,g1,g2,by rw[US zb];exact g3,g4,g5.mono sg⟩
 .have nz:∀{m:Nat}{ts:Co},(Z.set i (Ci (Sl.pub (.list ds))))[m]?=Ci (Ci (.own ts))->Z[m]?=Ci (Ci (.own ts)):=λ{m ts} q=>by
   by_cases z:i=m
   .subst z
    have hl:i<Z.length:=(Qm.mp h).1;rw[QL hl]at q;cases q
   .rw[Qk z]at q;exact q
  exact k.sep j l c es fs (nz q1) (nz q2) s1 s2
 .have hl:i<Z.length:=(Qm.mp h).1
  have nz:∀{m:Nat}{s:Sl},(Z.set i (Ci (Sl.pub (.list ds))))[m]?=Ci (Ci s)->(∃d,s=.pub d)∨Z[m]?=Ci (Ci s):=λ{m s} q=>by
   by_cases z:i=m
   .subst z
    rw[QL hl]at q;cases q;exact .inl ⟨_,rfl⟩
   .rw[Qk z]at q;exact .inr q
  refine k.dp.map (λm p d q=>?_) (λm es q=>?_) λm p d v fp q s r w n=>⟨r.mono sg (.refl _),λb mb=>⟨(w b mb).1,?_⟩⟩
  .rcases nz q with ⟨_,e⟩|q
   .cases e
   .exact⟨q,rfl⟩
  .rcases nz q with ⟨_,e⟩|q
   .cases e
   .exact⟨es,q,rfl⟩
  .rw[US (λz=>by subst z;exact n i ds b h h1 mb)];exact(w b mb).2
inductive Res(α:Type) where
 |ok (a:α) (Z:Ul)|bad
abbrev M(α:Type):=Ul->Res α
def Uq{α:Type}(a:α):M α:=λZ=>.ok a Z
def Ux{α:Type}(o:Option α):M α:=λZ=>match o with|some a=>.ok a Z|none=>.bad
def UD{α β:Type}(f:M α)(k:α->M β):M β:=λZ=>match f Z with | .ok a Z'=>k a Z' | .bad=>.bad
section
variable(K:Frag)(B G0:Hp)
def aft{α γ:Type}(R:Hp->γ->α->Prop)(r:Res α)(G:Hp)(σ:St)(Q:γ->Hp->Prop):Prop:=
 match r with
 |.ok d Z'=>∀v G' H',EOk K B G0 G' H' σ Z'->Same G G'->R G' v d->Q v H'
 |.bad=>False
def tM{α γ:Type}(R:Hp->γ->α->Prop)(f:M α):St->Hp->(γ->Hp->Prop)->Prop:=λσ H Q=>
 ∃G Z,EOk K B G0 G H σ Z/\aft K B G0 R (f Z) G σ Q
abbrev tD(f:M D):TE:=tM K B G0 (Rep K) f
abbrev tDs(f:M Co):TA:=tM K B G0 (Reps K) f
abbrev tBo(f:M Bool):TT:=tM K B G0 (λ_ b c=>b=c) f
abbrev tOi(f:M Cu):TO:=tM K B G0 (λ_ b c=>b=c) f
end
section
variable{K:Frag}{B G0:Hp}{α β γ δ ε:Type}{R:Hp->γ->α->Prop}{S:Hp->δ->β->Prop}{T:Hp->ε->α->Prop}{σ:St}{H:Hp}
theorem aft.mono{r:Res α}{G G':Hp}{Q:γ->Hp->Prop}(e:Same G G')(h:aft K B G0 R r G σ Q):aft K B G0 R r G' σ Q:=by
 cases r with
 |ok d Z=>exact λv G2 H2 k s q=>h v G2 H2 k (e.trans s) q
 |bad=>exact h
theorem aft.done{d:α}{Z:Ul}{G G' H H':Hp}{v:γ}{Q:γ->Hp->Prop}(h:aft K B G0 R (.ok d Z) G σ Q)(k:EOk K B G0 G H σ Z)(e:Ext G H G' H')(r:R G' v d):Q v H':=
 h v G' H' (k.ext e) e.g r
theorem aft.now{d:α}{Z:Ul}{G H:Hp}{v:γ}{Q:γ->Hp->Prop}(h:aft K B G0 R (.ok d Z) G σ Q)(k:EOk K B G0 G H σ Z)(r:R G v d):Q v H:=
 h v G H k (.refl _) r
theorem aft.opt{o:Option α}{Z:Ul}{G:Hp}{Q:γ->Hp->Prop}(h:aft K B G0 R (Ux o Z) G σ Q):∃d,o=Ci d/\aft K B G0 R (.ok d Z) G σ Q:=by
 cases o with
 |none=>exact h.elim
 |some d=>exact⟨d,rfl,h⟩
theorem tM.bind{f:M α}{k:α->M β}{Q:δ->Hp->Prop}(h:tM K B G0 S (UD f k) σ H Q) :
  tM K B G0 R f σ H (λv H1=>∃G Z d,EOk K B G0 G H1 σ Z/\R G v d/\aft K B G0 S (k d Z) G σ Q):=by
 obtain⟨G,Z,e,a⟩:=h;refine⟨G,Z,e,?_⟩;unfold UD at a;cases q:f Z with
 |bad=>rw[q]at a;exact a.elim
 |ok d Z1=>rw[q]at a;exact λv G' H' e' s r=>⟨G',Z1,d,e',r,aft.mono s a⟩
theorem tM.bind2{α' γ':Type}{R':Hp->γ'->α'->Prop}{f:M α}{g:α->M α'}{k:α->α'->M β}{Q:δ->Hp->Prop}(mo:∀G G' v d,Same G G'->R G v d->R G' v d)
  (h:tM K B G0 S (UD f λx=>UD (g x) λy=>k x y) σ H Q) :
  tM K B G0 R f σ H (λv H1=>∃x,tM K B G0 R' (g x) σ H1 λu H2=>∃G Z y,EOk K B G0 G H2 σ Z/\R G v x/\R' G u y/\aft K B G0 S (k x y Z) G σ Q):=by
 obtain⟨G,Z,e,a⟩:=tM.bind (R:=R) h;refine⟨G,Z,e,?_⟩;cases q:f Z with
 |bad=>rw[q]at a;exact a.elim
 |ok d Z1=>
  rw[q]at a;intro v G' H' e' s r;obtain⟨G2,Z2,d2,e2,r2,a2⟩:=a v G' H' e' s r;refine⟨d2,G2,Z2,e2,?_⟩;unfold UD at a2;cases q2:g d2 Z2 with
  |bad=>rw[q2]at a2;exact a2.elim
  |ok d3 Z3=>rw[q2]at a2;exact λu G3 H3 e3 s3 r3=>⟨G3,Z3,d3,e3,mo _ _ _ _ s3 r2,r3,aft.mono s3 a2⟩
end
theorem Oh{K:Frag}(G G':Hp)(v:V)(d:D)(e:Same G G')(r:Rep K G v d):Rep K G' v d:=r.mono e
theorem tM.two{K:Frag}{B G0:Hp}{β δ:Type}{S:Hp->δ->β->Prop}{σ:St}{H:Hp}{f g:M D}{k:D->D->M β}{Q:δ->Hp->Prop}{P:V->V->Hp->Prop}
  (h:tM K B G0 S (UD f λx=>UD g λy=>k x y) σ H Q)
  (i:∀v u H2 G Z x y,EOk K B G0 G H2 σ Z->Rep K G v x->Rep K G u y->aft K B G0 S (k x y Z) G σ Q->P v u H2) :
  tD K B G0 f σ H (λv H1=>tD K B G0 g σ H1 λu H2=>P v u H2):=by
 obtain⟨G,Z,e,a⟩:=tM.bind2 (R:=Rep K) (R':=Rep K) Oh h;refine⟨G,Z,e,?_⟩;cases q:f Z with
 |bad=>rw[q]at a;exact a.elim
 |ok d Z1=>
  rw[q]at a;intro v G' H' e' s r;obtain⟨x,G2,Z2,e2,a2⟩:=a v G' H' e' s r;refine⟨G2,Z2,e2,?_⟩;cases q2:g Z2 with
  |bad=>rw[q2]at a2;exact a2.elim
  |ok d3 Z3=>rw[q2]at a2;intro u G3 H3 e3 s3 r3;obtain⟨G4,Z4,y,e4,r4,r5,a5⟩:=a2 u G3 H3 e3 s3 r3;exact i v u H3 G4 Z4 x y e4 r4 r5 a5
theorem tM.one{K:Frag}{B G0:Hp}{α β γ δ:Type}{R:Hp->γ->α->Prop}{S:Hp->δ->β->Prop}{σ:St}{H:Hp}{f:M α}{k:α->M β}{Q:δ->Hp->Prop}{P:γ->Hp->Prop}
  (h:tM K B G0 S (UD f k) σ H Q) (i:∀v H2 G Z x,EOk K B G0 G H2 σ Z->R G v x->aft K B G0 S (k x Z) G σ Q->P v H2):tM K B G0 R f σ H P:=by
 obtain⟨G,Z,e,a⟩:=tM.bind (R:=R) h;refine⟨G,Z,e,?_⟩;cases q:f Z with
 |bad=>rw[q]at a;exact a.elim
 |ok d Z1=>rw[q]at a;intro v G' H' e' s r;obtain⟨G2,Z2,d2,e2,r2,a2⟩:=a v G' H' e' s r;exact i v H' G2 Z2 d2 e2 r2 a2
section
variable{X:Cx}{B G0:Hp}{e a b:JX}{pos:Pos}
theorem UI{t t':TE}(h:PE X e t)(i:∀σ H Q,t' σ H Q->t σ H Q):PE X e t':=λpins s σ H Q I q=>h pins s σ H Q I (i σ H Q q)
theorem Zu{t t':TT}(h:PT X e t)(i:∀σ H Q,t' σ H Q->t σ H Q):PT X e t':=λpins s σ H Q I q=>h pins s σ H Q I (i σ H Q q)
theorem paof{es:Cr}{t t':TA}(h:PA X es t)(i:∀σ H Q,t' σ H Q->t σ H Q):PA X es t':=λps pins s σ H Q I q=>h ps pins s σ H Q I (i σ H Q q)
theorem poof{eo:Option JX}{t t':TO}(h:PO X eo t)(i:∀σ H Q,t' σ H Q->t σ H Q):PO X eo t':=λpins s σ H Q I q=>h pins s σ H Q I (i σ H Q q)
theorem Ky{st:Stmt}{t t':TS}(h:PS X st t)(i:∀D σ H,t' D σ H->t D σ H):PS X st t':=λpins s σ H D I q=>h pins s σ H D I (i D σ H q)
theorem XS{st:List Stmt}{t t':TS}(h:PSs X st t)(i:∀D σ H,t' D σ H->t D σ H):PSs X st t':=λpins s σ H D I q=>h pins s σ H D I (i D σ H q)
def Uk(i:Nat):M D:=λZ=>match Z[i]? with
 |some (Ci (.pub d))=>.ok d Z
 |some (Ci (.own ds))=>.ok (.list ds) (Z.set i (Ci (.pub (.list ds))))
 |_=>.bad
theorem UV{i:Nat}(h:PE X e (U7 i)):PE X e (tD X.K B G0 (Uk i)):=UI h λσ H Q ⟨G,Z,k,a⟩=>by
 unfold Uk at a;cases q:Z[i]? with
 |none=>rw[q]at a;exact a.elim
 |some o=>
  cases o with
  |none=>rw[q]at a;exact a.elim
  |some sl=>
   cases sl with
   |deep _ _=>rw[q]at a;exact a.elim
   |pub d=>rw[q]at a;obtain⟨v,h1,h2⟩:=k.pub i d q;exact⟨v,h1,a.now k h2⟩
   |own ds=>rw[q]at a;obtain⟨ad,G',h1,h2,h3,h4⟩:=k.publish q;exact⟨.ref ad,h1,a (.ref ad) G' H h4 h2 h3⟩
theorem Tg{v:V}{d:D}(h:PE X e (tC v))(r:∀G,Rep X.K G v d):PE X e (tD X.K B G0 (Uq d)):=UI h λσ H Q ⟨G,Z,k,a⟩=>a.now k (r G)
theorem U0{i:Int}{j}:PE X (.Constant (.int i) j pos) (tD X.K B G0 (Uq (.int i))):=Tg Tb λ_=>.int i
theorem Og{i:Bool}{j}:PE X (.Constant (.bool i) j pos) (tD X.K B G0 (Uq (.bool i))):=Tg Lc λ_=>.bl i
theorem Of{j}:PE X (.Constant .none j pos) (tD X.K B G0 (Uq .none)):=Tg LH λ_=>.non
theorem L8{x:Str}{j}:PE X (.Constant (.str x) j pos) (tD X.K B G0 (Uq (.str x))):=Tg LG λ_=>.str x
def Uo{β:Type}(op:D->D->Option β)(f g:M D):M β:=UD f λx=>UD g λy=>Ux (op x y)
def OpD(X:Cx)(f:JS->JS->Sem JS)(op:D->D->Cs):Prop:=
 ∃r:R2,OpR X f r/\∀v u G H x y d Q,Same G H->Rep X.K G v x->Rep X.K G u y->op x y=Ci d->(∀w G' H',Ext G H G' H'->Rep X.K G' w d->Q w H')->r v u H Q
theorem KE{op:Operator}{p:D->D->Cs}{f g:M D}(o:OpD X (binaryOp op) p)(ha:PE X a (tD X.K B G0 f))(hb:PE X b (tD X.K B G0 g)):PE X (.BinOp a op b pos) (tD X.K B G0 (Uo p f g)):=by
 obtain⟨r,h,i⟩:=o;refine UI (MY h ha hb) λσ H Q q=>?_;refine tM.two q λv u H2 G Z x y k rx ry a=>?_
 obtain⟨d,e,a⟩:=a.opt;exact i v u G H2 x y d Q k.gh rx ry e λw G' H' ex rw=>a.done k ex rw
theorem OpD.or{f:JS->JS->Sem JS}{p q:D->D->Cs}(h:OpD X f p)(h':OpD X f q):OpD X f (λx y=>(p x y).orElse λ_=>q x y):=by
 obtain⟨r,h1,i1⟩:=h;obtain⟨r',h2,i2⟩:=h';refine⟨_,h1.or h2,λv u G H x y d Q s rx ry e k=>?_⟩;dsimp only at e;cases z:p x y with
 |some d'=>rw[z]at e;have e':d'=d:=QA e;subst e';exact .inl (i1 v u G H x y d' Q s rx ry z k)
 |none=>rw[z]at e;exact .inr (i2 v u G H x y d Q s rx ry e k)
def oII(g:Int->Int->Cs):D->D->Cs
 |.int i,.int j=>g i j
 |_,_=>Ck
theorem Oe{g:Int->Int->Cs}{x y d:D}(e:oII g x y=Ci d):∃i j,x=.int i/\y=.int j/\g i j=Ci d:=by
 unfold oII at e;split at e
 .exact⟨_,_,rfl,rfl,e⟩
 .cases e
theorem OpD.int{f:JS->JS->Sem JS}{C:Int->Int->Prop}{g:Int->Int->V}{p:Int->Int->Cs}(h:OpR X f (rI C g))(i:∀i j d,p i j=Ci d->C i j/\∀G,Rep X.K G (g i j) d):OpD X f (oII p):=by refine⟨_,h,λv u G H x y d Q s rx ry e k=>?_⟩;obtain⟨a,b,rfl,rfl,e⟩:=Oe e;obtain⟨c,r⟩:=i a b d e;exact⟨a,b,rx.int_inv,ry.int_inv,c,k _ G H (.refl s) (r G)⟩
theorem OpD.int0{f:JS->JS->Sem JS}{g:Int->Int->V}{p:Int->Int->D}(h:OpR X f (rI0 g))(i:∀i j G,Rep X.K G (g i j) (p i j)):OpD X f (oII λi j=>Ci (p i j)):=by refine⟨_,h,λv u G H x y d Q s rx ry e k=>?_⟩;obtain⟨a,b,rfl,rfl,e⟩:=Oe e;cases e;exact⟨a,b,rx.int_inv,ry.int_inv,k _ G H (.refl s) (i a b G)⟩
end
section
variable{X:Cx}{B G0:Hp}{e a b c:JX}{pos:Pos}
theorem L7:OpD X (binaryOp .Add) (oII λi j=>Ci (.int (i+j))):=.int0 Hl λ_ _ _=>.int _
theorem L6:OpD X (binaryOp .Sub) (oII λi j=>Ci (.int (i-j))):=.int0 Hk λ_ _ _=>.int _
def YB(i j:Int):Cs:=if(-(2 ^ 64)<i/\i<2 ^ 64)∨(-(2 ^ 64)<j/\j<2 ^ 64)then Ci (.int (i*j))else Ck
theorem HL:OpD X (binaryOp .Mult) (oII YB):=.int Hj λi j d h=>by
 unfold YB at h;split at h
 .rename_i c
  cases h;exact⟨c,λ_=>.int _⟩
 .cases h
def Xf(i j:Int):Cs:=if 0<j then Ci (.int (i % j))else Ck
theorem L5:OpD X (binaryOp .Mod) (oII Xf):=.int Hi λi j d h=>by
 unfold Xf at h;split at h
 .rename_i c
  cases h;exact⟨c,λ_=>.int _⟩
 .cases h
theorem FM:OpR X (binaryOp .FloorDiv) (rI (λi j=>0<j/\j<2 ^ 64) λi j=>.int (i / j)):=opI λi j _ _ _ _ _ hc q=>by
 have h1:(0:Int)<j:=hc.1;have h2:j<2 ^ 64:=hc.2;refine floordiv_int (by omega) (by rw[Int.fdiv_eq_ediv_of_nonneg i (by omega)];exact q) (.inl (PyProof.noPylong_of_log2 ?_));have h0:j.natAbs≠0:=by omega
 have:j.natAbs.log2<64:=(Nat.log2_lt h0).mpr (by omega);omega
def Xg(i j:Int):Cs:=if 0<j/\j<2 ^ 64 then Ci (.int (i / j))else Ck
theorem L4:OpD X (binaryOp .FloorDiv) (oII Xg):=.int FM λi j d h=>by
 unfold Xg at h;split at h
 .rename_i c
  cases h;exact⟨c,λ_=>.int _⟩
 .cases h
def Xe(i j:Int):Cs:=if 0<=j/\j<=1000000/\i.natAbs<2 ^ 64 then Ci (.int (i ^ j.toNat))else Ck
theorem L1:OpD X (binaryOp .Pow) (oII Xe):=.int Hg λi j d h=>by
 unfold Xe at h;split at h
 .rename_i c
  cases h;exact⟨c,λ_=>.int _⟩
 .cases h
theorem lim:(1000000:Nat)<=JY:=by decide
def VW:D->D->Cs
 |.str x,.str y=>if x.length+y.length<=1000000 then Ci (.str (x++y))else Ck
 |_,_=>Ck
theorem HK:OpD X (binaryOp .Add) VW:=by
 refine⟨_,Dg,λv u G H x y d Q s rx ry e k=>?_⟩;unfold VW at e;split at e
 .split at e
  .rename_i c
   cases e;exact⟨_,_,rx.str_inv,ry.str_inv,QJ c lim,k _ G H (.refl s) (.str _)⟩
  .cases e
 .cases e
def Mq(K:Frag):R2:=λx y H Q=>∃l b xs zs,x=.ref l/\y=.ref b/\SqL K H l xs/\SqL K H b zs/\xs.length+zs.length<=JY/\∀p,H p=Ck->Q (.ref p) (upd H p (.lst (xs++zs)))
theorem HJ:OpR X (binaryOp .Add) (Mq X.K):=by
 intro pins s σ H x y v u Q I rx ry h;obtain⟨l,b,xs,zs,rfl,rfl,hH,hB,hz,q⟩:=h;cases rx;cases ry;obtain⟨its,r,⟨⟨c1,d1,t1,s1⟩,n1,e1,Af,Ae,Ad⟩,z1⟩:=I.list hH;obtain⟨its2,r2,⟨⟨c2,d2,t2,s2⟩,n2,e2,ec2,ed2,et2⟩,z2⟩:=I.list hB;simp only at Af Ae Ad ec2 ed2 et2;subst Af Ae Ad ec2 ed2 et2;have hl:=r.length;have hl2:=r2.length;refine concat_meets ⟨_,e1,rfl⟩ ⟨_,e2,rfl⟩ noFill_list_add seq_list_add PySem.F.slot_list_add PySem.F.entry_list_add (PySem.F.args_list_add_2 _ _) (list_addW l b its.toArray its2.toArray n1 n2 Ck Ck s1 s2 (by rw[QK,QK];omega)) ⟨e1,e2,?_⟩;have ea:its.toArray++its2.toArray=(its++its2).toArray:=by simp
 rw[ea];exact⟨.ref _,_,I.lnew (t':=s.toks) (r.append r2) (by rw[Qj];omega),rfl,q _ I.fresh⟩
theorem Mp(a:Int)(t:Tok)(l:JV)(items:Array JS)(n:Nat)(sl:Array Cw) :
  Meets (Builtin.«int.__rmul__» ⟨[.int a t,.ref l],[]⟩) (λ_ R s=>s.heap.get? l=Ci {cls:=.type "list", dict:=Ck,data:=.seq items n,slots:=sl}/\R (.ok (.ret Value.notImplemented)) s):=
 .of_wp λprog w A R s h=>by obtain⟨hp,g,d,tk,os⟩:=s;obtain⟨hl,h⟩:=h;wp_walk;exact⟨_,rfl,h⟩
theorem mulW(l:JV)(items:Array JS)(n:Nat)(x:Int)(u:Tok)(sl:Array Cw)(hc0:¬(!Builtin.List.listFitsIndex x)=Cm)(hc1:¬items.size*x.toNat > (2 ^ 63-1) / 8)(hc2:¬Builtin.List.listTooLong (items.size*x.toNat)=Cm) :
  Meets (Builtin.«list.__mul__» ⟨[.ref l,.int x u],[]⟩) (λ_ R s=>s.heap.get? l=Ci {cls:=.type "list", dict:=Ck,data:=.seq items n,slots:=sl}/\R (.ok (.ret (Value.ref s.heap.objs.size))) {s with heap:=s.heap.push {cls:=Value.type "list", data:=Data.seq (List.foldl (λx1 x2=>x1++x2) #[] (J6 (if items.isEmpty=Cm then 0 else x.toNat) items))},toks:=s.toks}):=
 .of_wp λprog w A R s h=>by
  obtain⟨hp,g,d,tk,os⟩:=s;obtain⟨hl,h⟩:=h;have hsz:=AutoListH.joined_fits hc2
  wp_walk;refine wpAny_ite_false (Qz (Nat.not_lt.mpr hsz)) ?_;wp_walk;exact⟨_,rfl,h⟩
def Mo(K:Frag):R2:=λx y H Q=>∃l k xs,x=.ref l/\y=.int k/\SqL K H l xs /\ -(2 ^ 63)<=k/\k<2 ^ 63/\xs.length*k.toNat<=JY /\
 ∀p,H p=Ck->Q (.ref p) (upd H p (.lst (J6 k.toNat xs).flatten))
theorem HI:OpR X (binaryOp .Mult) (Mo X.K):=by
 intro pins s σ H x y v u Q I rx ry h;obtain⟨l,k,xs,rfl,rfl,hH,h1,h2,hz,q⟩:=h;cases rx;obtain⟨t,rfl⟩:=ry;obtain⟨its,r,⟨⟨c1,d1,t1,sl⟩,n,e,Af,Ae,Ad⟩,z⟩:=I.list hH;simp only at Af Ae Ad;subst Af Ae Ad;have hl:=r.length;have hlen:its.toArray.size*k.toNat<=JY:=by rw[QK,←hl];exact hz
 have hcap:¬its.toArray.size*k.toNat > (2 ^ 63-1) / 8:=by
  have:(JY:Nat)<=(2 ^ 63-1) / 8:=by decide
  omega
 have hfit:¬(!Builtin.List.listFitsIndex k)=Cm:=by rw[fitsIndex_both h1 h2];exact Bool.false_ne_true
 have B5:¬Builtin.List.listTooLong (its.toArray.size*k.toNat)=Cm:=by rw[FQ hlen];exact Bool.false_ne_true
 have hnew:List.foldl (λx1 x2=>x1++x2) #[] (J6 (if its.toArray.isEmpty=Cm then 0 else k.toNat) its.toArray)=(J6 k.toNat its).flatten.toArray:=by
  have f0:∀m:Nat,List.foldl (λx1 x2=>x1++x2) #[] (J6 m its.toArray)=(J6 m its).flatten.toArray:=λm=>by have:=O2 its m [];rw[Jk]at this;exact this
  rw[f0];cases its with
  |nil=>simp
  |cons a r'=>rw[if_neg (by simp)]
 refine wpAny_binaryOp_repeat_ref (T:= "list") (U:= "int") (by decide) ⟨_,e,rfl⟩ (λs'=>typeIs_int s' k t) noFill_list_mul F.fills_int_mul F.slot_int_rmul repeat_list F.slot_int_index.lookup
  (call_meets F.slot_int_rmul (typeIs_int s k t) F.entry_int_rmul (F.args_int_rmul_2 _ _) (Mp k t l its.toArray n sl)
   ⟨e,rfl,⟨_,e,rfl⟩,call_meets F.slot_list_mul ⟨_,e,rfl⟩ F.entry_list_mul (F.args_list_mul_2 _ _) (mulW l its.toArray n k t sl hfit hcap B5) ⟨e,?_⟩⟩)
 rw[hnew];exact⟨.ref _,_,I.lnew (t':=s.toks) (r.rep k.toNat) (by rw[HP,Nat.mul_comm];exact hz),rfl,q _ I.fresh⟩
def VU:D->D->Cs
 |.list x,.list y=>if x.length+y.length<=1000000 then Ci (.list (x++y))else Ck
 |_,_=>Ck
theorem HH:OpD X (binaryOp .Add) VU:=by
 refine⟨_,HJ,λv u G H x y d Q s rx ry e k=>?_⟩;unfold VU at e;split at e
 .split at e
  .rename_i c
   cases e;obtain⟨l,vs,rfl,h1,r1⟩:=rx.lst_inv;obtain⟨b,ws,rfl,h2,r2⟩:=ry.lst_inv;refine⟨l,b,vs,ws,rfl,rfl,s.seq h1,s.seq h2,by rw[r1.length,r2.length];exact QJ c lim,λp hp=>k _ _ _ (Ext.new s hp) ?_⟩;exact .lst (SqL.of Kk) ((r1.append r2).mono (KD (s.free hp)))
  .cases e
 .cases e
theorem Reps.rep{K:Frag}{G:Hp}{vs:List V}{ds:Co}(r:Reps K G vs ds):∀n:Nat,Reps K G (J6 n vs).flatten (J6 n ds).flatten
 |0=>.nil
 |n+1=>by rw[Q8,Q8,QO,QO];exact r.append (r.rep n)
def VT:D->D->Cs
 |.list x,.int k=>if -1000000<=k/\k<=1000000/\x.length*k.toNat<=1000000 then Ci (.list (J6 k.toNat x).flatten)else Ck
 |_,_=>Ck
theorem HG:OpD X (binaryOp .Mult) VT:=by
 refine⟨_,HI,λv u G H x y d Q s rx ry e k=>?_⟩;unfold VT at e;split at e
 .split at e
  .rename_i c
   cases e;obtain⟨l,vs,rfl,h1,r1⟩:=rx.lst_inv;refine⟨l,_,vs,rfl,ry.int_inv,s.seq h1,by omega,by omega,by rw[r1.length];exact QJ c.2.2 lim,λp hp=>k _ _ _ (Ext.new s hp) ?_⟩;exact .lst (SqL.of Kk) ((r1.rep _).mono (KD (s.free hp)))
  .cases e
 .cases e
def UC:D->D->Cs
 |.int i,.int j=>Ci (.int (i+j))
 |.str x,.str y=>if x.length+y.length<=1000000 then Ci (.str (x++y))else Ck
 |.list x,.list y=>if x.length+y.length<=1000000 then Ci (.list (x++y))else Ck
 |_,_=>Ck
def Zh:D->D->Cs
 |.int i,.int j=>Ci (.int (i-j))
 |_,_=>Ck
def UN:D->D->Cs
 |.int i,.int j=>YB i j
 |.list x,.int k=>if -1000000<=k/\k<=1000000/\x.length*k.toNat<=1000000 then Ci (.list (J6 k.toNat x).flatten)else Ck
 |_,_=>Ck
def Kd:D->D->Cs
 |.int i,.int j=>Xf i j
 |_,_=>Ck
def ZO:D->D->Cs
 |.int i,.int j=>Xg i j
 |_,_=>Ck
def Yz:D->D->Cs
 |.int i,.int j=>Xe i j
 |_,_=>Ck
theorem OpD.congr{f:JS->JS->Sem JS}{p q:D->D->Cs}(h:OpD X f p)(e:∀x y,q x y=p x y):OpD X f q:=by
 have:q=p:=by funext x y;exact e x y
 rw[this];exact h
theorem ZC:OpD X (binaryOp .Add) UC:=(L7.or (HK.or HH)).congr λx y=>by cases x<;>cases y<;>first|rfl|(simp only[UC,oII,VW,VU,Option.orElse];done)|(simp only[UC,oII,VW,VU,Option.orElse];split<;>rfl)
theorem Mn:OpD X (binaryOp .Sub) Zh:=L6.congr λx y=>by cases x<;>cases y<;>rfl
theorem Xw:OpD X (binaryOp .Mult) UN:=(HL.or HG).congr λx y=>by cases x<;>cases y<;>first|rfl|(simp only[UN,oII,VT,Option.orElse];done)|(simp only[UN,oII,VT,Option.orElse];split<;>first|rfl|assumption)
theorem Mm:OpD X (binaryOp .Mod) Kd:=L5.congr λx y=>by cases x<;>cases y<;>rfl
theorem Ml:OpD X (binaryOp .FloorDiv) ZO:=L4.congr λx y=>by cases x<;>cases y<;>rfl
theorem Mk:OpD X (binaryOp .Pow) Yz:=L1.congr λx y=>by cases x<;>cases y<;>rfl
end
section
variable{X:Cx}{B G0:Hp}{e a b c:JX}{pos:Pos}
def OpB(X:Cx)(f:JS->JS->Sem JS)(op:D->D->Cy):Prop:=
 ∃r:R2,OpR X f r/\∀v u G H x y d Q,Same G H->Rep X.K G v x->Rep X.K G u y->op x y=Ci d->Q (.bl d) H->r v u H Q
theorem OpB.or{f:JS->JS->Sem JS}{p q:D->D->Cy}(h:OpB X f p)(h':OpB X f q):OpB X f (λx y=>(p x y).orElse λ_=>q x y):=by
 obtain⟨r,h1,i1⟩:=h;obtain⟨r',h2,i2⟩:=h';refine⟨_,h1.or h2,λv u G H x y d Q s rx ry e k=>?_⟩;dsimp only at e;cases z:p x y with
 |some d'=>rw[z]at e;have e':d'=d:=QA e;subst e';exact .inl (i1 v u G H x y d' Q s rx ry z k)
 |none=>rw[z]at e;exact .inr (i2 v u G H x y d Q s rx ry e k)
theorem OpB.congr{f:JS->JS->Sem JS}{p q:D->D->Cy}(h:OpB X f p)(e:∀x y,q x y=p x y):OpB X f q:=by
 have:q=p:=by funext x y;exact e x y
 rw[this];exact h
theorem Od{op:CmpOp}{p:D->D->Cy}{f g:M D}(o:OpB X (J4 op) p)(ha:PE X a (tD X.K B G0 f))(hb:PE X b (tD X.K B G0 g))(hm:behindInMarks op b=Cn) :
  PT X (.Compare a [op] [b] pos) (tBo X.K B G0 (Uo p f g)):=by
 obtain⟨r,h,i⟩:=o;refine Zu (Ri h ha hb hm) λσ H Q q=>?_;refine tM.two q λv u H2 G Z x y k rx ry a=>?_
 obtain⟨d,e,a⟩:=a.opt;exact i v u G H2 x y d _ k.gh rx ry e ⟨d,rfl,a.now k Cj⟩
def UA{α β:Type}(h:α->β)(f:M α):M β:=UD f λx=>Uq (h x)
theorem tM.map{K:Frag}{α β γ δ:Type}{R:Hp->γ->α->Prop}{S:Hp->δ->β->Prop}{σ:St}{H:Hp}{h:α->β}{f:M α}{Q:δ->Hp->Prop}(j:γ->δ)(q:tM K B G0 S (UA h f) σ H Q)
  (i:∀G v x,R G v x->S G (j v) (h x)):tM K B G0 R f σ H (λv H'=>Q (j v) H'):=
 tM.one (R:=R) (f:=f) q λv H2 G Z x k r a=>aft.now (show aft K B G0 S (.ok (h x) Z) G σ Q from a) k (i G v x r)
theorem tBo.val{K:Frag}{σ:St}{H:Hp}{f:M Bool}{Q:VK}(q:tD K B G0 (UA J8 f) σ H Q):tBo K B G0 f σ H (λb H'=>Q (.bl b) H'):=
 tM.map (R:=λ_ b c=>b=c) V.bl q λG v x e=>by rw[e];exact .bl x
theorem Oc{op:CmpOp}{p:D->D->Cy}{f g:M D}(o:OpB X (J4 op) p)(ha:PE X a (tD X.K B G0 f))(hb:PE X b (tD X.K B G0 g))(hm:behindInMarks op b=Cn) :
  PE X (.Compare a [op] [b] pos) (tD X.K B G0 (UA J8 (Uo p f g))):=by
 obtain⟨r,h,i⟩:=o;refine UI (Oi h ha hb hm) λσ H Q q=>?_;refine tM.two (tBo.val q) λv u H2 G Z x y k rx ry a=>?_
 obtain⟨d,e,a⟩:=a.opt;exact i v u G H2 x y d _ k.gh rx ry e (a.now k Cj)
def XY(p q:D->D->Cy)(f g h:M D):M Bool:=UD f λx=>UD g λy=>UD (Ux (p x y)) λt=>if t=Cm then UD h λz=>Ux (q y z)else Uq Cn
theorem EX{op op':CmpOp}{p q:D->D->Cy}{f g h:M D}(o:OpB X (J4 op) p)(o':OpB X (J4 op') q)(ha:PE X a (tD X.K B G0 f))(hb:PE X b (tD X.K B G0 g))(hc:PE X c (tD X.K B G0 h))
  (hm:lastMarks [op,op'] [b,c]=Cn:=by with_unfolding_all rfl):PT X (.Compare a [op,op'] [b,c] pos) (tBo X.K B G0 (XY p q f g h)):=by
 obtain⟨r,h1,i⟩:=o;obtain⟨r',h2,i'⟩:=o';refine Zu (FS h1 h2 ha hb hc hm) λσ H Q w=>?_;refine tM.two w λv u H2 G Z x y k rx ry a=>?_
 cases z:p x y with
 |none=>rw[z]at a;exact a.elim
 |some t=>
  rw[z]at a;refine i v u G H2 x y t _ k.gh rx ry z ⟨t,rfl,?_⟩;cases t with
  |false=>rw[QM Bool.false_ne_true];exact⟨Cn,rfl,aft.now a k Cj⟩
  |true=>
   rw[Qs Cj];refine⟨G,Z,k,?_⟩;have a4:aft X.K B G0 (λ_ (b:Bool) c=>b=c) ((UD h λz=>Ux (q y z)) Z) G σ Q:=a;unfold UD at a4;cases z2:h Z with
   |bad=>rw[z2]at a4;exact a4.elim
   |ok d Z1=>rw[z2]at a4;intro w G5 H5 k5 s5 r5;obtain⟨t2,e2,a6⟩:=a4.opt;exact i' u w G5 H5 y d t2 _ k5.gh (ry.mono s5) r5 e2 ⟨t2,rfl,a6 t2 G5 H5 k5 s5 Cj⟩
theorem EW{op op':CmpOp}{p q:D->D->Cy}{f g h:M D}(o:OpB X (J4 op) p)(o':OpB X (J4 op') q)(ha:PE X a (tD X.K B G0 f))(hb:PE X b (tD X.K B G0 g))(hc:PE X c (tD X.K B G0 h))
  (hm:lastMarks [op,op'] [b,c]=Cn:=by with_unfolding_all rfl):PE X (.Compare a [op,op'] [b,c] pos) (tD X.K B G0 (UA J8 (XY p q f g h))):=by
 obtain⟨r,h1,i⟩:=o;obtain⟨r',h2,i'⟩:=o';refine UI (FT h1 h2 ha hb hc hm) λσ H Q w=>?_;refine tM.two (tBo.val w) λv u H2 G Z x y k rx ry a=>?_
 cases z:p x y with
 |none=>rw[z]at a;exact a.elim
 |some t=>
  rw[z]at a;refine i v u G H2 x y t _ k.gh rx ry z ⟨t,rfl,?_⟩;cases t with
  |false=>rw[QM Bool.false_ne_true];exact aft.now (v:=Cn) a k Cj
  |true=>
   rw[Qs Cj];refine⟨G,Z,k,?_⟩;have a4:aft X.K B G0 (λ_ (b:Bool) c=>b=c) ((UD h λz=>Ux (q y z)) Z) G σ (λb H'=>Q (.bl b) H'):=a;unfold UD at a4;cases z2:h Z with
   |bad=>rw[z2]at a4;exact a4.elim
   |ok d Z1=>rw[z2]at a4;intro w G5 H5 k5 s5 r5;obtain⟨t2,e2,a6⟩:=a4.opt;exact i' u w G5 H5 y d t2 _ k5.gh (ry.mono s5) r5 e2 (a6 t2 G5 H5 k5 s5 Cj)
def oIB(g:Int->Int->Bool):D->D->Cy
 |.int i,.int j=>Ci (g i j)
 |_,_=>Ck
theorem OpB.int{f:JS->JS->Sem JS}{g:Int->Int->Bool}(h:OpR X f (rI0 λi j=>.bl (g i j))):OpB X f (oIB g):=by
 refine⟨_,h,λv u G H x y d Q s rx ry e k=>?_⟩;unfold oIB at e;split at e
 .cases e
  exact⟨_,_,rx.int_inv,ry.int_inv,k⟩
 .cases e
theorem B_lt:OpB X (J4 .Lt) (oIB λi j=>decide (i<j)):=.int MW
theorem B_le:OpB X (J4 .LtE) (oIB λi j=>decide (i<=j)):=.int Ly
theorem B_gt:OpB X (J4 .Gt) (oIB λi j=>decide (j<i)):=.int Lx
theorem B_ge:OpB X (J4 .GtE) (oIB λi j=>decide (j<=i)):=.int Lw
mutual
theorem ZM{pins:List (JV×Obj)}{s:JT}{σ:St}{G H:Hp}(I:Inv X pins σ H s)(sg:Same G H):∀{v:V}{d:D}{u:JS},Rep X.K G v d->RelV v u->d.canLay0=Cm->∃as,Reads s.heap u d as
 |_,_,_,.non,r,_=>by cases r;exact⟨_,.none⟩
 |_,_,_,.bl b,r,_=>by cases r;exact⟨_,.bool b⟩
 |_,_,_,.int i,r,_=>by obtain⟨t,rfl⟩:=r;exact⟨_,.int i t⟩
 |_,_,_,.str x,r,_=>by obtain⟨t,rfl⟩:=r;exact⟨_,.str x t⟩
 |_,_,_,.lst h q,r,c=>by cases r;obtain⟨its,rv,⟨o,n,e,hc,_,hd⟩,hz⟩:=I.list (sg.seq h);obtain⟨as,ra⟩:=readsAll_of I sg q rv (show Ub _=Cm by simpa[PyData.canLay0]using c);exact⟨_,.list e hc hd (by simpa using ra)⟩
 |_,_,_,.tup h q,r,c=>by cases r;obtain⟨its,rv,p,hz⟩:=I.tuple (Zn sg h);obtain⟨o,e,hc,n,hd⟩:=p;obtain⟨as,ra⟩:=readsAll_of I sg q rv (show Ub _=Cm by simpa[PyData.canLay0]using c);exact⟨_,.tuple e hc hd (by simpa using ra)⟩
 |_,_,_,.dic h,r,c=>by simp[PyData.canLay0]at c
 |_,_,_,.exc _ _ _ _,r,c=>by simp[PyData.canLay0]at c
 |_,_,_,.dct _ _ _ _ _,r,c=>by simp[PyData.canLay0]at c
 |_,_,_,.dtt _ _ _ _,r,c=>by simp[PyData.canLay0]at c
theorem readsAll_of{pins:List (JV×Obj)}{s:JT}{σ:St}{G H:Hp}(I:Inv X pins σ H s)(sg:Same G H):∀{vs:List V}{ds:Co}{us:Cq},Reps X.K G vs ds->Vals vs us->Ub ds=Cm->∃as,ReadsAll s.heap us ds as
 |_,_,_,.nil,r,_=>by cases r;exact⟨_,.nil⟩
 |_,_,_,.cons h t,r,c=>by
  cases r with
  |cons r1 r2=>have c':=c;rw[Ub,Qw]at c';obtain⟨as,ra⟩:=ZM I sg h r1 c'.1;obtain⟨bs,rb⟩:=readsAll_of I sg t r2 c'.2;exact⟨_,.cons ra rb⟩
end
def oEq(x y:D):Cy:=if x.canLay0=Cm/\y.canLay0=Cm/\x.depth<=60 then Ci (Ud x y)else Ck
def oNe(x y:D):Cy:=if x.canLay0=Cm/\y.canLay0=Cm/\x.depth<=60 then Ci (!Ud x y)else Ck
theorem Xr(hu:X.A.units+64<cLine):OpB X (J4 .Eq) oEq:=by
 refine⟨λv u H Q=>∃G x y d,Same G H/\Rep X.K G v x/\Rep X.K G u y/\oEq x y=Ci d/\Q (.bl d) H,?_,λv u G H x y d Q s rx ry e k=>⟨G,x,y,d,s,rx,ry,e,k⟩⟩;intro pins s σ H x y v u Q I rx ry ⟨G,dx,dy,d,sg,px,py,e,q⟩;unfold oEq at e;split at e
 .rename_i c
  cases e;obtain⟨as,ra⟩:=ZM I sg px rx c.1;obtain⟨bs,rb⟩:=ZM I sg py ry c.2.1;exact SeqAt.compareEq_reads ra rb c.1 c.2.1 (by have:=c.2.2;omega) ⟨.bl _,H,I,rfl,q⟩
 .cases e
theorem B_ne(hu:X.A.units+64<cLine):OpB X (J4 .NotEq) oNe:=by
 refine⟨λv u H Q=>∃G x y d,Same G H/\Rep X.K G v x/\Rep X.K G u y/\oNe x y=Ci d/\Q (.bl d) H,?_,λv u G H x y d Q s rx ry e k=>⟨G,x,y,d,s,rx,ry,e,k⟩⟩;intro pins s σ H x y v u Q I rx ry ⟨G,dx,dy,d,sg,px,py,e,q⟩;unfold oNe at e;split at e
 .rename_i c
  cases e;obtain⟨as,ra⟩:=ZM I sg px rx c.1;obtain⟨bs,rb⟩:=ZM I sg py ry c.2.1;exact SeqAt.compareNe_reads ra rb c.1 c.2.1 (by have:=c.2.2;omega) ⟨.bl _,H,I,rfl,q⟩
 .cases e
def isNon:D->Bool
 |.none=>Cm
 |_=>Cn
theorem Rep.isNon{K:Frag}{G:Hp}{v:V}{d:D}(r:Rep K G v d):DL.isNon d=decide (v=.non):=by cases r<;>simp[DL.isNon]
end
section
variable{X:Cx}{B G0:Hp}{e a b c:JX}{pos:Pos}{es rest:Cr}
theorem tM.nx{K:Frag}{α β γ δ:Type}{R:Hp->γ->α->Prop}{S:Hp->δ->β->Prop}{σ:St}{G H:Hp}{Z:Ul}{f:M α}{g:α->M β}{Q:δ->Hp->Prop}{P:γ->Hp->Prop}
  (k:EOk K B G0 G H σ Z) (a:aft K B G0 S (UD f g Z) G σ Q) (i:∀v H' G' Z' x,EOk K B G0 G' H' σ Z'->Same G G'->R G' v x->aft K B G0 S (g x Z') G' σ Q->P v H'):tM K B G0 R f σ H P:=by
 refine⟨G,Z,k,?_⟩;unfold UD at a;cases q:f Z with
 |bad=>rw[q]at a;exact a.elim
 |ok d Z1=>rw[q]at a;exact λv G' H' e s r=>i v H' G' Z1 d e s r (aft.mono s a)
def K5(f g:M Bool):M Bool:=UD f λt=>if t=Cm then g else Uq Cn
def mOr(f g:M Bool):M Bool:=UD f λt=>if t=Cm then Uq Cm else g
def UP(f:M Bool):M Bool:=UA (λt=>!t) f
theorem HF{K:Frag}{f g:M Bool}{σ:St}{H:Hp}{Q:Bool->Hp->Prop}(q:tBo K B G0 (K5 f g) σ H Q):tAnd (tBo K B G0 f) (tBo K B G0 g) σ H Q:=
 tM.one (R:=λ_ b c=>b=c) q λv H2 G Z x k r a=>by
  have r:v=x:=r;subst r;cases v with
  |true=>exact⟨G,Z,k,a⟩
  |false=>exact aft.now (v:=Cn) a k Cj
theorem L0{K:Frag}{f g:M Bool}{σ:St}{H:Hp}{Q:Bool->Hp->Prop}(q:tBo K B G0 (mOr f g) σ H Q):tOr (tBo K B G0 f) (tBo K B G0 g) σ H Q:=
 tM.one (R:=λ_ b c=>b=c) q λv H2 G Z x k r a=>by
  have r:v=x:=r;subst r;cases v with
  |false=>exact⟨G,Z,k,a⟩
  |true=>exact aft.now (v:=Cm) a k Cj
theorem pwof{t t':TT}(h:PW X e t)(i:∀σ H Q,t' σ H Q->t σ H Q):PW X e t':=λwh pins s σ H Q I q=>h wh pins s σ H Q I (i σ H Q q)
theorem FL{f:M Bool}(ha:PT X a (tBo X.K B G0 f)):PW X (.BoolOp .And [a] pos) (tBo X.K B G0 f):=Fk ha
theorem Ob{f:M Bool}(ha:PT X a (tBo X.K B G0 f)):PW X (.BoolOp .Or [a] pos) (tBo X.K B G0 f):=LD ha
theorem HE{f g:M Bool}(ha:PT X a (tBo X.K B G0 f))(hb:PW X (.BoolOp .And (b::rest) pos) (tBo X.K B G0 g)):PW X (.BoolOp .And (a::b::rest) pos) (tBo X.K B G0 (K5 f g)):=pwof (LC ha hb) λ_ _ _ q=>HF q
theorem Ph{f g:M Bool}(ha:PT X a (tBo X.K B G0 f))(hb:PW X (.BoolOp .Or (b::rest) pos) (tBo X.K B G0 g)):PW X (.BoolOp .Or (a::b::rest) pos) (tBo X.K B G0 (mOr f g)):=pwof (La ha hb) λ_ _ _ q=>L0 q
theorem Tr{f:M Bool}(ha:PT X a (tBo X.K B G0 f)):PT X (.UnaryOp .Not a pos) (tBo X.K B G0 (UP f)):=Zu (LB ha) λσ H Q q=>tM.map (R:=λ_ b c=>b=c) (λt=>!t) q λ_ v x e=>by rw[e]
def KG(f:M D):M Bool:=UD f λx=>match x with | .bool t=>Uq t|_=>λ_=>.bad
theorem Tq{f:M D}(h:PE X e (tD X.K B G0 f))(he:∀whole,isTrue e X.env whole=(do let v ←whole;standAt e.pos;holding [v] (truthy v)):=by intro _;rfl):PT X e (tBo X.K B G0 (KG f)):=
 Zu (LF h he) λσ H Q q=>tM.one (R:=Rep X.K) q λv H2 G Z x k r a=>by
  cases x with
  |bool t=>exact⟨t,r.bl_inv,aft.now (v:=t) a k Cj⟩
  |_=>exact a.elim
def Xv(f g:M D):M D:=UD f λx=>match x with | .bool Cm=>g | .bool Cn=>Uq (.bool Cn)|_=>λ_=>.bad
def YA(f g:M D):M D:=UD f λx=>match x with | .bool Cm=>Uq (.bool Cm) | .bool Cn=>g|_=>λ_=>.bad
def Vh(f:M D):M D:=UD f λx=>match x with | .bool t=>Uq (.bool (!t))|_=>λ_=>.bad
theorem HD{f g:M D}(ha:PE X a (tD X.K B G0 f))(hb:PE X (.BoolOp .And (b::rest) pos) (tD X.K B G0 g)):PE X (.BoolOp .And (a::b::rest) pos) (tD X.K B G0 (Xv f g)):=
 UI (Lz ha hb) λσ H Q q=>tM.one (R:=Rep X.K) q λv H2 G Z x k r a=>by
  cases x with
  |bool t=>
   refine⟨t,r.bl_inv,?_⟩;cases t with
   |true=>exact⟨G,Z,k,a⟩
   |false=>exact aft.now a k (.bl Cn)
  |_=>exact a.elim
theorem Hx{f g:M D}(ha:PE X a (tD X.K B G0 f))(hb:PE X (.BoolOp .Or (b::rest) pos) (tD X.K B G0 g)):PE X (.BoolOp .Or (a::b::rest) pos) (tD X.K B G0 (YA f g)):=
 UI (M7 ha hb) λσ H Q q=>tM.one (R:=Rep X.K) q λv H2 G Z x k r a=>by
  cases x with
  |bool t=>
   refine⟨t,r.bl_inv,?_⟩;cases t with
   |false=>exact⟨G,Z,k,a⟩
   |true=>exact aft.now a k (.bl Cm)
  |_=>exact a.elim
theorem HC{op}{f:M D}(h:PE X a (tD X.K B G0 f)):PE X (.BoolOp op [a] pos) (tD X.K B G0 f):=LA h
theorem HB{f:M D}(ha:PE X a (tD X.K B G0 f)):PE X (.UnaryOp .Not a pos) (tD X.K B G0 (Vh f)):=
 UI (Hr ha) λσ H Q q=>tM.one (R:=Rep X.K) q λv H2 G Z x k r a=>by
  cases x with
  |bool t=>exact⟨t,r.bl_inv,aft.now a k (.bl _)⟩
  |_=>exact a.elim
theorem HA{f:M D}{j p2}(ha:PE X a (tD X.K B G0 f)):PT X (.Compare a [.Is] [.Constant .none j p2] pos) (tBo X.K B G0 (UA isNon f)):=
 Zu (Pn (Pp ha)) λσ H Q q=>tM.one (R:=Rep X.K) q λv H2 G Z x k r a=>⟨_,rfl,aft.now a k (by rw[r.isNon])⟩
theorem FJ{f:M D}{j p2}(ha:PE X a (tD X.K B G0 f)):PT X (.Compare a [.IsNot] [.Constant .none j p2] pos) (tBo X.K B G0 (UA (λd=>!isNon d) f)):=
 Zu (Pn (Oj ha)) λσ H Q q=>tM.one (R:=Rep X.K) q λv H2 G Z x k r a=>⟨_,rfl,aft.now a k (by dsimp only;rw[r.isNon])⟩
theorem Hz{f:M D}{j p2}(ha:PE X a (tD X.K B G0 f)):PE X (.Compare a [.Is] [.Constant .none j p2] pos) (tD X.K B G0 (UA (λd=>.bool (isNon d)) f)):=
 UI (Po (Pp ha)) λσ H Q q=>tM.one (R:=Rep X.K) q λv H2 G Z x k r a=>aft.now a k (by dsimp only;rw[r.isNon];exact .bl _)
theorem FI{f:M D}{j p2}(ha:PE X a (tD X.K B G0 f)):PE X (.Compare a [.IsNot] [.Constant .none j p2] pos) (tD X.K B G0 (UA (λd=>.bool (!isNon d)) f)):=
 UI (Po (Oj ha)) λσ H Q q=>tM.one (R:=Rep X.K) q λv H2 G Z x k r a=>aft.now a k (by dsimp only;rw[r.isNon];exact .bl _)
def Um:M Co:=Uq []
def Up(f:M D)(g:M Co):M Co:=UD f λx=>UD g λxs=>Uq (x::xs)
theorem Kq:PA X [] (tDs X.K B G0 Um):=paof Y3 λσ H Q ⟨G,Z,k,a⟩=>aft.now a k .nil
theorem tM.twoA{K:Frag}{σ:St}{H:Hp}{f:M D}{g:M Co}{β δ:Type}{S:Hp->δ->β->Prop}{k:D->Co->M β}{Q:δ->Hp->Prop}{P:V->List V->Hp->Prop}
  (h:tM K B G0 S (UD f λx=>UD g λy=>k x y) σ H Q)
  (i:∀v u H2 G Z x y,EOk K B G0 G H2 σ Z->Rep K G v x->Reps K G u y->aft K B G0 S (k x y Z) G σ Q->P v u H2) :
  tD K B G0 f σ H (λv H1=>tDs K B G0 g σ H1 λu H2=>P v u H2):=by
 obtain⟨G,Z,e,a⟩:=tM.bind2 (R:=Rep K) (R':=Reps K) Oh h;refine⟨G,Z,e,?_⟩;cases q:f Z with
 |bad=>rw[q]at a;exact a.elim
 |ok d Z1=>
  rw[q]at a;intro v G' H' e' s r;obtain⟨x,G2,Z2,e2,a2⟩:=a v G' H' e' s r;refine⟨G2,Z2,e2,?_⟩;cases q2:g Z2 with
  |bad=>rw[q2]at a2;exact a2.elim
  |ok d3 Z3=>rw[q2]at a2;intro u G3 H3 e3 s3 r3;obtain⟨G4,Z4,y,e4,r4,r5,a5⟩:=a2 u G3 H3 e3 s3 r3;exact i v u H3 G4 Z4 x y e4 r4 r5 a5
theorem UK{f:M D}{g:M Co}(ha:PE X e (tD X.K B G0 f))(hr:PA X es (tDs X.K B G0 g))(hs:J0 (e::es) X.env=(Cn,eval e X.env)::J0 es X.env:=by rfl) :
  PA X (e::es) (tDs X.K B G0 (Up f g)):=paof (Ys ha hr hs) λσ H Q q=>tM.twoA q λv u H2 G Z x y k r1 r2 a=>aft.now a k (.cons r1 r2)
def U3(f:M Co):M D:=UD f λxs=>if xs.length<=1000000 then Uq (.tuple xs)else λ_=>.bad
def UJ(f:M Co):M D:=UD f λxs=>if xs.length<=1000000 then Uq (.list xs)else λ_=>.bad
theorem Hy{x1}{f:M Co}(h:PA X es (tDs X.K B G0 f)):PE X (.Tuple es x1 pos) (tD X.K B G0 (U3 f)):=
 UI (Pk h) λσ H Q q=>tM.one (R:=Reps X.K) q λv H2 G Z x k r a=>by
  split at a
  .rename_i c
   refine⟨by rw[r.length];exact QJ c lim,λp hp=>?_⟩;exact aft.done a k (Ext.new k.gh hp) (.tup (SqT.of Kk) (r.mono (KD (k.gh.free hp))))
  .exact a.elim
theorem Yr{f:M Co}(h:PA X es (tDs X.K B G0 f)):PE X (.List es pos) (tD X.K B G0 (UJ f)):=
 UI (Pj h) λσ H Q q=>tM.one (R:=Reps X.K) q λv H2 G Z x k r a=>by
  split at a
  .rename_i c
   refine⟨by rw[r.length];exact QJ c lim,λp hp=>?_⟩;exact aft.done a k (Ext.new k.gh hp) (.lst (SqL.of Kk) (r.mono (KD (k.gh.free hp))))
  .exact a.elim
def oIx:D->D->Cs
 |.list xs,.int i=>atI xs i
 |.tuple xs,.int i=>atI xs i
 |.str z,.int i=>if z.length<=1000000 then(atI z.cps.toList i).map λc=>.str ⟨#[c]⟩else Ck
 |_,_=>Ck
theorem Reps.atI{K:Frag}{G:Hp}{vs:List V}{ds:Co}{i:Int}{d:D}(r:Reps K G vs ds)(h:L2.atI ds i=Ci d):∃v,L2.atI vs i=Ci v/\Rep K G v d:=by
 unfold L2.atI at h⊢;rw[r.length];cases z:ixN ds.length i with
 |none=>rw[z]at h;cases h
 |some j=>rw[z]at h;exact r.get (i:=j) h
theorem Pg{K:Frag}{v u:V}{G H:Hp}{x y d:D}{Q:VK}(s:Same G H)(rx:Rep K G v x)(ry:Rep K G u y)(e:oIx x y=Ci d)(k:∀w,Rep K G w d->Q w H):rIx K v u H Q:=by
 unfold oIx at e;split at e
 .obtain⟨l,vs,rfl,h1,r1⟩:=rx.lst_inv
  obtain⟨w,e1,r2⟩:=r1.atI e;exact .inl ⟨l,vs,_,w,rfl,ry.int_inv,s.seq h1,e1,k w r2⟩
 .obtain⟨l,vs,rfl,h1,r1⟩:=rx.tup_inv
  obtain⟨w,e1,r2⟩:=r1.atI e;exact .inr (.inl ⟨l,vs,_,w,rfl,ry.int_inv,Zn s h1,e1,k w r2⟩)
 .split at e
  .rename_i z i hz
   cases q:L2.atI z.cps.toList i with
   |none=>rw[q]at e;cases e
   |some ch=>rw[q]at e;cases e;exact .inr (.inr ⟨z,i,ch,rx.str_inv,ry.int_inv,QJ hz lim,q,k _ (.str _)⟩)
  .cases e
 .cases e
theorem Tf{f g:M D}(ha:PE X a (tD X.K B G0 f))(hb:PE X b (tD X.K B G0 g))(hs:Ts b):PE X (.Subscript a b pos) (tD X.K B G0 (Uo oIx f g)):=
 UI (T8 Ss ha hb hs) λσ H Q q=>tM.two q λv u H2 G Z x y k rx ry a=>by obtain⟨d,e,a⟩:=a.opt;exact Pg k.gh rx ry e λw r=>a.now k r
def Uz(i:Nat)(g:M D):M D:=λZ=>match Z[i]? with
 |some (Ci (.pub d))=>(UD g λy=>Ux (oIx d y)) Z
 |some (Ci (.own _))=>(UD g λy=>λZ'=>match Z'[i]? with|some (Ci (.own ds))=>Ux (oIx (.list ds) y) Z'|_=>.bad) Z
 |_=>.bad
theorem VF{i:Nat}{g:M D}(ha:PE X a (U7 i))(hb:PE X b (tD X.K B G0 g))(hs:Ts b):PE X (.Subscript a b pos) (tD X.K B G0 (Uz i g)):=
 UI (T8 Ss ha hb hs) λσ H Q ⟨G,Z,k,a⟩=>by
  unfold Uz at a;cases q:Z[i]? with
  |none=>rw[q]at a;exact a.elim
  |some o=>
   cases o with
   |none=>rw[q]at a;exact a.elim
   |some sl=>
    cases sl with
    |deep _ _=>rw[q]at a;exact a.elim
    |pub d=>
     rw[q]at a;obtain⟨v,h1,h2⟩:=k.pub i d q;refine⟨v,h1,G,Z,k,?_⟩;dsimp only[UD]at a;cases z:g Z with
     |bad=>rw[z]at a;exact a.elim
     |ok y Z1=>rw[z]at a;intro u G' H' k' s' r';obtain⟨d',e',a'⟩:=aft.opt a;exact Pg k'.gh (h2.mono s') r' e' λw r=>a' w G' H' k' s' r
    |own ds=>
     rw[q]at a;obtain⟨ad,vs,h1,h2,h3,h4,h5⟩:=k.own i ds q;refine⟨.ref ad,h1,G,Z,k,?_⟩;dsimp only[UD]at a;cases z:g Z with
     |bad=>rw[z]at a;exact a.elim
     |ok y Z1=>
      rw[z]at a;dsimp only at a;intro u G' H' k' s' r';cases z2:Z1[i]? with
      |none=>rw[z2]at a;exact a.elim
      |some o2=>
       cases o2 with
       |none=>rw[z2]at a;exact a.elim
       |some sl2=>
        cases sl2 with
        |deep _ _=>rw[z2]at a;exact a.elim
        |pub d2=>rw[z2]at a;exact a.elim
        |own es2=>
         rw[z2]at a;obtain⟨d',e',a'⟩:=aft.opt a;obtain⟨ad',vs',g1,g2,g3,g4,g5⟩:=k'.own i es2 z2;rw[h1]at g1;cases g1;unfold oIx at e';cases y with
         |int j=>obtain⟨w,e1,r2⟩:=g5.atI e';exact .inl ⟨ad,vs',j,w,rfl,r'.int_inv,SqL.of g4,e1,a' w G' H' k' s' r2⟩
         |_=>cases e'
def cutD(xs:Co)(lo hi:Cu):Co:=(xs.drop (HT.sIx xs.length 0 lo)).take (HT.sIx xs.length xs.length hi-HT.sIx xs.length 0 lo)
theorem Reps.cut{K:Frag}{G:Hp}{vs:List V}{ds:Co}(r:Reps K G vs ds)(lo hi:Cu):Reps K G (Z8 vs lo hi) (cutD ds lo hi):=by unfold Z8 cutD;rw[r.length];exact(r.drop _).take _
def KB:D->Option Cu
 |.int i=>Ci (Ci i)
 |_=>Ck
theorem Rm:PO X Ck (tOi X.K B G0 (Uq Ck)):=poof HW λσ H Q ⟨G,Z,k,a⟩=>aft.now a k Cj
theorem XN{f:M D}(h:PE X e (tD X.K B G0 f)):PO X (Ci e) (tOi X.K B G0 (UD f λx=>Ux (KB x))):=poof (HV h) λσ H Q q=>tM.one (R:=Rep X.K) q λv H2 G Z x k r a=>by
 cases x with
 |int i=>exact⟨i,r.int_inv,aft.now (v:=Ci i) a k Cj⟩
 |_=>exact a.elim
end
def ZP:List (D×D)->Bool
 |(.none,_)::_=>Cm
 |_=>Cn
def ZZ:D->String
 |.none=> "NoneType"
 |.bool _=> "bool"
 |.int _=> "int"
 |.str _=> "str"
 |.list _=> "list"
 |.tuple _=> "tuple"
 |.dict kvs=>if ZP kvs=Cm then "" else "dict"
def UR(d:D)(c:String):Bool:=ZZ d==c || (ZZ d == "bool" && c == "int")
def Vl:D->Bool
 |.dict kvs=>ZP kvs
 |_=>Cn
theorem nty{kvs:List (D×D)}{c:String}(h:(("dict" == c) || ("" == c))=Cn):UR (.dict kvs) c=Cn:=by
 obtain⟨h1,h2⟩:=Bool.or_eq_false_iff.mp h
 show((if ZP kvs=Cm then "" else "dict")==c || ((if ZP kvs=Cm then "" else "dict") == "bool" && c == "int"))=Cn
 cases ZP kvs with
 |true=>rw[Qs Cj,h2];rfl
 |false=>rw[QM (by decide),h1];rfl
theorem Pf{ks:CB}{ds:Co}:ZZ (.dict ((ks.map kD).zip ds)) = "dict" /\ Vl (.dict ((ks.map kD).zip ds))=Cn:=by
 cases ks with
 |nil=>exact⟨rfl,rfl⟩
 |cons k ks=>
  cases ds with
  |nil=>exact⟨rfl,rfl⟩
  |cons d ds=>cases k<;>exact⟨rfl,rfl⟩
theorem Gx(K:Frag)(d:D)(c:String)(nx:Vl d=Cn)(hc:c = "int" ∨ c = "bool" ∨ c = "str" ∨ c = "list" ∨ c = "tuple" ∨ c = "dict"):PySem.W.kitOne K (.type (ZZ d)) (.type c)=Ci (UR d c):=by
 cases d with
 |dict kvs=>
  have e:ZZ (.dict kvs) = "dict" :=by
   have nx:ZP kvs=Cn:=nx
   show(if ZP kvs=Cm then "" else "dict")=_
   rw[nx];rfl
  unfold UR;rw[e];rcases hc with rfl|rfl|rfl|rfl|rfl|rfl<;>rfl
 |_=>rcases hc with rfl|rfl|rfl|rfl|rfl|rfl<;>rfl
section
variable{X:Cx}{B G0:Hp}{e a b c:JX}{pos:Pos}{es rest:Cr}
def ZB(X:Cx)(f:JS)(p:Co->Cs):Prop:=
 ∃r,Zo X f r/\∀vs G H ds d Q,Same G H->Reps X.K G vs ds->p ds=Ci d->(∀w G' H',Ext G H G' H'->Rep X.K G' w d->Q w H')->r vs H Q
def Za(p:Co->Cs)(f:M Co):M D:=UD f λxs=>Ux (p xs)
theorem Va{x:Str}{p2:Pos}{id:String}{p:Co->Cs}{f:M Co}(hc:ZB X (.builtin id) p)(hg:Gl X x)(hm:X.mg x=Ck)(hv:bootBuiltins x=Ci (.builtin id))(ha:PA X (e::es) (tDs X.K B G0 f))(hn:x ≠ "__name__" :=by decide)(hdb:(x==("__debug__" : Str))=Cn:=by decide)
  (he:J0 (e::es) X.env=(Cn,eval e X.env)::J0 es X.env:=by rfl) (hpl:(backTo pos (J0 es X.env)).any (·.1)=Cn:=by rfl):PE X (.Call (.Name x p2) (e::es) [] pos) (tD X.K B G0 (Za p f)):=by
 obtain⟨r,h,i⟩:=hc;refine UI (VL h hg hm hv ha hn hdb he hpl) λσ H Q q=>tM.one (R:=Reps X.K) q λv H2 G Z x k rr a=>?_
 obtain⟨d,e,a⟩:=a.opt;exact i v G H2 x d Q k.gh rr e λw G' H' ex rw=>a.done k ex rw
theorem Nu{x:Str}{p2:Pos}{T:String}{p:Co->Cs}{f:M Co}(hc:ZB X (.type T) p)(hg:Gl X x)(hm:X.mg x=Ck)(hv:bootBuiltins x=Ci (.type T))(ha:PA X (e::es) (tDs X.K B G0 f))(hn:x ≠ "__name__" :=by decide)(hdb:(x==("__debug__" : Str))=Cn:=by decide)
  (he:J0 (e::es) X.env=(Cn,eval e X.env)::J0 es X.env:=by rfl) (hpl:(backTo pos (J0 es X.env)).any (·.1)=Cn:=by rfl):PE X (.Call (.Name x p2) (e::es) [] pos) (tD X.K B G0 (Za p f)):=by
 obtain⟨r,h,i⟩:=hc;refine UI (TK h hg hm hv ha hn hdb he hpl) λσ H Q q=>tM.one (R:=Reps X.K) q λv H2 G Z x k rr a=>?_
 obtain⟨d,e,a⟩:=a.opt;exact i v G H2 x d Q k.gh rr e λw G' H' ex rw=>a.done k ex rw
theorem Reps.nil_inv{K:Frag}{G:Hp}{vs:List V}(r:Reps K G vs []):vs=[]:=by cases r;rfl
theorem Reps.one_inv{K:Frag}{G:Hp}{vs:List V}{d:D}(r:Reps K G vs [d]):∃v,vs=[v]/\Rep K G v d:=by
 cases r with
 |cons h t=>cases t;exact⟨_,rfl,h⟩
theorem Reps.two_inv{K:Frag}{G:Hp}{vs:List V}{d d':D}(r:Reps K G vs [d,d']):∃v v',vs=[v,v']/\Rep K G v d/\Rep K G v' d':=by
 cases r with
 |cons h t=>obtain⟨v',rfl,r'⟩:=t.one_inv;exact⟨_,v',rfl,h,r'⟩
def UU:Co->Cs
 |[.list xs]=>Ci (.int xs.length)
 |[.tuple xs]=>Ci (.int xs.length)
 |[.str z]=>if z.length<=1000000 then Ci (.int z.length)else Ck
 |_=>Ck
theorem R4:ZB X (.builtin "len") UU:=by
 refine⟨_,OY,λvs G H ds d Q s r e k=>?_⟩;unfold UU at e;split at e
 .cases e
  obtain⟨v,rfl,q⟩:=r.one_inv;obtain⟨l,ws,rfl,h1,r1⟩:=q.lst_inv;exact⟨.ref l,ws.length,rfl,.inl ⟨ws,s.seq h1,rfl⟩,by rw[r1.length];exact k _ G H (.refl s) (.int _)⟩
 .cases e
  obtain⟨v,rfl,q⟩:=r.one_inv;obtain⟨l,ws,rfl,h1,r1⟩:=q.tup_inv;exact⟨.ref l,ws.length,rfl,.inr ⟨ws,Zn s h1,rfl⟩,by rw[r1.length];exact k _ G H (.refl s) (.int _)⟩
 .split at e
  .rename_i z hz
   cases e;obtain⟨v,rfl,q⟩:=r.one_inv;exact⟨.str z,z.length,by rw[q.str_inv],⟨QJ hz lim,rfl⟩,k _ G H (.refl s) (.int _)⟩
  .cases e
 .cases e
def VS:Co->Cs
 |[.int i,.int j]=>Ci (.int (if j > i then j else i))
 |_=>Ck
theorem Hw(hc:X.calm=Cm):ZB X (.builtin "max") VS:=by
 refine⟨_,E4 hc,λvs G H ds d Q s r e k=>?_⟩;unfold VS at e;split at e
 .cases e
  obtain⟨v,v',rfl,r1,r2⟩:=r.two_inv;exact⟨_,_,by rw[r1.int_inv,r2.int_inv],k _ G H (.refl s) (.int _)⟩
 .cases e
def Vk:Co->Cs
 |[.int i]=>if i.natAbs.log2<1920 then Ci (.str (toString i))else Ck
 |_=>Ck
theorem Hv:ZB X (.type "str") Vk:=by
 refine⟨_,DR,λvs G H ds d Q s r e k=>?_⟩;unfold Vk at e;split at e
 .split at e
  .rename_i hz
   cases e;obtain⟨v,rfl,q⟩:=r.one_inv;exact⟨_,by rw[q.int_inv],hz,k _ G H (.refl s) (.str _)⟩
  .cases e
 .cases e
def Kn(i:Nat):M D:=λZ=>match Z[i]? with
 |some (Ci (.pub d))=>Ux (UU [d]) Z
 |some (Ci (.own ds))=>.ok (.int ds.length) Z
 |_=>.bad
theorem OW{i:Nat}{p2:Pos}(hg:Gl X "len")(hm:X.mg "len" = Ck)(ha:PE X e (U7 i))(he:J0 [e] X.env=[(Cn,eval e X.env)]:=by rfl):PE X (.Call (.Name "len" p2) [e] [] pos) (tD X.K B G0 (Kn i)):=by
 refine UI (VL OY hg hm PySem.boot_len (Ys ha Y3 (by rw[he];rfl)) (by decide) (by decide) (by rw[he];rfl) Cj) λσ H Q ⟨G,Z,k,a⟩=>?_
 unfold Kn at a;cases q:Z[i]? with
 |none=>rw[q]at a;exact a.elim
 |some o=>
  cases o with
  |none=>rw[q]at a;exact a.elim
  |some sl=>
   cases sl with
   |deep _ _=>rw[q]at a;exact a.elim
   |pub d=>
    rw[q]at a;obtain⟨v,h1,h2⟩:=k.pub i d q;refine⟨v,h1,?_⟩;obtain⟨d',e',a'⟩:=aft.opt a;obtain⟨r,hr,ir⟩:=@R4 X;show ∃x n,[v]=[x]/\LenV X.K x H n/\Q (.int n) H;unfold UU at e';split at e'
    .rename_i xs he'
     injection he' with BI Bj;subst BI;cases e'
     obtain⟨l,ws,rfl,g1,r1⟩:=h2.lst_inv;exact⟨.ref l,ws.length,rfl,.inl ⟨ws,k.gh.seq g1,rfl⟩,by rw[r1.length];exact a'.now k (.int _)⟩
    .rename_i xs he'
     injection he' with BI Bj;subst BI;cases e'
     obtain⟨l,ws,rfl,g1,r1⟩:=h2.tup_inv;exact⟨.ref l,ws.length,rfl,.inr ⟨ws,Zn k.gh g1,rfl⟩,by rw[r1.length];exact a'.now k (.int _)⟩
    .rename_i z he'
     injection he' with BI Bj;subst BI
     split at e'
     .rename_i hz
      cases e';exact⟨.str z,z.length,by rw[h2.str_inv],⟨QJ hz lim,rfl⟩,a'.now k (.int _)⟩
     .cases e'
    .cases e'
   |own ds=>rw[q]at a;obtain⟨ad,vs,h1,g2,g3,h4,h5⟩:=k.own i ds q;exact⟨.ref ad,h1,.ref ad,vs.length,rfl,.inl ⟨vs,SqL.of h4,rfl⟩,by rw[h5.length];exact aft.now a k (.int _)⟩
theorem Gw{pins:List (JV×Obj)}{s:JT}{σ:St}{G H:Hp}{v:V}{u:JS}{d:D}{cv:JS}{t:Bool}{A:Around}{E:JS->JT->Prop}{Q:JS->JT->Prop}(I:Inv X pins σ H s)(sg:Same G H)(r:Rep X.K G v d)(rv:RelV v u)(nx:Vl d=Cn)
  (ek:PySem.W.kitOne X.K (.type (ZZ d)) cv=Ci t) (h:∀tk,Q (.bool t) {s with toks:=tk}):JZ (model X.prog X.w) A (call (.builtin "isinstance") [u,cv]) Q E s:=by
 cases r with
 |non=>cases rv;exact Jl PySem.W.kitx_none I.kIn True.intro ek (λz=>nomatch z) h
 |bl y=>cases rv;exact Jl PySem.W.kitx_bool I.kIn True.intro ek (λz=>nomatch z) h
 |int i=>obtain⟨t',rfl⟩:=rv;exact Jl PySem.W.kitx_int I.kIn True.intro ek (λz=>nomatch z) h
 |str y=>obtain⟨t',rfl⟩:=rv;exact Jl PySem.W.kitx_str I.kIn True.intro ek (λz=>nomatch z) h
 |lst hl _=>cases rv;obtain⟨its,r,⟨o,n,e,hc,_,hd⟩,hz⟩:=I.list (sg.seq hl);exact Jl PySem.W.kitx_list I.kIn ⟨o,e,hc⟩ ek (λz=>nomatch z) h
 |tup hl _=>cases rv;obtain⟨its,r,p,hz⟩:=I.tuple (Zn sg hl);obtain⟨o,e,hc,_⟩:=p;exact Jl PySem.W.kitx_tuple I.kIn ⟨o,e,hc⟩ ek (λz=>nomatch z) h
 |@dic ad hd=>
  cases rv;obtain⟨_,_,vs,_,p⟩:=(show KM X.prog X.w H s.heap ad (.dK [])from I.hok ad _ (sg _ _ hd))
  obtain⟨o,es,ep,h1,h2,_⟩:=p;exact Jl PySem.W.kitx_dict I.kIn ⟨o,h1,h2.1⟩ ek (λz=>nomatch z) h
 |exc _ _ _ _=>cases nx
 |@dct ad ks vs ds kvs e0 _ _ hd _=>
  cases rv;subst e0;rw[Pf.1]at ek;obtain⟨_,_,vs,_,p⟩:=(show KM X.prog X.w H s.heap ad (.dK (ks.zip _))from I.hok ad _ (sg _ _ hd))
  obtain⟨o,es,ep,h1,h2,_⟩:=p;exact Jl PySem.W.kitx_dict I.kIn ⟨o,h1,h2.1⟩ ek (λz=>nomatch z) h
 |@dtt ad ob ks vs ds kvs e0 _ hd _=>
  cases rv;subst e0;obtain⟨_,_,_,xs,_,o,es,ep,h1,h2,_⟩:=(show KM X.prog X.w H s.heap ad (.frz ob (.dT (ks.zip _)))from I.hok ad _ (sg _ _ hd))
  exact Jl PySem.W.kitx_dict I.kIn ⟨o,h1,h2.1⟩ ek (λz=>nomatch z) h
theorem Gv(c:String)(hc:c = "int" ∨ c = "bool" ∨ c = "str" ∨ c = "list" ∨ c = "tuple" ∨ c = "dict"):typeOf (.type c)=pure (.type "type"):=by rcases hc with rfl|rfl|rfl|rfl|rfl|rfl<;>kernel_rfl
theorem FH:Zo X (.builtin "isinstance") (λxs H Q=>∃v c G d,xs=[v,.ty c]/\Same G H/\Rep X.K G v d/\(c = "int" ∨ c = "bool" ∨ c = "str" ∨ c = "list" ∨ c = "tuple" ∨ c = "dict")/\Q (.bl (UR d c)) H):=by
 intro pins s σ H xs us Q I r h;obtain⟨v,c,G,d,rfl,sg,rp,hc,q⟩:=h;obtain⟨u,w',rfl,r1,r2⟩:=Se r;cases (show w'=Value.type c from r2);by_cases nx:Vl d=Cm
 .cases rp with
  |@exc a C dd bm nm vs ds ck hx hd rr=>
   refine FN (Ln I.ok.mod.kin) pins s σ H [.ref a,.ty c] [u,.type c] Q I r ⟨a,C,dd,bm,Cn,.ty c,Cn,rfl,⟨nm,ck⟩,sg _ _ hx,.inr ⟨c,rfl,Gv c hc,?_⟩,?_⟩
   .rw[ck.ty];rcases hc with rfl|rfl|rfl|rfl|rfl|rfl<;>rfl
   .have e:UR (.dict [(.none,.tuple [.str nm,.list ds])]) c=Cn:=by rcases hc with rfl|rfl|rfl|rfl|rfl|rfl<;>rfl
    rw[e]at q;exact q
  |dct e _ _ _ _=>subst e;rw[Pf.2]at nx;cases nx
  |dtt e _ _ _=>subst e;cases nx
  |_=>cases nx
 .have nx:Vl d=Cn:=by simpa using nx
  exact Gw I sg rp r1 nx (Gx X.K d c nx hc) λtk=>⟨.bl _,H,I.tok tk,rfl,q⟩
theorem Ce:bootBuiltins "isinstance" = Ci (.builtin "isinstance"):=by decide +kernel
theorem TD{f:M D}{p2 p3:Pos}{c:String}(hc:c = "int" ∨ c = "bool" ∨ c = "str" ∨ c = "list" ∨ c = "tuple" ∨ c = "dict")(hg:Gl X "isinstance")(hm:X.mg "isinstance" = Ck)(hg2:Gl X (Uf c))(hm2:X.mg (Uf c)=Ck)
  (hv2:bootBuiltins (Uf c)=Ci (.type c)) (ha:PE X e (tD X.K B G0 f)) (hn2:(Uf c) ≠ "__name__") (hd2:((Uf c)==("__debug__" : Str))=Cn)
  (hs:J0 [e,.Name (Uf c) p3] X.env=(Cn,eval e X.env)::J0 [.Name (Uf c) p3] X.env:=by rfl)
  (hs2:J0 [.Name (Uf c) p3] X.env=[(Cn,eval (.Name (Uf c) p3) X.env)]:=by rfl) :
  PE X (.Call (.Name "isinstance" p2) [e,.Name (Uf c) p3] [] pos) (tD X.K B G0 (UA (λd=>.bool (UR d c)) f)):=by
 refine UI (VL FH hg hm Ce (Ys ha (Ys (Fl (v:=.ty c) hg2 hm2 hv2 Cj hn2 hd2) Y3 (by rw[hs2];rfl)) hs) (by decide) (by decide) hs (by rw[hs2];rfl)) λσ H Q q=>?_
 refine tM.one (R:=Rep X.K) q λv H2 G Z x k r a=>?_
 exact⟨v,c,G,x,rfl,k.gh,r,hc,aft.now a k (.bl _)⟩
end
def spD(K:Frag)(n:Nat)(F:Co->Cs):Sp:=λvs H Q _=>∃G ds d,vs.length=n/\Same G H/\Reps K G vs ds/\F ds=Ci d/\∀v G' H',Ext G H G' H'->Rep K G' v d->Q v H'
section
variable{K:Frag}{B G0 G H:Hp}{σ:St}{Z:Ul}
theorem EOk.exit(k:EOk K B G0 G H σ Z):Ext G0 B G H:=⟨k.bh,k.g0,k.gh,k.np⟩
theorem Kr{α:Type}{l:List α}{i:Nat}{x y:α}(h:(l.set i x)[i]?=Ci y):y=x:=by
 by_cases hl:i<l.length
 .rw[QL hl]at h;cases h;rfl
 .rw[Jn (by rw[QZ];omega)]at h;cases h
theorem DpOk.setOther{i:Nat}{x:Option V}{y:Option Sl}(k:DpOk K B G H σ Z)(hy:∀s,y=Ci s->∃d,s=.pub d):DpOk K B G H (σ.set i x) (Z.set i y):=by
 have nz:∀{m:Nat}{s:Sl},(Z.set i y)[m]?=Ci (Ci s)->(∃d,s=.pub d)∨(Z[m]?=Ci (Ci s)/\(σ.set i x)[m]?=σ[m]?):=λ{m s} q=>by
  by_cases z:i=m
  .subst z
   exact .inl (hy s (Kr q).symm)
  .rw[Qk z]at q⊢;exact .inr ⟨q,rfl⟩
 refine k.map (λm p d q=>?_) (λm es q=>?_) λm p d v fp q s r w n=>⟨r,w⟩
 .rcases nz q with ⟨_,e⟩|q
  .cases e
  .exact q
 .rcases nz q with ⟨_,e⟩|q
  .cases e
  .exact⟨es,q⟩
theorem EOk.setPub{i:Nat}{v:V}{d:D}(k:EOk K B G0 G H σ Z)(r:Rep K G v d)(hi:i<Z.length):EOk K B G0 G H (σ.set i (Ci v)) (Z.set i (Ci (.pub d))) where
 bh:=k.bh
 gh:=k.gh
 g0:=k.g0
 np:=k.np
 len:=by rw[QZ,QZ];exact k.len
 pub:=λj d' q=>by
  by_cases z:i=j
  .subst z
   have:=Kr q;cases this;exact⟨v,QL (by rw[←k.len];exact hi),r⟩
  .rw[Qk z]at q⊢
   exact k.pub j d' q
 own:=λj ds q=>by
  by_cases z:i=j
  .subst z
   have:=Kr q;cases this
  .rw[Qk z]at q⊢
   exact k.own j ds q
 sep:=λj l c es fs q1 q2 s1 s2=>by
  have z1:i≠j:=λz=>by subst z;have:=Kr q1;cases this
  have z2:i≠l:=λz=>by subst z;have:=Kr q2;cases this
  rw[Qk z1]at q1 s1;rw[Qk z2]at q2 s2;exact k.sep j l c es fs q1 q2 s1 s2
 dp:=k.dp.setOther (λs e=>by cases e;exact⟨_,rfl⟩)
structure NewL(K:Frag)(B G H:Hp)(σ:St)(Z:Ul)(a:JV)(vs:List V)(ds:Co):Prop where
 b:B a=Ck
 g:G a=Ck
 h:H a=Ci (.lst vs)
 r:Reps K G vs ds
 f:∀(j:Nat) es,Z[j]?=Ci (Ci (.own es))->σ[j]?≠Ci (Ci (.ref a))
 dp:∀(j:Nat) p d v fp,Z[j]?=Ci (Ci (.deep p d))->σ[j]?=Ci (Ci v)->RepO K G H p v d fp->a∉fp
theorem EOk.freshD{H':Hp}{a:JV}(k:EOk K B G0 G H σ Z)(e:Same H H')(ha:H a=Ck){G':Hp}{j:Nat}{p:Pat}{d:D}{v:V}{fp:Ct}(q:Z[j]?=Ci (Ci (.deep p d)))(s:σ[j]?=Ci (Ci v))(r:RepO K G' H' p v d fp):a∉fp:=λm=>by obtain⟨ω,k1,k2⟩:=k.dp;obtain⟨v',fp',s',r',n,w⟩:=k1 j p d q;rw[s]at s';cases s';have u:=r'.uniq e r;subst u;obtain⟨ws,hl⟩:=r'.isl a m;rw[ha]at hl;cases hl
theorem EOk.setOwn{i:Nat}{a:JV}{vs:List V}{ds:Co}(k:EOk K B G0 G H σ Z)(n:NewL K B G H σ Z a vs ds)(hi:i<Z.length):EOk K B G0 G H (σ.set i (Ci (.ref a))) (Z.set i (Ci (.own ds))) where
 bh:=k.bh
 gh:=k.gh
 g0:=k.g0
 np:=k.np
 len:=by rw[QZ,QZ];exact k.len
 pub:=λj d' q=>by
  by_cases z:i=j
  .subst z
   have:=Kr q;cases this
  .rw[Qk z]at q⊢
   exact k.pub j d' q
 own:=λj es q=>by
  by_cases z:i=j
  .subst z
   have:=Kr q;cases this;exact⟨a,vs,QL (by rw[←k.len];exact hi),n.b,n.g,n.h,n.r⟩
  .rw[Qk z]at q⊢
   exact k.own j es q
 sep:=λj l c es fs q1 q2 s1 s2=>by
  have hs:i<σ.length:=by rw[←k.len];exact hi
  by_cases z1:i=j
  .subst z1
   rw[QL hs]at s1;cases s1;by_cases z2:i=l
   .exact z2
   .rw[Qk z2]at q2 s2
    exact absurd s2 (n.f l fs q2)
  .by_cases z2:i=l
   .subst z2
    rw[QL hs]at s2;cases s2;rw[Qk z1]at q1 s1;exact absurd s1 (n.f j es q1)
   .rw[Qk z1]at q1 s1
    rw[Qk z2]at q2 s2;exact k.sep j l c es fs q1 q2 s1 s2
 dp:=by
  obtain⟨ω,k1,k2⟩:=k.dp;have hs:i<σ.length:=by rw[←k.len];exact hi
  refine⟨λb=>if b=a then i else ω b,λj p d q=>?_,λj es b q s=>?_⟩
  .by_cases z:i=j
   .subst z;have:=Kr q;cases this
   .rw[Qk z]at q⊢
    obtain⟨v,fp,s,r,nn,w⟩:=k1 j p d q;refine⟨v,fp,s,r,nn,λb m=>⟨(w b m).1,(w b m).2.1,?_⟩⟩;dsimp only;rw[QM (λz=>n.dp j p d v fp q s r (by rw[←z];exact m))];exact(w b m).2.2
  .by_cases z:i=j
   .subst z
    rw[QL hs]at s;cases s;dsimp only;rw[Qs Cj]
   .rw[Qk z]at q s
    dsimp only;rw[QM (λe=>n.f j es q (by rw[←e];exact s))];exact k2 j es b q s
theorem EOk.change{i:Nat}{a:JV}{vs:List V}{ds es:Co}(k:EOk K B G0 G H σ Z)(q:Z[i]?=Ci (Ci (.own ds)))(ha:σ[i]?=Ci (Ci (.ref a)))(r:Reps K G vs es) :
  EOk K B G0 G (upd H a (.lst vs)) σ (Z.set i (Ci (.own es))):=by
 obtain⟨a',ws,h1,h2,h3,h4,h5⟩:=k.own i ds q;rw[ha]at h1;cases h1;have hi:i<Z.length:=(Qm.mp q).1;refine⟨λb o e=>?_,λb o e=>?_,k.g0,k.np,by rw[QZ];exact k.len,λj d' e=>?_,λj fs e=>?_,λj l c fs gs q1 q2 s1 s2=>?_,?_⟩
 .rw[US (Zm e h2)];exact k.bh b o e
 .rw[US (Zm e h3)];exact k.gh b o e
 .by_cases z:i=j
  .subst z
   have:=Kr e;cases this
  .rw[Qk z]at e
   exact k.pub j d' e
 .by_cases z:i=j
  .subst z
   have:=Kr e;cases this;exact⟨a,vs,ha,h2,h3,Kk,r⟩
  .rw[Qk z]at e
   obtain⟨c,us,g1,g2,g3,g4,g5⟩:=k.own j fs e;have zc:c≠a:=λw=>z (k.sep i j a ds fs q e ha (by rw[←w];exact g1))
   exact⟨c,us,g1,g2,g3,by rw[US zc];exact g4,g5⟩
 .have f:∀{m:Nat}{ts:Co},(Z.set i (Ci (Sl.own es)))[m]?=Ci (Ci (.own ts))->∃ts',Z[m]?=Ci (Ci (.own ts')):=λ{m ts} e=>by
   by_cases z:i=m
   .subst z;exact⟨ds,q⟩
   .rw[Qk z]at e;exact⟨ts,e⟩
  obtain⟨f1,w1⟩:=f q1;obtain⟨f2,w2⟩:=f q2;exact k.sep j l c f1 f2 w1 w2 s1 s2
 .refine k.dp.map (λj p d e=>?_) (λj fs e=>?_) λj p d v fp qj s rj w n=>⟨rj.upd (λ_ z=>by rw[h4]at z;cases z) (n i ds a q ha),w⟩
  .by_cases z:i=j
   .subst z;have:=Kr e;cases this
   .rw[Qk z]at e;exact⟨e,rfl⟩
  .by_cases z:i=j
   .subst z;exact⟨ds,q,rfl⟩
   .rw[Qk z]at e;exact⟨fs,e,rfl⟩
end
inductive Out where
 |nx (Z:Ul)|rt (d:D)|bk (Z:Ul)|ct (Z:Ul)|ex (Z:Ul) (d:D)|ro (ds:Co)|bad
abbrev SM:=Ul->Out
section
variable(K:Frag)(B G0:Hp)(KX:XW)
def aftS(o:Out)(G1:Hp)(Dn:Ends):Prop:=
 match o with
 |.nx Z=>∀σ G H,EOk K B G0 G H σ Z->Same G1 G->Dn.nx σ H
 |.bk Z=>∀σ G H,EOk K B G0 G H σ Z->Same G1 G->Dn.bk σ H
 |.ct Z=>∀σ G H,EOk K B G0 G H σ Z->Same G1 G->Dn.ct σ H
 |.rt d=>∀v G H,Ext G0 B G H->Rep K G v d->Dn.rt v H
 |.ro ds=>∀a vs G H,Ext G0 B G H->B a=Ck->G a=Ck->H a=Ci (.lst vs)->Reps K G vs ds->Dn.rt (.ref a) H
 |.ex Z d=>∀v σ G H,EOk K B G0 G H σ Z->Same G1 G->Rep K G v d->KX v σ H
 |.bad=>False
def tS(g:SM):TS:=λDn σ H=>∃G Z,EOk K B G0 G H σ Z/\aftS K B G0 KX (g Z) G Dn
def sB{α:Type}(f:M α)(g:α->SM):SM:=λZ=>match f Z with | .ok a Z'=>g a Z' | .bad=>.bad
end
section
variable{X:Cx}{B G0:Hp}{KX:XW}{e a b c:JX}{pos:Pos}{es rest:Cr}{st:Stmt}{sts sts2:List Stmt}
theorem aftS.mono{K:Frag}{o:Out}{G G':Hp}{Dn:Ends}(e:Same G G')(h:aftS K B G0 KX o G Dn):aftS K B G0 KX o G' Dn:=by
 cases o with
 |nx Z=>exact λσ G2 H2 k s=>h σ G2 H2 k (e.trans s)
 |bk Z=>exact λσ G2 H2 k s=>h σ G2 H2 k (e.trans s)
 |ct Z=>exact λσ G2 H2 k s=>h σ G2 H2 k (e.trans s)
 |rt d=>exact h
 |ro ds=>exact h
 |ex Z d=>exact λv σ G2 H2 k s r=>h v σ G2 H2 k (e.trans s) r
 |bad=>exact h
theorem tS.bnd{K:Frag}{α γ:Type}{R:Hp->γ->α->Prop}{f:M α}{g:α->SM}{Dn:Ends}{σ:St}{H:Hp}{P:γ->Hp->Prop}(q:tS K B G0 KX (sB f g) Dn σ H)
  (i:∀v H' G' Z' x,EOk K B G0 G' H' σ Z'->R G' v x->aftS K B G0 KX (g x Z') G' Dn->P v H'):tM K B G0 R f σ H P:=by
 obtain⟨G,Z,k,a⟩:=q;refine⟨G,Z,k,?_⟩;unfold sB at a;cases z:f Z with
 |bad=>rw[z]at a;exact a.elim
 |ok d Z1=>rw[z]at a;exact λv G' H' e s r=>i v H' G' Z1 d e r (aftS.mono s a)
def sNx:SM:=λZ=>.nx Z
def Ut(g h:SM):SM:=λZ=>match g Z with | .nx Z'=>h Z'|o=>o
theorem Te:PSs X [] (tS X.K B G0 KX sNx):=XS Fj λD σ H ⟨G,Z,k,a⟩=>a σ G H k (.refl _)
theorem ZU{g h:SM}(h1:PS X st (tS X.K B G0 KX g))(h2:PSs X sts (tS X.K B G0 KX h)):PSs X (st::sts) (tS X.K B G0 KX (Ut g h)):=XS (VM h1 h2) λD σ H ⟨G,Z,k,a⟩=>by
 refine⟨G,Z,k,?_⟩;unfold Ut at a;cases z:g Z with
 |nx Z1=>rw[z]at a;exact λσ' G' H' k' s'=>⟨G',Z1,k',aftS.mono s' a⟩
 |rt d=>rw[z]at a;exact a
 |ro ds=>rw[z]at a;exact a
 |bk Z1=>rw[z]at a;exact a
 |ct Z1=>rw[z]at a;exact a
 |ex Z1 d=>rw[z]at a;exact a
 |bad=>rw[z]at a;exact a.elim
theorem WS{g:SM}(h1:PS X st (tS X.K B G0 KX g)):PSs X [st] (tS X.K B G0 KX g):=Rj h1
def WR:SM:=λ_=>.bad
theorem FG:PS X st (tS X.K B G0 KX WR):=λ_ _ _ _ _ _ ⟨_,_,_,a⟩=>a.elim
def UH(f:M D):SM:=sB f λd _=>.rt d
theorem Sy{f:M D}(h:PE X e (tD X.K B G0 f)):PS X (.Return (Ci e) pos) (tS X.K B G0 KX (UH f)):=Ky (Ta h) λD σ H q=>tS.bnd (R:=Rep X.K) q λv H' G' Z' x k r a=>a v G' H' k.exit r
def WK(f:M D):SM:=sB f λ_ Z=>.nx Z
theorem Gu{f:M D}(h:PE X e (tD X.K B G0 f))(hs:swapsWith e Ck pos.line X.env=pure Cn:=by rfl):PS X (.Expr e pos) (tS X.K B G0 KX (WK f)):=Ky (Tt h hs) λD σ H q=>tS.bnd (R:=Rep X.K) q λv H' G' Z' x k r a=>a σ G' H' k (.refl _)
def sIf(f:M Bool)(g h:SM):SM:=sB f λt=>if t=Cm then g else h
theorem R3{f:M Bool}{g h:SM}(hc:PT X c (tBo X.K B G0 f))(ha:PSs X sts (tS X.K B G0 KX g))(hb:PSs X sts2 (tS X.K B G0 KX h)):PS X (.If c sts sts2 pos) (tS X.K B G0 KX (sIf f g h)):=
 Ky (RY hc ha hb) λD σ H q=>tS.bnd (R:=λ_ b c=>b=c) q λv H' G' Z' x k r a=>by
  have r:v=x:=r;subst r;cases v with
  |true=>exact⟨G',Z',k,a⟩
  |false=>exact⟨G',Z',k,a⟩
def tG(K:Frag)(B G0:Hp)(s:D->Ul->Cv):TG:=λv σ H Q=>∃G Z d Z',EOk K B G0 G H σ Z/\Rep K G v d/\s d Z=Ci Z'/\∀σ' G' H',EOk K B G0 G' H' σ' Z'->Same G G'->Q σ' H'
def tGs(K:Frag)(B G0:Hp)(s:Co->Ul->Cv):TGs:=λv σ H Q=>∃G Z d Z',EOk K B G0 G H σ Z/\Reps K G v d/\s d Z=Ci Z'/\∀σ' G' H',EOk K B G0 G' H' σ' Z'->Same G G'->Q σ' H'
theorem pgof{t t':TG}(h:PG X e t)(i:∀v σ H Q,t' v σ H Q->t v σ H Q):PG X e t':=λpins s σ H v u Q I r q=>h pins s σ H v u Q I r (i v σ H Q q)
theorem R1{t t':TGs}(h:PGs X es t)(i:∀v σ H Q,t' v σ H Q->t v σ H Q):PGs X es t':=λpins s σ H v u Q I r q=>h pins s σ H v u Q I r (i v σ H Q q)
def gN(i:Nat):D->Ul->Cv:=λd Z=>if i<Z.length then Ci (Z.set i (Ci (.pub d)))else Ck
theorem Yq{i:Nat}(h:PG X e (Sf i)):PG X e (tG X.K B G0 (gN i)):=pgof h λv σ H Q ⟨G,Z,d,Z',k,r,e,q⟩=>by
 unfold gN at e;split at e
 .rename_i hi
  cases e;exact q _ G H (k.setPub r hi) (.refl _)
 .cases e
def gN0:Co->Ul->Cv:=λd Z=>match d with | []=>Ci Z|_=>Ck
def gNC(s:D->Ul->Cv)(t:Co->Ul->Cv):Co->Ul->Cv:=λds Z=>match ds with|d::r=>(s d Z).bind (t r) | []=>Ck
theorem Sx:PGs X [] (tGs X.K B G0 gN0):=R1 Fi λv σ H Q ⟨G,Z,d,Z',k,r,e,q⟩=>by
 cases r with
 |nil=>cases e;exact⟨rfl,q σ G H k (.refl _)⟩
 |cons _ _=>cases e
theorem VE{s:D->Ul->Cv}{t:Co->Ul->Cv}(h1:PG X e (tG X.K B G0 s))(h2:PGs X es (tGs X.K B G0 t))
  (hs:(Ui (e::es) X.env).map (·.2)=assign e X.env::(Ui es X.env).map (·.2):=by rfl):PGs X (e::es) (tGs X.K B G0 (gNC s t)):=R1 (FV h1 h2 hs) λv σ H Q ⟨G,Z,d,Z',k,r,e,q⟩=>by
 cases r with
 |nil=>cases e
 |@cons w dw ws dws rw rt=>
  unfold gNC at e;dsimp only at e;cases z:s dw Z with
  |none=>rw[z]at e;cases e
  |some Z1=>rw[z]at e;refine⟨w,ws,rfl,G,Z,dw,Z1,k,rw,z,λσ' G' H' k' s'=>?_⟩;exact⟨G',Z1,dws,Z',k',rt.mono s',e,λσ2 G2 H2 k2 s2=>q σ2 G2 H2 k2 (s'.trans s2)⟩
def gT(n:Nat)(t:Co->Ul->Cv):D->Ul->Cv:=λd Z=>match d with | .tuple ds=>if ds.length=n then t ds Z else Ck|_=>Ck
theorem Sw{k1:Nat}{t:Co->Ul->Cv}{n:Nat}(hc:X.calm=Cm)(h:PGs X es (tGs X.K B G0 t))
  (hn:(Ui es X.env).length=n:=by rfl) (hst:(Ui es X.env).findIdx? (·.1)=Ck:=by rfl):PG X (.Tuple es k1 pos) (tG X.K B G0 (gT n t)):=pgof (Hq hc h hn hst) λv σ H Q ⟨G,Z,d,Z',k,r,e,q⟩=>by
 unfold gT at e;split at e
 .split at e
  .rename_i hl
   obtain⟨ad,vs,rfl,h1,r1⟩:=r.tup_inv;exact⟨ad,vs,rfl,Zn k.gh h1,by rw[r1.length];exact hl,G,Z,_,Z',k,r1,e,q⟩
  .cases e
 .cases e
def Zg(f:M D)(s:D->Ul->Cv):SM:=sB f λd Z=>match s d Z with|some Z'=>.nx Z'|none=>.bad
theorem Hu{tg:JX}{f:M D}{s:D->Ul->Cv}(he:PE X e (tD X.K B G0 f))(hg:PG X tg (tG X.K B G0 s))(hs:swapsWithSole [tg] e pos.line X.env=pure Cn:=by rfl)(hw:swappedStores [tg] e X.env=pure Ck:=by rfl)
  (h1:(Ui [tg] X.env).map (·.2)=[assign tg X.env]:=by rfl):PS X (.Assign [tg] e pos) (tS X.K B G0 KX (Zg f s)):=
 Ky (Hn he hg hs hw h1) λD σ H q=>tS.bnd (R:=Rep X.K) q λv H' G' Z' x k r a=>by
  cases z:s x Z' with
  |none=>rw[z]at a;exact a.elim
  |some Z2=>rw[z]at a;exact⟨G',Z',x,Z2,k,r,z,λσ2 G2 H2 k2 s2=>a σ2 G2 H2 k2 s2⟩
def UM(i:Nat)(f:M D):SM:=Zg f (gN i)
theorem Td{i:Nat}{x:Str}{f:M D}{p2:Pos}(hN:X.N.Nodup)(hi:X.N[i]?=Ci x)(hx:Loc X.env.scope x)(he:PE X e (tD X.K B G0 f))(hs:swapsWith e (Ci (.Name x p2)) pos.line X.env=pure Cn:=by rfl)
  (hf:X.fn x=Cm∨X.env.scope.names.lookup x=Ci .local:=by first|exact .inl rfl|exact .inr rfl|assumption):PS X (.Assign [.Name x p2] e pos) (tS X.K B G0 KX (UM i f)):=
 Ky (V9 hN hi hx he hs hf) λD σ H q=>tS.bnd (R:=Rep X.K) q λv H' G' Z' x k r a=>by
  unfold gN at a;split at a
  .rename_i Z2 hz
   split at hz
   .rename_i hi2
    cases hz;exact a _ G' H' (k.setPub r hi2) (.refl _)
   .cases hz
  .exact a.elim
def tL(K:Frag)(B G0:Hp)(f:M Co):TE:=λσ H Q=>∃G Z,EOk K B G0 G H σ Z/\match f Z with
 |.ok ds Z'=>∀a vs G' H',EOk K B G0 G' H' σ Z'->Same G G'->NewL K B G' H' σ Z' a vs ds->Q (.ref a) H'
 |.bad=>False
def Ku(i:Nat)(f:M Co):SM:=sB f λds Z=>if i<Z.length then .nx (Z.set i (Ci (.own ds)))else .bad
theorem Tp{i:Nat}{x:Str}{f:M Co}{p2:Pos}(hN:X.N.Nodup)(hi:X.N[i]?=Ci x)(hx:Loc X.env.scope x)(he:PE X e (tL X.K B G0 f))(hs:swapsWith e (Ci (.Name x p2)) pos.line X.env=pure Cn:=by rfl)
  (hf:X.fn x=Cm∨X.env.scope.names.lookup x=Ci .local:=by first|exact .inl rfl|exact .inr rfl|assumption):PS X (.Assign [.Name x p2] e pos) (tS X.K B G0 KX (Ku i f)):=
 Ky (V9 hN hi hx he hs hf) λD σ H ⟨G,Z,k,a⟩=>by
  refine⟨G,Z,k,?_⟩;unfold Ku sB at a;cases z:f Z with
  |bad=>rw[z]at a;exact a.elim
  |ok ds Z1=>
   rw[z]at a;intro ad vs G' H' k' s' n;dsimp only at a;split at a
   .rename_i hl
    exact a _ G' H' (k'.setOwn n hl) s'
   .exact a.elim
theorem NewL.of{K:Frag}{G H:Hp}{σ:St}{Z:Ul}{p:JV}{vs:List V}{ds:Co}(k:EOk K B G0 G H σ Z)(hp:H p=Ck)(r:Reps K G vs ds):NewL K B G (upd H p (.lst vs)) σ Z p vs ds where
 b:=k.bh.free hp
 g:=k.gh.free hp
 h:=Kk
 r:=r
 f:=λj es q z=>by obtain⟨a,ws,h1,h2,h3,h4,h5⟩:=k.own j es q;rw[z]at h1;cases h1;rw[hp]at h4;cases h4
 dp:=λj pt d v fp q s rr=>k.freshD (KD hp) hp q s rr
theorem SL{f:M Co}(h:PA X es (tDs X.K B G0 f)):PE X (.List es pos) (tL X.K B G0 (UD f λxs=>if xs.length<=1000000 then Uq xs else λ_=>.bad)):=
 UI (Pj h) λσ H Q ⟨G,Z,k,a⟩=>by
  refine⟨G,Z,k,?_⟩;unfold UD at a;cases z:f Z with
  |bad=>rw[z]at a;exact a.elim
  |ok ds Z1=>
   rw[z]at a;dsimp only at a;intro v G' H' k' s' r;by_cases c:ds.length<=1000000
   .rw[Qs c]at a
    refine⟨by rw[r.length];exact QJ c lim,λp hp=>?_⟩;exact a p v G' _ (k'.ext (Ext.hid k'.gh hp)) s' (NewL.of k' hp r)
   .rw[QM c]at a;exact a.elim
def K4(i:Nat)(f:M D):SM:=λZ0=>match Z0[i]? with
 |some (Ci (.own _))=>sB f (λd Z=>match Z[i]? with
  |some (Ci (.own ds))=>if ds.length<1000000 then .nx (Z.set i (Ci (.own (ds++[d]))))else .bad
  |_=>.bad) Z0
 |_=>.bad
theorem Pe{i:Nat}{f:M D}{o:JX}{apos cpos:Pos}(ho:PE X o (U7 i))(he:PE X e (tD X.K B G0 f))
  (hbase:attributeBase o "append" X.env (eval o X.env)=eval o X.env:=by rfl)
  (hfew:((backTo cpos (J0 [e] X.env)).all (λx=>!x.1)&&(backToKw cpos (keywordEach [] X.env)).all (λx=>x.1.isSome)
   && decide ([e].length+([]:List Keyword).length+(if([]:List Keyword).isEmpty then 0 else 1)<30))=Cm:=by rfl)
  (hline:(apos.endLine==cpos.line)=Cm:=by rfl) (hs:J0 [e] X.env=[(Cn,eval e X.env)]:=by rfl)
  (hsw:swapsWith (.Call (.Attribute o "append" apos) [e] [] cpos) Ck pos.line X.env=pure Cn:=by rfl) :
  PS X (.Expr (.Call (.Attribute o "append" apos) [e] [] cpos) pos) (tS X.K B G0 KX (K4 i f)):=
 Ky (Tt (T7 PySem.F.plainAttrs_list PySem.F.slot_list_append PySem.F.type_list_append TJ ho (Ys he Y3 (by rw[hs];rfl)) hbase hfew hline (by rw[hs];rfl) Cj) hsw) λD σ H ⟨G,Z,k,a⟩=>by
  unfold K4 at a;cases q0:Z[i]? with
  |none=>rw[q0]at a;exact a.elim
  |some o0=>
   cases o0 with
   |none=>rw[q0]at a;exact a.elim
   |some sl0=>
    cases sl0 with
    |deep _ _=>rw[q0]at a;exact a.elim
    |pub d=>rw[q0]at a;exact a.elim
    |own BP=>
     rw[q0]at a;obtain⟨ad,vs0,h1,h2,h3,h4,h5⟩:=k.own i BP q0;refine⟨.ref ad,h1,.inl ⟨rfl,_,SqL.of h4⟩,G,Z,k,?_⟩;unfold sB at a;cases z:f Z with
     |bad=>rw[z]at a;exact a.elim
     |ok d Z1=>
      rw[z]at a;dsimp only at a;intro v G' H' k' s' r';cases q:Z1[i]? with
      |none=>rw[q]at a;exact a.elim
      |some o=>
       cases o with
       |none=>rw[q]at a;exact a.elim
       |some sl=>
        cases sl with
        |deep _ _=>rw[q]at a;exact a.elim
        |pub d=>rw[q]at a;exact a.elim
        |own ds=>
         rw[q]at a;dsimp only at a;split at a
         .rename_i hl
          obtain⟨ad',vs,g1,g2,g3,g4,g5⟩:=k'.own i ds q;rw[h1]at g1;cases g1;refine⟨ad,vs,v,rfl,rfl,g4,by rw[g5.length];exact QD hl lim,?_⟩;exact a σ G' _ (k'.change q h1 (g5.append (.cons r' .nil))) s'
         .exact a.elim
end
structure ZG(K:Frag)(J:It)(ds:Co)(G1:Hp):Prop where
 go:∀i G H,Same G1 G->Same G H->i<ds.length->J.go i H
 stop:∀i G H,Same G1 G->Same G H->ds.length<=i->J.stop i H
 yld:∀i G H x H' d,Same G1 G->Same G H->ds[i]?=Ci d->J.yld i H x H'->∃G',Ext G H G' H'/\Rep K G' x d
def iD(K:Frag)(B G0:Hp)(f:M Co):TI:=λσ H R=>∃G Z,EOk K B G0 G H σ Z/\match f Z with
 |.ok ds Z'=>∀J G' H',EOk K B G0 G' H' σ Z'->Same G G'->ZG K J ds G'->R J H'
 |.bad=>False
section
variable{X:Cx}{B G0:Hp}{KX:XW}{e a b c tg:JX}{pos:Pos}{es rest:Cr}{st:Stmt}{sts sts2:List Stmt}
theorem Yy{t t':TI}(h:PI X tg e t)(i:∀σ H R,t' σ H R->t σ H R):PI X tg e t':=λpins s σ H R I q=>h pins s σ H R I (i σ H R q)
theorem tM.toI{K:Frag}{α γ:Type}{R0:Hp->γ->α->Prop}{f:M α}{g:α->M Co}{σ:St}{H:Hp}{R:It->Hp->Prop}{P:γ->Hp->Prop}(q:iD K B G0 (UD f g) σ H R)
  (i:∀v H' G' Z' x,EOk K B G0 G' H' σ Z'->R0 G' v x->(match g x Z' with
   |.ok ds Z2=>∀J G2 H2,EOk K B G0 G2 H2 σ Z2->Same G' G2->ZG K J ds G2->R J H2
   |.bad=>False)->P v H'):tM K B G0 R0 f σ H P:=by
 obtain⟨G,Z,k,a⟩:=q;refine⟨G,Z,k,?_⟩;unfold UD at a;cases z:f Z with
 |bad=>rw[z]at a;exact a.elim
 |ok d Z1=>
  rw[z]at a;intro v G' H' e s r;refine i v H' G' Z1 d e r ?_;dsimp only at a;cases z2:g d Z1 with
  |bad=>rw[z2]at a;exact a.elim
  |ok ds Z2=>rw[z2]at a;exact λJ G2 H2 k2 s2 it=>a J G2 H2 k2 (s.trans s2) it
theorem De{K:Frag}{G1:Hp}{ad:JV}{vs:List V}{ds:Co}(h:SqL K G1 ad vs)(r:Reps K G1 vs ds):ZG K (Itl K ad) ds G1 where
 go:=λi G H s1 s2 hi=>by
  have hi':i<vs.length:=by rw[r.length];exact hi
  exact⟨vs,vs[i],(s1.trans s2).seq h,Qe hi'⟩
 stop:=λi G H s1 s2 hi=>⟨vs,(s1.trans s2).seq h,by rw[r.length];exact hi⟩
 yld:=λi G H x H' d s1 s2 e y=>by obtain⟨rfl,y⟩:=y;obtain⟨v,e1,r1⟩:=r.get e;have:=y vs ((s1.trans s2).seq h);rw[e1]at this;cases this;exact⟨G,.refl s2,r1.mono s1⟩
def K0(lo hi:Int):Co:=(J5 (hi-lo).toNat).map λ(k:Nat)=>.int (lo+k)
theorem Yv(lo hi:Int):(K0 lo hi).length=(hi-lo).toNat:=by unfold K0;rw[Qd,Jr]
theorem NL{K:Frag}{G1:Hp}(lo hi:Int):ZG K (Itr lo (hi-lo).toNat) (K0 lo hi) G1 where
 go:=λi G H s1 s2 h=>by rw[Yv]at h;exact h
 stop:=λi G H s1 s2 h=>by rw[Yv]at h;exact h
 yld:=λi G H x H' d s1 s2 e y=>by
  obtain⟨rfl,rfl⟩:=y;unfold K0 at e;rw[Qg]at e;have hi:i<(J5 (hi-lo).toNat).length:=by refine Nat.lt_of_not_le λz=>?_;rw[Jn z]at e;cases e
  rw[Qe hi,List.getElem_range]at e;cases e;exact⟨G,.refl s2,.int _⟩
def WJ:Co->Option Co
 |[.int j]=>if j<=1000000 /\ -1000000<=j then Ci (K0 0 j)else Ck
 |_=>Ck
def WI:Co->Option Co
 |[.int i,.int j]=>if j<=1000000 /\ -1000000<=j/\i<=1000000 /\ -1000000<=i then Ci (K0 i j)else Ck
 |_=>Ck
def YY(f:M Co):M Co:=UD f λx=>Ux (WJ x)
def WH(f:M Co):M Co:=UD f λx=>Ux (WI x)
theorem RC{f:M Co}{p2:Pos}(hg:Gl X "range")(hm:X.mg "range" = Ck)(ha:PA X [a] (tDs X.K B G0 f))(hs:J0 [a] X.env=[(Cn,eval a X.env)]:=by rfl) :
  PI X tg (.Call (.Name "range" p2) [a] [] pos) (iD X.K B G0 (YY f)):=Yy (E8 hg hm ha hs) λσ H R q=>tM.toI (R0:=Reps X.K) q λv H' G' Z' x k r a=>by
 cases z:WJ x with
 |none=>rw[z]at a;exact a.elim
 |some ds=>
  rw[z]at a;unfold WJ at z;split at z
  .split at z
   .rename_i j c
    cases z;obtain⟨w,rfl,r'⟩:=r.one_inv;refine⟨j,by rw[r'.int_inv],by omega,by omega,?_⟩;have it:=NL (K:=X.K) (G1:=G') 0 j;rw[Int.sub_zero]at it;exact a _ G' H' k (.refl _) it
   .cases z
  .cases z
theorem O1{f:M Co}{p2:Pos}(hg:Gl X "range")(hm:X.mg "range" = Ck)(ha:PA X [a,b] (tDs X.K B G0 f))(hs:J0 [a,b] X.env=[(Cn,eval a X.env),(Cn,eval b X.env)]:=by rfl)(hs2:J0 [b] X.env=[(Cn,eval b X.env)]:=by rfl) :
  PI X tg (.Call (.Name "range" p2) [a,b] [] pos) (iD X.K B G0 (WH f)):=Yy (E7 hg hm ha hs hs2) λσ H R q=>tM.toI (R0:=Reps X.K) q λv H' G' Z' x k r a=>by
 cases z:WI x with
 |none=>rw[z]at a;exact a.elim
 |some ds=>
  rw[z]at a;unfold WI at z;split at z
  .split at z
   .rename_i i j c
    cases z;obtain⟨w,w',rfl,r1,r2⟩:=r.two_inv;refine⟨i,j,by rw[r1.int_inv,r2.int_inv],⟨by omega,by omega,by omega,by omega⟩,?_⟩;exact a _ G' H' k (.refl _) (NL i j)
   .cases z
  .cases z
def Zl(n:Nat):Co->Co
 |[]=>[]
 |d::r=>.tuple [.int n,d]::Zl (n+1) r
theorem YX:∀(n:Nat)(ds:Co),(Zl n ds).length=ds.length
 |_,[]=>rfl
 |n,d::r=>by rw[Zl,QI,QI,YX]
theorem RB:∀(n:Nat)(ds:Co)(i:Nat),(Zl n ds)[i]?=ds[i]?.map λd=>.tuple [.int ((n+i:Nat):Int),d]
 |_,[],i=>by simp[Zl]
 |n,d::r,0=>by simp[Zl]
 |n,d::r,i+1=>by
  rw[Zl,JC,JC,RB (n+1) r i];have:n+1+i=n+(i+1):=by omega
  rw[this]
theorem Dd{K:Frag}{G1:Hp}{ad:JV}{vs:List V}{ds:Co}(h:SqL K G1 ad vs)(r:Reps K G1 vs ds):ZG K (Ite K ad) (Zl 0 ds) G1 where
 go:=λi G H s1 s2 hi=>by
  rw[YX]at hi;have hi':i<vs.length:=by rw[r.length];exact hi
  exact⟨vs,vs[i],(s1.trans s2).seq h,Qe hi'⟩
 stop:=λi G H s1 s2 hi=>by rw[YX]at hi;exact⟨vs,(s1.trans s2).seq h,by rw[r.length];exact hi⟩
 yld:=λi G H x H' d s1 s2 e y=>by
  obtain⟨p,v,hp,rfl,y,rfl⟩:=y;rw[RB]at e;cases z:ds[i]? with
  |none=>rw[z]at e;cases e
  |some d0=>rw[z]at e;cases e;obtain⟨w,e1,r1⟩:=r.get z;have:=y vs ((s1.trans s2).seq h);rw[e1]at this;cases this;refine⟨upd G p (.tup [.int i,v]),Ext.new s2 hp,.tup (SqT.of Kk) (.cons ?_ (.cons ((r1.mono s1).mono (KD (s2.free hp))) .nil))⟩;rw[JJ];exact .int _
def Vj:Co->Option Co
 |[.list ds]=>Ci (Zl 0 ds)
 |_=>Ck
def YM(f:M Co):M Co:=UD f λx=>Ux (Vj x)
theorem SK{f:M Co}{p2:Pos}{elts:Cr}{x1}{tp:Pos}(hg:Gl X "enumerate")(hm:X.mg "enumerate" = Ck)(ha:PA X [a] (tDs X.K B G0 f))(hs:J0 [a] X.env=[(Cn,eval a X.env)]:=by rfl) :
  PI X (.Tuple elts x1 tp) (.Call (.Name "enumerate" p2) [a] [] pos) (iD X.K B G0 (YM f)):=Yy (HN hg hm ha hs) λσ H R q=>tM.toI (R0:=Reps X.K) q λv H' G' Z' x k r a=>by
 cases z:Vj x with
 |none=>rw[z]at a;exact a.elim
 |some ds=>
  rw[z]at a;unfold Vj at z;split at z
  .cases z
   obtain⟨w,rfl,r'⟩:=r.one_inv;obtain⟨ad,vs,rfl,h1,r1⟩:=r'.lst_inv;exact⟨ad,vs,rfl,k.gh.seq h1,a _ G' H' k (.refl _) (Dd h1 r1)⟩
  .cases z
def Xu(s:D->Ul->Cv)(g:SM):Co->SM
 |[],Z=>.nx Z
 |d::r,Z=>match s d Z with
  |none=>.bad
  |some Z1=>match g Z1 with
   |.nx Z2=>Xu s g r Z2
   |.ct Z2=>Xu s g r Z2
   |.bk Z2=>.nx Z2
   |.rt d=>.rt d
   |.ro ds=>.ro ds
   |.ex Z2 d=>.ex Z2 d
   |.bad=>.bad
def Ks(f:M Co)(s:D->Ul->Cv)(g:SM):SM:=sB f λds=>Xu s g ds
theorem Tc{iter:JX}{body:List Stmt}{f:M Co}{s:D->Ul->Cv}{g:SM}(hp:PassesOwn (model X.prog X.w) X.A X.env X.xe)(hc:X.calm=Cm)(hi:PI X tg iter (iD X.K B G0 f))(hg:PG X tg (tG X.K B G0 s))(hb:PSs X body (tS X.K B G0 KX g))
  (hs:∀x,Uj iter X.env x=pure x:=by intro _;rfl):PS X (.For tg iter body [] pos) (tS X.K B G0 KX (Ks f s g)):=
 Ky (Hm hp hc hi hg hb hs) λDn σ H ⟨G,Z,k,a⟩=>by
  refine⟨G,Z,k,?_⟩;unfold Ks sB at a;cases z:f Z with
  |bad=>rw[z]at a;exact a.elim
  |ok ds Z1=>
   rw[z]at a;dsimp only at a⊢;intro J G1 H1 k1 s1 it;refine⟨λi m σ' H'=>m=ds.length-i/\∃G' Z',EOk X.K B G0 G' H' σ' Z'/\Same G1 G'/\aftS X.K B G0 KX (Xu s g (ds.drop i) Z') G' Dn,⟨ds.length,by omega,G1,Z1,k1,.refl _,by rw[List.drop_zero];exact aftS.mono s1 a⟩,?_⟩;rintro i m σ' H' ⟨rfl,G',Z',k',s',a'⟩;by_cases hi:i<ds.length
   .right
    refine⟨it.go i G' H' s' k'.gh hi,λσ2 H2=>∃G2 Z2,EOk X.K B G0 G2 H2 σ2 Z2/\Same G1 G2/\aftS X.K B G0 KX (Xu s g (ds.drop (i+1)) Z2) G2 Dn,λσ2 H2 h2=>⟨ds.length-(i+1),by omega,rfl,h2⟩,λx H2 y=>?_⟩;obtain⟨G2,ex,rx⟩:=it.yld i G' H' x H2 ds[i] s' k'.gh (Qe hi) y;rw[Jm hi,Xu]at a';cases z2:s ds[i] Z' with
    |none=>rw[z2]at a';exact a'.elim
    |some Z2=>
     rw[z2]at a';dsimp only at a';refine⟨G2,Z',ds[i],Z2,k'.ext ex,rx,z2,λσ3 G3 H3 k3 s3=>⟨G3,Z2,k3,?_⟩⟩;have s13:Same G1 G3:=(s'.trans ex.g).trans s3;cases z3:g Z2 with
     |nx Z3=>rw[z3]at a';exact λσ4 G4 H4 k4 s4=>⟨G4,Z3,k4,s13.trans s4,aftS.mono ((ex.g.trans s3).trans s4) a'⟩
     |ct Z3=>rw[z3]at a';exact λσ4 G4 H4 k4 s4=>⟨G4,Z3,k4,s13.trans s4,aftS.mono ((ex.g.trans s3).trans s4) a'⟩
     |bk Z3=>rw[z3]at a';exact λσ4 G4 H4 k4 s4=>a' σ4 G4 H4 k4 ((ex.g.trans s3).trans s4)
     |rt d=>rw[z3]at a';exact a'
     |ro ds=>rw[z3]at a';exact a'
     |ex Z3 d=>rw[z3]at a';exact λv σ4 G4 H4 k4 s4 r4=>a' v σ4 G4 H4 k4 ((ex.g.trans s3).trans s4) r4
     |bad=>rw[z3]at a';exact a'.elim
   .left
    rw[JF (by omega)]at a';exact⟨it.stop i G' H' s' k'.gh (by omega),a' σ' G' H' k' (.refl _)⟩
theorem FF{k:Nat}{f:JV}{fd:JW}{ps:List Str}{F:Co->Cs}{g:M Co}{x:Str}{p2:Pos}{n:Nat}(FK:FnOk X.prog X.w X.K X.mg X.base CX0 k f fd ps (spD X.K n F))(hr:Room k X.A)(hg:Gl X x)(hm:X.mg x=Ci (.ref f))(hk:PySem.W.keepIn X.K (.ref f)=Cm)
  (hb:YN X.K fd ps []) (ha:PA X (e::es) (tDs X.K B G0 g)) (hn:(e::es).length=n) (hdb:(x==("__debug__" : Str))=Cn:=by decide) (he:J0 (e::es) X.env=(Cn,eval e X.env)::J0 es X.env:=by rfl) (hpl:(backTo pos (J0 es X.env)).any (·.1)=Cn:=by rfl) :
  PE X (.Call (.Name x p2) (e::es) [] pos) (tD X.K B G0 (UD g λxs=>if xs.length=n then Ux (F xs)else λ_=>.bad)):=
 UI (SO FK hr hg hm hk hb .nil T6 ha hdb he hpl) λσ H Q q=>tM.one (R:=Reps X.K) q λv H2 G Z ds k r a=>by
  split at a
  .rename_i hl
   obtain⟨d,e,a⟩:=a.opt;exact⟨G,ds,d,by rw[QY,r.length];exact hl,k.gh,by rw[QY];exact r,e,λw G' H' ex rw=>a.done k ex rw⟩
  .exact a.elim
end
def KJ(N:List Str)(ds:Co):Ul:=(ds.map λd=>Ci (Sl.pub d))++J6 (N.length-ds.length) Ck
theorem Rl{K:Frag}{N:List Str}{G H:Hp}{vs:List V}{ds:Co}(s:Same G H)(r:Reps K G vs ds):EOk K H G G H (L2.Ym N vs) (KJ N ds) where
 bh:=.refl _
 gh:=s
 g0:=.refl _
 np:=λ_ _ _ n=>n
 len:=by unfold L2.Ym KJ;rw[Qj,Qj,Qd,Qd,QR,QR,r.length]
 pub:=λi d q=>by
  unfold KJ at q;unfold L2.Ym;by_cases hi:i<ds.length
  .rw[Qr (by rw[Qd];exact hi),Qg]at q
   cases z:ds[i]? with
   |none=>rw[z]at q;cases q
   |some d'=>rw[z]at q;cases q;obtain⟨v,e1,r1⟩:=r.get z;refine⟨v,?_,r1⟩;rw[Qr (by rw[Qd,r.length];exact hi),Qg,e1];rfl
  .rw[Qt (by rw[Qd];omega),Qy]at q
   split at q<;>cases q
 own:=λi es q=>by
  unfold KJ at q;by_cases hi:i<ds.length
  .rw[Qr (by rw[Qd];exact hi),Qg]at q
   cases z:ds[i]? with
   |none=>rw[z]at q;cases q
   |some d'=>rw[z]at q;cases q
  .rw[Qt (by rw[Qd];omega),Qy]at q
   split at q<;>cases q
 sep:=λi j a es fs q _ _ _=>by
  unfold KJ at q;by_cases hi:i<ds.length
  .rw[Qr (by rw[Qd];exact hi),Qg]at q
   cases z:ds[i]? with
   |none=>rw[z]at q;cases q
   |some d'=>rw[z]at q;cases q
  .rw[Qt (by rw[Qd];omega),Qy]at q
   split at q<;>cases q
 dp:=by
  have key:∀{i:Nat}{s:Sl},(KJ N ds)[i]?=Ci (Ci s)->∃d,s=.pub d:=λ{i s} q=>by
   unfold KJ at q;by_cases hi:i<ds.length
   .rw[Qr (by rw[Qd];exact hi),Qg]at q
    cases z:ds[i]? with
    |none=>rw[z]at q;cases q
    |some d'=>rw[z]at q;cases q;exact⟨_,rfl⟩
   .rw[Qt (by rw[Qd];omega),Qy]at q
    split at q<;>cases q
  exact .of (λi p d q=>by obtain⟨_,e⟩:=key q;cases e) λi ds q=>by obtain⟨_,e⟩:=key q;cases e
def UT(N:List Str)(g:SM)(ds:Co):Cs:=match g (KJ N ds)with
 |.rt d=>Ci d
 |.nx _=>Ci .none
 |_=>Ck
theorem okD{P:JU}{w:World}{K:Frag}{mg:Str->Cw}{base:Heap}{x qual:Str}{st:Stmt}{f:JV}{fd:JW}{N ps:List Str}{k n:Nat}{g:SM}(F:Fun K x qual st f fd)(S:X7 N ps (Kj st))(hn:ps.length=n)
  (der:∀(cdv:JS)(A:Around)(outer:List Env)(s:JT)(H:Hp)(E:XK)(B G0:Hp),Room k (A.deeper (envOfC qual (Kj st) s.heap.objs.size f cdv)) ->
   PSs (Zk CX0 P w K mg base N qual (Kj st) f cdv A outer s H E).nox (Yk st) (tS K B G0 KX0 g)):FnOk P w K mg base CX0 (k+1) f fd ps (spD K n (UT N g)):=by
 refine F.ok S (λvs H Q E h=>?_) (λcdv A outer s H vs Q E hr h=>?_)
 .obtain⟨_,_,_,hl,_⟩:=h
  rw[hl,hn]
 .obtain⟨G,ds,d,hl,sg,r,hF,q⟩:=h
  refine⟨_,der cdv A outer s H E H G hr,G,KJ N ds,Rl sg r,?_⟩;unfold UT at hF;cases z:g (KJ N ds)with
  |rt d'=>rw[z]at hF;cases hF;exact λv G' H' ex rr=>q v G' H' ex rr
  |nx Z=>rw[z]at hF;cases hF;exact λσ' G' H' k' _=>q .non G' H' k'.exit .non
  |ro ds=>rw[z]at hF;cases hF
  |bk Z=>rw[z]at hF;cases hF
  |ct Z=>rw[z]at hF;cases hF
  |ex Z d=>rw[z]at hF;cases hF
  |bad=>rw[z]at hF;cases hF
section
variable{X:Cx}{B G0:Hp}{e a b c tg:JX}{pos:Pos}{es rest:Cr}
def oNeg:D->Cs
 |.int i=>Ci (.int (-i))
 |_=>Ck
def KU(f:M D):M D:=UD f λx=>Ux (oNeg x)
theorem SJ{f:M D}(h:PE X a (tD X.K B G0 f)):PE X (.UnaryOp .USub a pos) (tD X.K B G0 (KU f)):=
 UI (MX Hf h) λσ H Q q=>tM.one (R:=Rep X.K) q λv H2 G Z x k r a=>by
  cases x with
  |int i=>exact⟨i,r.int_inv,aft.now a k (.int _)⟩
  |_=>exact a.elim
end
def Def(P:JU)(w:World)(K:Frag)(mg:Str->Cw)(base:Heap)(x:Str)(k n:Nat)(F:Co->Cs):Prop:=
 ∃(f:JV)(fd:JW)(ps:List Str),mg x=Ci (.ref f)/\PySem.W.keepIn K (.ref f)=Cm/\YN K fd ps []/\FnOk P w K mg base CX0 k f fd ps (spD K n F)
def UF(n:Nat)(F:Co->Cs)(g:M Co):M D:=UD g λxs=>if xs.length=n then Ux (F xs)else λ_=>.bad
section
variable{X:Cx}{B G0:Hp}{e:JX}{pos:Pos}{es:Cr}
theorem Gs{k n:Nat}{F:Co->Cs}{g:M Co}{x:Str}{p2:Pos}(d:Def X.prog X.w X.K X.mg X.base x k n F)(hr:Room k X.A)(hg:Gl X x)(ha:PA X (e::es) (tDs X.K B G0 g))(hn:(e::es).length=n:=by rfl)
  (hdb:(x==("__debug__" : Str))=Cn:=by decide) (he:J0 (e::es) X.env=(Cn,eval e X.env)::J0 es X.env:=by rfl) (hpl:(backTo pos (J0 es X.env)).any (·.1)=Cn:=by rfl) :
  PE X (.Call (.Name x p2) (e::es) [] pos) (tD X.K B G0 (UF n F g)):=by
 obtain⟨f,fd,ps,h1,h2,h3,h4⟩:=d;exact FF h4 hr hg h1 h2 h3 ha hn hdb he hpl
end
theorem Def.mk{P:JU}{w:World}{K:Frag}{mg:Str->Cw}{base:Heap}{x:Str}{k n:Nat}{F:Co->Cs}{st:Stmt}{f:JV}{fd:JW}{ps:List Str}(hm:mg x=Ci (.ref f))(FU:Fun K x x st f fd)(hb:YN K fd ps [])(ok:FnOk P w K mg base CX0 k f fd ps (spD K n F)) :
  Def P w K mg base x k n F:=⟨f,fd,ps,hm,FU.kp,hb,ok⟩
theorem Ht{K:Frag}{H:Hp}{a:JV}{ns:Cp}{F:Co->Cs}{E:XK}(hS:SqL K H a (ns.map V.int))(h:F [.list (ns.map int)]=Ci (.bool Cm)):spD K 1 F [.ref a] H (λv _=>v=.bl Cm) E:=
 ⟨H,[.list (ns.map int)],.bool Cm,rfl,.refl _,.cons (.lst hS (Reps.ints ns)) .nil,h,λ_ _ _ _ r=>r.bl_inv⟩
end DL
namespace L2
open PySem PySem.Spec PyProof.Rows
theorem mem_of_lookup{x:Str}{k:NameKind}:∀{l:List (Str×NameKind)},l.lookup x=Ci k->(x,k)∈l
 |[],h=>by cases h
 |(y,j)::r,h=>by
  rw[QQ]at h;split at h
  .rename_i e
   cases h;have:x=y:=by simpa using e
   rw[this];exact Ql
  .exact Qo _ (mem_of_lookup h)
theorem Ry{env:Env}:∀(l:List (Str×NameKind))(acc:List (Str×JV)),(∀y∈l,y.2=.free->∃c,env.cells.lookup y.1=Ci c) ->
  ∃cl,(forIn l acc (λx r=>if(x.2==NameKind.free)=Cm then(do let a ←cellOf env x.1;pure (ForInStep.yield ((x.1,a)::r)))else pure (ForInStep.yield r)):Sem (List (Str×JV)))=pure cl /\
   (∀x c,cl.lookup x=Ci c->acc.lookup x=Ci c∨env.cells.lookup x=Ci c)/\(∀y∈l,y.2=.free->∃c,cl.lookup y.1=Ci c)/\(∀x c,acc.lookup x=Ci c->∃c',cl.lookup x=Ci c')
 |[],acc,_=>⟨acc,rfl,λ_ _ h=>.inl h,λ_ h=>absurd h (by simp),λx c h=>⟨c,h⟩⟩
 |(n,k)::r,acc,h=>by
  by_cases hk:k=.free
  .subst hk
   obtain⟨c,hc⟩:=h (n,.free) Ql Cj;obtain⟨cl,e,p1,p2,p3⟩:=Ry r ((n,c)::acc) λy hy=>h y (Qo _ hy)
   have hco:cellOf env n=pure c:=by unfold cellOf;rw[hc]
   have key:∀x c',((n,c)::acc).lookup x=Ci c'->acc.lookup x=Ci c'∨env.cells.lookup x=Ci c':=λx c' q=>by
    rw[QQ]at q;split at q
    .rename_i e1
     cases q;have:x=n:=by simpa using e1
     subst this;exact .inr hc
    .exact .inl q
   have own:((n,c)::acc).lookup n=Ci c:=by rw[List.lookup_cons];simp
   refine⟨cl,?_,λx c' q=>?_,λy hy hf=>?_,λx c' q=>?_⟩
   .rw[List.forIn_cons]
    have:(if(((n,NameKind.free):Str×NameKind).2==NameKind.free)=Cm then(do let a ←cellOf env n;pure (ForInStep.yield ((n,a)::acc)))else pure (ForInStep.yield acc):Sem _)=pure (ForInStep.yield ((n,c)::acc)):=by rw[Qs (show((n,NameKind.free).snd==NameKind.free)=Cm from rfl),hco];rfl
    refine Eq.trans ?_ e;dsimp only at this⊢;rw[this];rfl
   .rcases p1 x c' q with z|z
    .exact key x c' z
    .exact .inr z
   .rcases Qu.mp hy with z|z
    .subst z
     exact p3 n c own
    .exact p2 y z hf
   .by_cases hx:x=n
    .subst hx;exact p3 x c own
    .refine p3 x c' ?_
     have hb:(x==n)=Cn:=by simpa using hx
     rw[QQ,hb];exact q
  .obtain⟨cl,e,p1,p2,p3⟩:=Ry r acc λy hy=>h y (Qo _ hy)
   refine⟨cl,?_,p1,λy hy hf=>?_,p3⟩
   .rw[List.forIn_cons]
    have hb:(k==NameKind.free)=Cn:=by cases k<;>first|rfl|exact absurd Cj hk
    refine Eq.trans ?_ e;dsimp only;rw[hb,QM (by decide)];rfl
   .rcases Qu.mp hy with z|z
    .subst z;exact absurd hf hk
    .exact p2 y z hf
theorem Rx{scope:Scope}{env:Env}(h:∀y∈scope.names,y.2=.free->∃c,env.cells.lookup y.1=Ci c) :
  ∃cl,closureFor scope env=pure cl/\(∀x c,cl.lookup x=Ci c->env.cells.lookup x=Ci c)/\∀y∈scope.names,y.2=.free->∃c,cl.lookup y.1=Ci c:=by
 obtain⟨cl,e,p1,p2,_⟩:=Ry scope.names [] h;refine⟨cl,?_,λx c q=>(p1 x c q).elim (λz=>by cases z) id,p2⟩;have e2:((forIn scope.names [] (λx r=>if(x.2==NameKind.free)=Cm then(do let a ←cellOf env x.1;pure (ForInStep.yield ((x.1,a)::r)))else pure (ForInStep.yield r)):Sem (List (Str×JV))) >>= λs=>pure s)=pure cl:=by rw[e];rfl
 exact e2
theorem NK{env:Env}{x:Str}{k:NameKind}:∀{names:List (Str×NameKind)},(names.map λ(n,k)=>if(k==NameKind.free&&env.scope.kind==.function&&env.kindOf n==Ci .cell)then(n,NameKind.cell)else(n,k)).lookup x=Ci k ->
  names.lookup x=Ci k∨(names.lookup x=Ci .free/\k=.cell)
 |[],h=>by cases h
 |(n,j)::r,h=>by
  have ih:=@NK env x k r;have h:List.lookup x ((if(j==NameKind.free&&env.scope.kind==.function&&env.kindOf n==Ci .cell)=Cm then(n,NameKind.cell)else(n,j))::_)=Ci k:=h;cases hx:x==n with
  |true=>
   by_cases hc:(j==NameKind.free&&env.scope.kind==.function&&env.kindOf n==Ci .cell)=Cm
   .rw[Qs hc]at h
    simp only[QQ,hx]at h⊢;cases h;simp only[Qw]at hc;have:j=.free:=by have:=hc.1.1;cases j<;>first|rfl|cases this
    subst this;exact .inr ⟨rfl,rfl⟩
   .rw[QM hc]at h
    simp only[QQ,hx]at h⊢;exact .inl h
  |false=>
   by_cases hc:(j==NameKind.free&&env.scope.kind==.function&&env.kindOf n==Ci .cell)=Cm
   .rw[Qs hc]at h
    simp only[QQ,hx]at h⊢;exact ih h
   .rw[QM hc]at h
    simp only[QQ,hx]at h⊢;exact ih h
theorem NF{env:Env}{x:Str}:∀{names:List (Str×NameKind)},names.lookup x=Ci .free ->
  (names.map λ(n,k)=>if(k==NameKind.free&&env.scope.kind==.function&&env.kindOf n==Ci .cell)then(n,NameKind.cell)else(n,k)).lookup x=Ci .free ∨
  (names.map λ(n,k)=>if(k==NameKind.free&&env.scope.kind==.function&&env.kindOf n==Ci .cell)then(n,NameKind.cell)else(n,k)).lookup x=Ci .cell
 |[],h=>by cases h
 |(n,j)::r,h=>by
  have ih:=@NF env x r;show List.lookup x ((if(j==NameKind.free&&env.scope.kind==.function&&env.kindOf n==Ci .cell)=Cm then(n,NameKind.cell)else(n,j))::_)=_∨List.lookup x ((if(j==NameKind.free&&env.scope.kind==.function&&env.kindOf n==Ci .cell)=Cm then(n,NameKind.cell)else(n,j))::_)=_;cases hx:x==n with
  |true=>
   simp only[QQ,hx]at h;cases h;by_cases hc:(NameKind.free==NameKind.free&&env.scope.kind==.function&&env.kindOf n==Ci .cell)=Cm
   .rw[if_pos hc];simp[List.lookup_cons,hx]
   .rw[if_neg hc];simp[List.lookup_cons,hx]
  |false=>
   simp only[QQ,hx]at h;by_cases hc:(j==NameKind.free&&env.scope.kind==.function&&env.kindOf n==Ci .cell)=Cm
   .rw[Qs hc];simp only[QQ,hx];exact ih h
   .rw[QM hc];simp only[QQ,hx];exact ih h
theorem Nt{env:Env}{x:Str}:∀{names:List (Str×NameKind)},names.lookup x=Ci .globalImplicit ->
  (names.map λ(n,k)=>if(k==NameKind.free&&env.scope.kind==.function&&env.kindOf n==Ci .cell)then(n,NameKind.cell)else(n,k)).lookup x=Ci .globalImplicit
 |[],h=>by cases h
 |(n,j)::r,h=>by
  have ih:=@Nt env x r;show List.lookup x ((if(j==NameKind.free&&env.scope.kind==.function&&env.kindOf n==Ci .cell)=Cm then(n,NameKind.cell)else(n,j))::_)=_;cases hx:x==n with
  |true=>simp only[QQ,hx]at h;cases h;rw[if_neg (by simp)];simp[List.lookup_cons,hx]
  |false=>
   simp only[QQ,hx]at h;by_cases hc:(j==NameKind.free&&env.scope.kind==.function&&env.kindOf n==Ci .cell)=Cm
   .rw[Qs hc];simp only[QQ,hx];exact ih h
   .rw[QM hc];simp only[QQ,hx];exact ih h
def Cx.blk(X:Cx)(N':List Str)(scope:Scope)(cl:List (Str×JV))(C:JV)(s₀:JT)(H₀:Hp)(ex:Ct):Cx:=
 {X with N:=N',s₀:=s₀,H₀:=H₀,env:=compEnvC scope cl C X.env,outer:=X.stack,ex:=ex,fn:=λ_=>Cn,xe:=λ_ _=>False}
section
variable{X:Cx}{N':List Str}{scope:Scope}{cl:List (Str×JV)}{C:JV}{s₀:JT}{H₀:Hp}{ex:Ct}{x:Str}
theorem Gr(h:scope.names.lookup x=Ci .local∨scope.names.lookup x=Ci .free):Vis (X.blk N' scope cl C s₀ H₀ ex).env.scope x:=by
 rcases h with h|h
 .exact .inl (lookup_relabel_local h)
 .rcases NF (env:=X.env) h with z|z
  .exact .inr (.inr z)
  .exact .inr (.inl z)
theorem W1(h:scope.names.lookup x=Ci .local):Loc (X.blk N' scope cl C s₀ H₀ ex).env.scope x:=.inl (lookup_relabel_local h)
theorem WQ(h:scope.names.lookup x=Ci .local):(X.blk N' scope cl C s₀ H₀ ex).env.scope.names.lookup x=Ci .local:=lookup_relabel_local h
theorem Sv(h:scope.names.lookup x=Ci .globalImplicit):Gl (X.blk N' scope cl C s₀ H₀ ex) x:=Nt h
end
def VJ(names:List (Str×NameKind))(N N2:List Str)(k:Nat):Bool:=
 N2.length==N.length+k&&(J5 N2.length).all λi=>match N2[i]? with
  |none=>Cm
  |some x=>match names.lookup x with
   |some .free=>N[i]?==Ci x
   |some .local=>decide (N.length<=i)&&decide (i<N.length+k)
   |some .cell=>Cn
   |_=>Cm
theorem DO{names:List (Str×NameKind)}{N N2:List Str}{k:Nat}(h:VJ names N N2 k=Cm) :
  N2.length=N.length+k/\∀(i:Nat) x,N2[i]?=Ci x->(names.lookup x=Ci .free->N[i]?=Ci x)/\(names.lookup x=Ci .local->N.length<=i/\i<N.length+k):=by
 unfold VJ at h;simp only[Qw,beq_iff_eq,Q3,Je]at h;refine⟨h.1,λi x e=>?_⟩;have hi:=(Qm.mp e).1;have:=h.2 i hi;rw[e]at this;refine⟨λq=>?_,λq=>?_⟩
 .simp only[q]at this
  simpa using this
 .simp only[q]at this
  simpa using this
theorem Inv.enter{X:Cx}{pins:List (JV×Obj)}{σ:St}{H:Hp}{s3:JT}(I:Inv X pins σ H s3){scope:Scope}{cl:List (Str×JV)}{N2:List Str}{k:Nat}{h':Heap}{fp:Ct}{t':Nat}{m0:Str->Cw}
  (hb:VJ scope.names X.N N2 k=Cm) (hkind:scope.kind=.function) (hcell:∀y∈scope.names,y.2≠.cell)
  (hfree:∀y∈scope.names,y.2=.free->X.env.scope.names.lookup y.1=Ci .cell∨X.env.scope.names.lookup y.1=Ci .free)
  (CY:∀x c,cl.lookup x=Ci c->X.env.cells.lookup x=Ci c) (Bz:∀y∈scope.names,y.2=.free->∃c,cl.lookup y.1=Ci c)
  (hn:h'.Ns s3.heap.objs.size m0) (hk:∀b o,s3.heap.get? b=Ci o->h'.get? b=Ci o) (hf:∀b∈fp,U8 X pins H b) (hfo:∀b∈fp,∃o,s3.heap.get? b=Ci o) :
  Inv (X.blk N2 scope cl s3.heap.objs.size s3 H fp) pins (σ++J6 k Ck) H {s3 with heap:=h',toks:=t'}:=by
 obtain⟨hl,hN⟩:=DO hb;have lt:∀b o,s3.heap.get? b=Ci o->b≠s3.heap.objs.size:=λb o e=>QE (Qh e);have ofl:∀x,scope.names.lookup x=Ci .free->(x,NameKind.free)∈scope.names:=λx h=>mem_of_lookup h;have kinv:∀x kk,(X.blk N2 scope cl s3.heap.objs.size s3 H fp).env.scope.names.lookup x=Ci kk->scope.names.lookup x=Ci kk∨(scope.names.lookup x=Ci .free/\kk=.cell):=λx kk h=>NK (env:=X.env) h
 have isfree:∀x,(X.blk N2 scope cl s3.heap.objs.size s3 H fp).env.scope.names.lookup x=Ci .cell∨(X.blk N2 scope cl s3.heap.objs.size s3 H fp).env.scope.names.lookup x=Ci .free->scope.names.lookup x=Ci .free:=λx h=>by
  rcases h with h|h
  .rcases kinv x _ h with z|z
   .exact absurd Cj (hcell _ (mem_of_lookup z))
   .exact z.1
  .rcases kinv x _ h with z|z
   .exact z
   .exact z.1
 have ok:(X.blk N2 scope cl s3.heap.objs.size s3 H fp).Ok:=
  {
   mod:=I.ok.mod
   kind:=hkind
   glob:=I.ok.glob
   blt:=I.ok.blt
   above:=Qn _
   inj:=λx y c a b=>I.ok.inj x y c (CY x c a) (CY y c b)
   has:=λx h=>Bz (x,.free) (ofl x (isfree x h)) Cj
   cab:=λx c h=>by cases h
   hd:=I.ok.hd
   frames:=I.ok.frames
   stk:=.inl Cj
   exf:=λb hb=>⟨let ⟨o,e⟩:=hfo b hb;lt b o e,λx c e=>(hf b hb).2.2.2.2.1 x c (CY x c e)⟩
   bs:=I.bs
   bsz:=QJ I.ok.bsz I.sz
   noex:=λb o e hb=>by
    rcases(hf b hb).2.2.2.1 with z|z
    .exact I.ok.noex b o e z
    .exact absurd (QD (Qh e) (QJ I.ok.bsz z)) (Q9 _)
   exfs:=λb hb hx=>by
    rcases Qu.mp (I.stkSub b hx)with z|z
    .exact(hf b hb).2.1 z
    .exact(hf b hb).2.2.1 z
   funs:=I.stack
   frf:=I.stkFree}
 refine⟨ok,rfl,I.bare,Un.kept hk,⟨m0,hn,λi x v e1 e2 e3=>?_⟩,λx c e=>?_,I.hok.fresh (Qn _),λx c e=>I.freeC x c (CY x c e),λp hp=>?_,I.hok.kept hk,?_⟩
 .have nl:scope.names.lookup x≠Ci .local:=λz=>by
   obtain⟨g1,g2⟩:=(hN i x e1).2 z;rw[←I.len]at g1 g2;rw[Qt g1,Qy]at e2;split at e2<;>cases e2
  have fr:scope.names.lookup x=Ci .free:=by
   rcases e3 with z|z|z
   .rcases kinv x _ z with q|q
    .exact absurd q nl
    .cases q.2
   .exact isfree x (.inl z)
   .exact isfree x (.inr z)
  have eN:=(hN i x e1).1 fr;have hi:i<σ.length:=by rw[I.len];exact(Qm.mp eN).1
  rw[Qr hi]at e2;obtain⟨m,hm,hlk⟩:=I.loc;have hkd:=hfree _ (ofl x fr) Cj;obtain⟨u,r,l⟩:=hlk i x v eN e2 (.inr hkd);refine⟨u,r,.inr ⟨?_,?_⟩⟩
  .rcases e3 with z|z|z
   .rcases kinv x _ z with q|q
    .exact absurd q nl
    .cases q.2
   .exact .inl z
   .exact .inr z
  .rcases l with l|⟨_,c,ec,z⟩
   .have:X.env.scope.names.lookup x=Ci .local:=l.1
    rcases hkd with q|q<;>(dsimp only at q;rw[this]at q;cases q)
   .obtain⟨c',ec'⟩:=Bz _ (ofl x fr) Cj
    have:=CY _ _ ec';dsimp only at this ec';rw[ec]at this;cases this;obtain⟨o,ho,hd⟩:=z;exact⟨c,ec',o,hk c o ho,hd⟩
 .obtain⟨v,o,ho,hd⟩:=I.cell x c (CY x c e)
  exact⟨v,o,hk c o ho,hd⟩
 .obtain⟨e,n,ne,nf,d⟩:=I.pin p hp
  refine⟨hk _ _ e,n,lt _ _ e,λz=>?_,d⟩;rcases Qu.mp (I.stkSub _ z)with q|q
  .exact ne q
  .exact nf q
 .rw[Qj,QR,I.len]
  exact hl.symm
abbrev nox:JS->JT->Prop:=λ_ _=>False
def XM(prog:JU)(w:World)(A:Around)(tg:JX)(ifs:Cr)(env:Env)(it:JS)(code:Code)(W:(JT->Prop)->JT->Prop):Prop:=
 ∀(R:Result->JT->Prop)(I:Nat->JT->Prop)(n:Nat)(s:JT),I n s ->
  (∀n s,I n s->JZ (model prog w) A (pyNext it) (λr s₁=>match r with
   |none=>R (.ok .next) s₁
   |some v=>JZ (model prog w) A (letOwnedTupleGo tg it v) (λ_ s₁'=>JZ (model prog w) A (assign tg env v) (λ_ s₂=>
     JZ (model prog w) A (forIn ifs Cm λc r=>if r=Cm then do let ok ←isTrue c env (eval c env);pure (ForInStep.yield ok)else pure (ForInStep.yield r)) (λok s₃=>
      if ok=Cm then W (λs₅=>∃m,m<n/\I m s₅) s₃ else ∃m,m<n/\I m s₃) nox s₂) nox s₁') nox s₁) nox s)->codeAny (model prog w) A code R s
section
variable{prog:JU}{w:World}{A:Around}{elt tg i:JX}{ifs:Cr}{gens:List Comprehension}{scope:Scope}{pos:Pos}{it acc:JS}{env:Env}{j:Nat}
theorem O0(hg:gens[j]?=Ci ⟨tg,i,ifs,0⟩)(hn:gens[j+1]?=Ck):XM prog w A tg ifs env it (.compLoop (.ListComp elt gens scope pos) j it acc env)
  (λQ s=>JZ (model prog w) A (eval elt env) (λx s₄=>JZ (model prog w) A (call (.builtin "list.append") [acc,x]) (λ_ s₅=>Q s₅) nox s₄) nox s):=by
 intro R I n s h turn;refine codeAny_loop Cj I (λn s hI=>?_) n h;show JZ _ A ((compTurn (.ListComp elt gens scope pos) j it acc env).onRaise (λx=>do noteFrame x env;theTreesLotGoes x)) _ _ s;refine wpAny_noted ?_;unfold compTurn;dsimp only;simp only[hg,hn];refine Qb (Q5 (Qb (Qv (turn n s hI) (λr s₁ h₁=>?_) λ_ _ h'=>h'.elim)));cases r with
 |none=>exact Qi h₁
 |some v=>
  refine Qb (Qv h₁ (λ_ s₁' h₁'=>?_) λ_ _ h'=>h'.elim);refine Qb (Qv h₁' (λ_ s₂ h₂=>Qb (Qv h₂ (λok s₃ h₃=>?_) λ_ _ h'=>h'.elim)) λ_ _ h'=>h'.elim);cases ok with
  |false=>exact Qi ⟨rfl,h₃⟩
  |true=>exact Qb (Qb (Qv h₃ (λx s₄ h₄=>Qb (Qv h₄ (λ_ s₅ h₅=>Qi (Qi ⟨rfl,h₅⟩)) λ_ _ h'=>h'.elim)) λ_ _ h'=>h'.elim))
theorem Db{Bb i1:JX}{ifs1:Cr}(hg:gens[j]?=Ci ⟨tg,i,ifs,0⟩)(hn:gens[j+1]?=Ci ⟨Bb,i1,ifs1,0⟩)(hs:∀x,Uj i1 env x=pure x):XM prog w A tg ifs env it (.compLoop (.ListComp elt gens scope pos) j it acc env)
  (λQ s=>JZ (model prog w) A (eval i1 env) (λx s₄=>JZ (model prog w) A (pyIter x) (λCP s₅=>codeAny (model prog w) A (.compStart (.ListComp elt gens scope pos) (j+1) CP acc env)
   (λr s₆=>match r with | .ok _=>Q s₆ | .error _=>False) s₅) nox s₄) nox s):=by
 intro R I n s h turn;refine codeAny_loop Cj I (λn s hI=>?_) n h;show JZ _ A ((compTurn (.ListComp elt gens scope pos) j it acc env).onRaise (λx=>do noteFrame x env;theTreesLotGoes x)) _ _ s;refine wpAny_noted ?_;unfold compTurn;dsimp only;simp only[hg,hn];refine Qb (Q5 (Qb (Qv (turn n s hI) (λr s₁ h₁=>?_) λ_ _ h'=>h'.elim)));cases r with
 |none=>exact Qi h₁
 |some v=>
  refine Qb (Qv h₁ (λ_ s₁' h₁'=>?_) λ_ _ h'=>h'.elim);refine Qb (Qv h₁' (λ_ s₂ h₂=>Qb (Qv h₂ (λok s₃ h₃=>?_) λ_ _ h'=>h'.elim)) λ_ _ h'=>h'.elim);cases ok with
  |false=>exact Qi ⟨rfl,h₃⟩
  |true=>
   refine Qb (Qv h₃ (λx s₄ h₄=>Qb (Q5 (Qb (wpAny_of_eq (hs x) (Qb (wpAny_holding (Qv h₄ (λCP s₅ h₅=>?_) λ_ _ h'=>h'.elim))))))) λ_ _ h'=>h'.elim);refine Qb (wpAny_runOwn (codeAny_mono h₅ λr s₆ h₆=>?_));cases r with
   |ok f=>exact Qi ⟨rfl,h₆⟩
   |error x=>exact h₆.elim
theorem DN{R:Result->JT->Prop}{s:JT}(hg:gens[j]?=Ci ⟨tg,i,ifs,0⟩)
  (h0:codeAny (model prog w) A (.compLoop (.ListComp elt gens scope pos) j it acc env) R s)
  (h:JZ (model prog w) A (pyIter it) (λit' s'=>codeAny (model prog w) A (.compLoop (.ListComp elt gens scope pos) j it' acc env) R s') nox s) :
  codeAny (model prog w) A (.compStart (.ListComp elt gens scope pos) j it acc env) R s:=by
 refine codeAny_of_tree ?_;show JZ _ _ ((compStart (.ListComp elt gens scope pos) j it acc env).onRaise (λx=>do noteFrame x env;standAt theWindowsPlace)) _ _ s;refine wpAny_notedAt ?_;unfold compStart;have hc:(clausesOf (.ListComp elt gens scope pos))[j]?=Ci ⟨tg,i,ifs,0⟩:=hg;simp only[hc];show JZ _ _ (ask >>= _) _ _ s;refine Qb (wpAny_askSetting (wpAny_ite ?_));split
 .first
   |exact Qb (Qi (Qi (And.intro rfl h0)))
   |exact Qi (And.intro rfl h0)
 .first
   |exact Qb (wpAny_rule (Qb (Q5 (Qb (Qv h (λit' s' h'=>Qi (And.intro rfl h')) λ_ _ x=>x.elim)))))
   |(refine Qb (wpAny_rule ?_);show JZ _ _ (standAt _ >>= _) _ _ s;exact Qb (Q5 (Qb (Qv h (λit' s' h'=>Qi (And.intro rfl h')) λ_ _ x=>x.elim))))
end
end L2
namespace DL
open PySem PySem.Spec L2
open PyProof.Rows hiding St
def YL:Option Sl->Option Sl
 |some (.own _)=>Ck
 |some (.deep _ _)=>Ck
 |x=>x
def UL(Z:Ul):Ul:=Z.map YL
theorem Da{Z:Ul}{i:Nat}{d:D}(h:(UL Z)[i]?=Ci (Ci (.pub d))):Z[i]?=Ci (Ci (.pub d)):=by
 unfold UL at h;rw[Qg]at h;cases e:Z[i]? with
 |none=>rw[e]at h;cases h
 |some o=>
  rw[e]at h;cases o with
  |none=>cases h
  |some sl=>cases sl with
   |pub d'=>cases h;rfl
   |own ds=>cases h
   |deep p d'=>cases h
theorem Y5{Z:Ul}{i:Nat}{ds:Co}(h:(UL Z)[i]?=Ci (Ci (.own ds))):False:=by
 unfold UL at h;rw[Qg]at h;cases e:Z[i]? with
 |none=>rw[e]at h;cases h
 |some o=>
  rw[e]at h;cases o with
  |none=>cases h
  |some sl=>cases sl with
   |pub d'=>cases h
   |own ds=>cases h
   |deep p d'=>cases h
theorem Rw{Z:Ul}{i:Nat}{p:Pat}{d:D}(h:(UL Z)[i]?=Ci (Ci (.deep p d))):False:=by
 unfold UL at h;rw[Qg]at h;cases e:Z[i]? with
 |none=>rw[e]at h;cases h
 |some o=>
  rw[e]at h;cases o with
  |none=>cases h
  |some sl=>cases sl<;>cases h
def Ke(s:D->Ul->Cv)(t:M Bool)(g:M D):Co->Ul->Co->Option Co
 |[],_,es=>Ci es
 |d::r,Z,es=>match s d Z with
  |none=>Ck
  |some Z1=>match t Z1 with
   |.bad=>Ck
   |.ok b Z2=>if b=Cm then(match g Z2 with
     |.bad=>Ck
     |.ok e Z3=>if es.length<1000000 then Ke s t g r (UL Z3) (es++[e])else Ck)
    else Ke s t g r (UL Z2) es
def ZA(f:M Co)(k:Nat)(s:D->Ul->Cv)(t:M Bool)(g:M D):M Co:=λZ=>match f Z with
 |.bad=>.bad
 |.ok ds Z1=>match Ke s t g ds (UL Z1++J6 k Ck) []with
  |none=>.bad
  |some es=>.ok es Z1
def KW(X:Cx)(ifs:Cr)(t:TT):Prop:=
 ∀(pins:List (JV×Obj))(s:JT)(σ:St)(H:Hp)(Q:Bool->Hp->Prop),Inv X pins σ H s->t σ H Q ->
  JZ (model X.prog X.w) X.A (forIn ifs Cm λc r=>if r=Cm then do let ok ←isTrue c X.env (eval c X.env);pure (ForInStep.yield ok)else pure (ForInStep.yield r)) (TP X pins σ Q) X.xe s
section
variable{X:Cx}{B G0:Hp}
theorem SI:KW X [] (tBo X.K B G0 (Uq Cm)):=λpins s σ H Q I ⟨G,Z,k,a⟩=>wpAny_tests_nil ⟨H,I,a Cm G H k (.refl _) Cj⟩
theorem SG{c:JX}{t:M Bool}(h:PT X c (tBo X.K B G0 t)):KW X [c] (tBo X.K B G0 t):=λpins s σ H Q I q=>wpAny_tests_one (h pins s σ H Q I q)
theorem EOk.rebase{K:Frag}{G H:Hp}{σ:St}{Z:Ul}(k:EOk K B G0 G H σ Z):EOk K H G G H σ (UL Z) where
 bh:=.refl _
 gh:=k.gh
 g0:=.refl _
 np:=λ_ _ _ n=>n
 len:=by unfold UL;rw[Qd];exact k.len
 pub:=λi d q=>k.pub i d (Da q)
 own:=λi ds q=>(Y5 q).elim
 sep:=λi j a ds es q=>(Y5 q).elim
 dp:=.of (λ_ _ _ q=>Rw q) λ_ _ q=>Y5 q
theorem EOk.more{K:Frag}{G H:Hp}{σ:St}{Z:Ul}(k:EOk K H G G H σ (UL Z))(n:Nat):EOk K H G G H (σ++J6 n Ck) (UL Z++J6 n Ck) where
 bh:=.refl _
 gh:=k.gh
 g0:=.refl _
 np:=λ_ _ _ n=>n
 len:=by rw[Qj,Qj,k.len,QR,QR]
 pub:=λi d q=>by
  by_cases hi:i<(UL Z).length
  .rw[Qr hi]at q
   rw[Qr (by rw[←k.len];exact hi)];exact k.pub i d q
  .rw[Qt (QP hi),Qy]at q
   split at q<;>cases q
 own:=λi ds q=>by
  by_cases hi:i<(UL Z).length
  .rw[Qr hi]at q
   exact(Y5 q).elim
  .rw[Qt (QP hi),Qy]at q
   split at q<;>cases q
 sep:=λi j a ds es q=>by
  by_cases hi:i<(UL Z).length
  .rw[Qr hi]at q
   exact(Y5 q).elim
  .rw[Qt (QP hi),Qy]at q
   split at q<;>cases q
 dp:=by
  refine .of (λi p d q=>?_) λi ds q=>?_
  .by_cases hi:i<(UL Z).length
   .rw[Qr hi]at q;exact Rw q
   .rw[Qt (QP hi),Qy]at q;split at q<;>cases q
  .by_cases hi:i<(UL Z).length
   .rw[Qr hi]at q;exact Y5 q
   .rw[Qt (QP hi),Qy]at q;split at q<;>cases q
theorem EOk.beside{K:Frag}{G H:Hp}{σ:St}{Z:Ul}{a:JV}{o:HO}(k:EOk K B G0 G H σ Z)(hg:G a=Ck):EOk K (upd H a o) G G (upd H a o) σ (UL Z) where
 bh:=.refl _
 gh:=λb u e=>by rw[US (λz=>by subst z;rw[hg]at e;cases e)];exact k.gh b u e
 g0:=.refl _
 np:=λ_ _ _ n=>n
 len:=k.rebase.len
 pub:=k.rebase.pub
 own:=λi ds q=>(Y5 q).elim
 sep:=λi j a ds es q=>(Y5 q).elim
 dp:=.of (λ_ _ _ q=>Rw q) λ_ _ q=>Y5 q
theorem lim1:1000000<=JY:=lim
def Sb:Option Sl->Option Sl
 |some (.own ds)=>Ci (.pub (.list ds))
 |some (.deep _ d)=>Ci (.pub d)
 |x=>x
def UY(Z:Ul):Ul:=Z.map Sb
theorem OZ{Z:Ul}{i:Nat}{d:D}(h:(UY Z)[i]?=Ci (Ci (.pub d))):Z[i]?=Ci (Ci (.pub d))∨(∃ds,d=.list ds/\Z[i]?=Ci (Ci (.own ds))) ∨ ∃p,Z[i]?=Ci (Ci (.deep p d)):=by
 unfold UY at h;rw[Qg]at h;cases e:Z[i]? with
 |none=>rw[e]at h;cases h
 |some o=>
  rw[e]at h;cases o with
  |none=>cases h
  |some sl=>cases sl with
   |pub d'=>cases h;exact .inl Cj
   |own ds=>cases h;exact .inr (.inl ⟨ds,rfl,rfl⟩)
   |deep p d'=>cases h;exact .inr (.inr ⟨p,rfl⟩)
theorem W9{Z:Ul}{i:Nat}{ds:Co}(h:(UY Z)[i]?=Ci (Ci (.own ds))):False:=by
 unfold UY at h;rw[Qg]at h;cases e:Z[i]? with
 |none=>rw[e]at h;cases h
 |some o=>
  rw[e]at h;cases o with
  |none=>cases h
  |some sl=>cases sl with
   |pub d'=>cases h
   |own ds=>cases h
   |deep p d'=>cases h
theorem Nr{Z:Ul}{i:Nat}{p:Pat}{d:D}(h:(UY Z)[i]?=Ci (Ci (.deep p d))):False:=by
 unfold UY at h;rw[Qg]at h;cases e:Z[i]? with
 |none=>rw[e]at h;cases h
 |some o=>
  rw[e]at h;cases o with
  |none=>cases h
  |some sl=>cases sl<;>cases h
def flat:D->Bool
 |.none=>Cm | .bool _=>Cm | .int _=>Cm | .str _=>Cm|_=>Cn
theorem Rep.flat{K:Frag}{G G':Hp}{v:V}{d:D}(r:Rep K G v d)(h:DL.flat d=Cm):Rep K G' v d:=by
 cases r with
 |non=>exact .non
 |bl b=>exact .bl b
 |int i=>exact .int i
 |str x=>exact .str x
 |lst _ _=>cases h
 |tup _ _=>cases h
 |dic _=>cases h
 |exc _ _ _ _=>cases h
 |dct _ _ _ _ _=>cases h
 |dtt _ _ _ _=>cases h
theorem Reps.flat{K:Frag}{G G':Hp}:∀{vs:List V}{ds:Co},Reps K G vs ds->ds.all DL.flat=Cm->Reps K G' vs ds
 |_,_,.nil,_=>.nil
 |_,_,.cons r t,h=>by rw[List.all_cons,Qw]at h;exact .cons (r.flat h.1) (Reps.flat t h.2)
theorem EOk.lend{K:Frag}{B G0 G H:Hp}{σ:St}{Z:Ul}{D:JV}{o:HO}(k:EOk K B G0 G H σ Z)(hD:H D=Ck)(n:Nat):EOk K (upd H D o) H H (upd H D o) (σ++J6 n Ck) (UY Z++J6 n Ck) where
 bh:=.refl _
 gh:=KD hD
 g0:=.refl _
 np:=λ_ _ _ n=>n
 len:=by unfold UY;rw[Qj,Qj,Qd,k.len,QR,QR]
 pub:=λi d q=>by
  have hl:(UY Z).length=Z.length:=by unfold UY;rw[Qd]
  by_cases hi:i<(UY Z).length
  .rw[Qr hi]at q
   rw[Qr (by rw[←k.len,←hl];exact hi)];rcases OZ q with e|⟨ds,rfl,e⟩|⟨p,e⟩
   .obtain⟨v,h1,h2⟩:=k.pub i d e
    exact⟨v,h1,h2.mono k.gh⟩
   .obtain⟨a,vs,h1,h2,h3,h4,h5⟩:=k.own i ds e
    exact⟨.ref a,h1,.lst (SqL.of h4) (h5.mono k.gh)⟩
   .obtain⟨ω,k1,k2⟩:=k.dp
    obtain⟨v,fp,s,r,_⟩:=k1 i p d e;exact⟨v,s,r.rep k.gh⟩
  .rw[Qt (QP hi),Qy]at q
   split at q<;>cases q
 own:=λi ds q=>by
  by_cases hi:i<(UY Z).length
  .rw[Qr hi]at q
   exact(W9 q).elim
  .rw[Qt (QP hi),Qy]at q
   split at q<;>cases q
 sep:=λi j a ds es q=>by
  by_cases hi:i<(UY Z).length
  .rw[Qr hi]at q
   exact(W9 q).elim
  .rw[Qt (QP hi),Qy]at q
   split at q<;>cases q
 dp:=by
  refine .of (λi p d q=>?_) λi ds q=>?_
  .by_cases hi:i<(UY Z).length
   .rw[Qr hi]at q;exact Nr q
   .rw[Qt (QP hi),Qy]at q;split at q<;>cases q
  .by_cases hi:i<(UY Z).length
   .rw[Qr hi]at q;exact W9 q
   .rw[Qt (QP hi),Qy]at q;split at q<;>cases q
def WP(f:M Co)(k:Nat)(s:D->Ul->Cv)(t:M Bool)(g:M D):M Co:=λZ=>match f Z with
 |.bad=>.bad
 |.ok ds Z1=>match Ke s t g ds (UY Z1++J6 k Ck) []with
  |none=>.bad
  |some es=>if es.all flat=Cm then .ok es Z1 else .bad
end
def Y2(s:D->Ul->Cv)(t:M Bool)(g:M D):Co->Ul->Co->Option (Co×Ul)
 |[],Z,es=>Ci (es,Z)
 |d::r,Z,es=>match s d Z with
  |none=>Ck
  |some Z1=>match t Z1 with
   |.bad=>Ck
   |.ok b Z2=>if b=Cm then(match g Z2 with
     |.bad=>Ck
     |.ok e Z3=>if es.length<1000000 then Y2 s t g r (UL Z3) (es++[e])else Ck)
    else Y2 s t g r (UL Z2) es
def Yo(s0:D->Ul->Cv)(t0:M Bool)(f1:M Co)(s1:D->Ul->Cv)(t1:M Bool)(g:M D):Co->Ul->Co->Option Co
 |[],_,es=>Ci es
 |d::r,Z,es=>match s0 d Z with
  |none=>Ck
  |some Z1=>match t0 Z1 with
   |.bad=>Ck
   |.ok b Z2=>if b=Cm then(match f1 Z2 with
     |.bad=>Ck
     |.ok ds Z3=>match Y2 s1 t1 g ds (UL Z3) es with
      |none=>Ck
      |some (es',Z4)=>Yo s0 t0 f1 s1 t1 g r Z4 es')
    else Yo s0 t0 f1 s1 t1 g r (UL Z2) es
def Vm(f:M Co)(k:Nat)(s:D->Ul->Cv)(t:M Bool)(f1:M Co)(s1':D->Ul->Cv)(t1':M Bool)(g:M D):M Co:=λZ=>match f Z with
 |.bad=>.bad
 |.ok ds Z1=>match Yo s t f1 s1' t1' g ds (UL Z1++J6 k Ck) []with
  |none=>.bad
  |some es=>.ok es Z1
abbrev RdB:=Ul->Co->Option (Co×Ul)
def rL(g:M D):RdB:=λZ es=>match g Z with
 |.bad=>Ck
 |.ok e Z3=>if es.length<1000000 then Ci (es++[e],UL Z3)else Ck
def cT(s:D->Ul->Cv)(t:M Bool)(rd:RdB):Co->Ul->Co->Option (Co×Ul)
 |[],Z,es=>Ci (es,Z)
 |d::r,Z,es=>match s d Z with
  |none=>Ck
  |some Z1=>match t Z1 with
   |.bad=>Ck
   |.ok b Z2=>if b=Cm then(match rd Z2 es with
     |none=>Ck
     |some (es',Z')=>cT s t rd r Z' es')
    else cT s t rd r (UL Z2) es
def rN(f:M Co)(s:D->Ul->Cv)(t:M Bool)(rd:RdB):RdB:=λZ es=>match f Z with
 |.bad=>Ck
 |.ok ds Z3=>cT s t rd ds (UL Z3) es
structure Left(Y:Cx)(D':JV)(pins:List (JV×Obj))(H G:Hp)(es':Co)(Z':Ul)(σ':St)(H' G':Hp)(vs':List V)(s':JT):Prop where
 inv:Inv Y pins σ' H' s'
 eok:EOk Y.K H' G' G' H' σ' Z'
 hh:∀a o,a≠D'->H a=Ci o->H' a=Ci o
 gg:Same G G'
 np:∀a(u:MO),a≠D'->H a=Ci u.ho->G a=Ck->G' a=Ck
 hd:H' D'=Ci (.lst vs')
 gd:G' D'=Ck
 rp:Reps Y.K G' vs' es'
def Vi(Y:Cx)(D':JV)(W:(JT->Prop)->JT->Prop)(rd:RdB):Prop:=
 ∀(pins:List (JV×Obj))(sh:JT)(σ:St)(B1 G1 H G:Hp)(Z Z':Ul)(vs:List V)(es es':Co)(Q:JT->Prop),
  Inv Y pins σ H sh->EOk Y.K B1 G1 G H σ Z->B1 D'=Ci (.lst vs)->G1 D'=Ck->Reps Y.K G1 vs es->rd Z es=Ci (es',Z') ->
  (∀σ' H' G' vs' s',Left Y D' pins B1 G1 es' Z' σ' H' G' vs' s'->Q s')->W Q sh
section
variable{Y:Cx}{D':JV}
theorem Eo{elt:JX}{g:M D}(hx:Y.xe=nox)(he:∀B1 G1,PE Y elt (tD Y.K B1 G1 g)) :
  Vi Y D' (λQ s=>JZ (model Y.prog Y.w) Y.A (eval elt Y.env) (λx s₄=>JZ (model Y.prog Y.w) Y.A (call (.builtin "list.append") [.ref D',x]) (λ_ s₅=>Q s₅) nox s₄) nox s) (rL g):=by
 intro pins sh σ B1 G1 H G Z Z' vs es es' Q I k hD gD r z fin;unfold rL at z;cases zg:g Z with
 |bad=>rw[zg]at z;cases z
 |ok e Z4=>
 rw[zg]at z;dsimp only at z;split at z
 .rename_i hle
  cases z;have h:=he B1 G1 pins sh σ H (λv H8=>∃G8,EOk Y.K B1 G1 G8 H8 σ Z4/\Rep Y.K G8 v e) I ⟨G,Z,k,by unfold aft;rw[zg];exact λv G8 H8 k8 _ q=>⟨G8,k8,q⟩⟩;rw[hx]at h;refine thn h λev s8 ⟨v,H8,I8,rv,G8,k8,r8⟩=>?_;have h2:=TJ pins s8 σ H8 (.ref D') [v] (.ref D') [ev] (λ_ H9=>H9=upd H8 D' (.lst (vs++[v]))) I8 Cj (.cons rv .nil) ⟨D',vs,v,rfl,rfl,k8.bh _ _ hD,by have:=lim1;rw[r.length];omega,rfl⟩
  rw[hx]at h2;refine thn h2 λ_ s9 ⟨_,H9,I9,_,e9⟩=>?_;subst e9;have g8:=k8.np _ (.l _) hD gD;exact fin σ _ G8 _ s9 ⟨I9,k8.beside g8,λa o z q=>by rw[US z];exact k8.bh a o q,k8.g0,λa o _ q w=>k8.np a o q w,Kk,g8,(r.mono k8.g0).append (.cons r8 .nil)⟩
 .cases z
theorem OE{tg:JX}{ifs:Cr}{code:Code}{W:(JT->Prop)->JT->Prop}{s:D->Ul->Cv}{t:M Bool}{rd:RdB}{it:JV}(hx:Y.xe=nox)(hc:Y.calm=Cm)(rule:XM Y.prog Y.w Y.A tg ifs Y.env (.ref it) code W)
  (hg:∀B1 G1,PG Y tg (tG Y.K B1 G1 s)) (ht:∀B1 G1,KW Y ifs (tBo Y.K B1 G1 t)) (hb:Vi Y D' W rd)
  {pins:List (JV×Obj)} {sh:JT} {σ:St} {H G:Hp} {Z ZF:Ul} {fp:Ct} {tn:Nat->Heap->Prop} {J:It} {ds es esF:Co} {vs:List V} {R:Result->JT->Prop}
  (I:Inv Y pins σ H sh) (T:Turn Y.prog Y.w Y.K tg J fp it tn) (st:tn 0 sh.heap) (hf:∀b∈fp,U8 Y pins H b)
  (k:EOk Y.K H G G H σ Z) (its:ZG Y.K J ds G) (hD:H D'=Ci (.lst vs)) (gD:G D'=Ck) (r:Reps Y.K G vs es) (zl:cT s t rd ds Z es=Ci (esF,ZF))
  (CN:∀σ' H' G' vs' s',Left Y D' pins H G esF ZF σ' H' G' vs' s'->R (.ok .next) s'):codeAny (model Y.prog Y.w) Y.A code R sh:=by
 have stat:∀{H':Hp},(∀b∈fp,H' b=Ck)->∀b∈fp,U8 Y pins H' b:=λhn b hb=>⟨hn b hb,(hf b hb).2⟩
 refine rule R (λn s'=>∃i σ' H' G' Z' vs' es',n=ds.length-i/\tn i s'.heap/\(∀b∈fp,H' b=Ck)/\Left Y D' pins H G es' Z' σ' H' G' vs' s'/\cT s t rd (ds.drop i) Z' es'=Ci (esF,ZF)) ds.length sh
  ⟨0,σ,H,G,Z,vs,es,rfl,st,λb hb=>(hf b hb).1,⟨I,k,λ_ _ _ q=>q,.refl _,λ_ _ _ _ n=>n,hD,gD,r⟩,by rw[List.drop_zero];exact zl⟩ ?_
 rintro n s' ⟨i,σ',H',G',Z',vs',es',rfl,Bt,By,⟨I',k',CS,CL,BA,CO,gD',r'⟩,zc⟩;by_cases hlt:i<ds.length
 .rw[Jm hlt,cT]at zc
  cases zs:s ds[i] Z' with
  |none=>rw[zs]at zc;cases zc
  |some Z2=>
  rw[zs]at zc;dsimp only at zc;cases zt:t Z2 with
  |bad=>rw[zt]at zc;cases zc
  |ok b Z3=>
  rw[zt]at zc;dsimp only at zc;refine thn (T.item Y Cj Cj Cj hc i pins s' σ' H' nox I' (stat By) Bt (its.go i G' H' CL k'.gh hlt)) λrr s4 ⟨u,hr,h4⟩=>?_;subst hr;refine thn h4 λ_ s5 ⟨x,H5,I5,r5,y5,CM,BO⟩=>?_
  obtain⟨G5,e5,rx⟩:=its.yld i G' H' x H5 ds[i] CL k'.gh (Qe hlt) y5;have h6:=hg H' G' _ s5 σ' H5 x u (λσ6 H6=>∃G6,EOk Y.K H' G' G6 H6 σ6 Z2) (I5.pinned (stat BO) (T.obj _ _ CM)) r5 ⟨G5,Z',ds[i],Z2,k'.ext e5,rx,zs,λσ6 G6 H6 k6 _=>⟨G6,k6⟩⟩;rw[hx]at h6;refine thn h6 λ_ s6 ⟨σ6,H6,I6,G6,k6⟩=>?_;have h7:=ht H' G' _ s6 σ6 H6 (λc H7=>c=b/\∃G7,EOk Y.K H' G' G7 H7 σ6 Z3) I6 ⟨G6,Z2,k6,by unfold aft;rw[zt];exact λc G7 H7 k7 _ q=>⟨q,G7,k7⟩⟩
  rw[hx]at h7;refine thn h7 λok s7 ⟨H7,I7,Aa,G7,k7⟩=>?_;subst Aa
  have again:∀{H9:Hp}{σ9:St}{s9:JT},Inv Y (pins++XZ fp s5.heap) σ9 H9 s9->Inv Y pins σ9 H9 s9/\tn (i+1) s9.heap/\∀b∈fp,H9 b=Ck:=λ{H9 σ9 s9} I9=>by refine⟨I9.unpinned,T.keep _ _ _ CM λb hb o e=>(I9.pin (b,o) (Qq _ (Qq _ (XI hb e)))).1,λb hb=>?_⟩;obtain⟨o,e,d⟩:=T.obj _ _ CM b hb;exact(I9.pin (b,o) (Qq _ (Qq _ (XI hb e)))).2.1
  have lt:ds.length-(i+1)<ds.length-i:=Nat.sub_lt_sub_left hlt (Nat.lt_succ_self i);cases ok with
  |false=>rw[QM (by decide)]at zc⊢;obtain⟨J1,J2,J3⟩:=again I7;exact⟨_,lt,i+1,σ6,H7,G7,UL Z3,vs',es',rfl,J2,J3,⟨J1,k7.rebase,λa o z q=>k7.bh a o (CS a o z q),CL.trans k7.g0,λa o z q w=>k7.np a o (CS a _ z q) (BA a o z q w),k7.bh _ _ CO,k7.np _ (.l _) CO gD',r'.mono k7.g0⟩,zc⟩
  |true=>
   rw[Qs Cj]at zc⊢;cases ze:rd Z3 es' with
   |none=>rw[ze]at zc;cases zc
   |some pr=>
   obtain⟨es1,Z5⟩:=pr;rw[ze]at zc;refine hb _ s7 σ6 H' G' H7 G7 Z3 Z5 vs' es' es1 _ I7 k7 CO gD' r' ze λσ9 H9 G9 vs9 s9 L=>?_
   obtain⟨J1,J2,J3⟩:=again L.inv;exact⟨_,lt,i+1,σ9,H9,G9,Z5,vs9,es1,rfl,J2,J3,⟨J1,L.eok,λa o z q=>L.hh a o z (CS a o z q),CL.trans L.gg,λa o z q w=>L.np a o z (CS a _ z q) (BA a o z q w),L.hd,L.gd,L.rp⟩,zc⟩
 .rw[JF (QP hlt),cT]at zc
  cases zc;refine thn (T.done Y Cj Cj Cj hc i pins s' σ' H' nox I' (stat By) Bt (its.stop i G' H' CL k'.gh (QP hlt))) λrr s4 ⟨hr,I6⟩=>?_
  subst hr;exact CN σ' H' G' vs' s4 ⟨I6,k',CS,CL,BA,CO,gD',r'⟩
theorem En{elt Bb i1:JX}{ifs1:Cr}{gens:List Comprehension}{scope:Scope}{pos:Pos}{j:Nat}{W:JS->(JT->Prop)->JT->Prop}{f:M Co}{s:D->Ul->Cv}{t:M Bool}{rd:RdB}(hx:Y.xe=nox)(hc:Y.calm=Cm)
  (hn:gens[j+1]?=Ci ⟨Bb,i1,ifs1,0⟩) (rule:∀CP,XM Y.prog Y.w Y.A Bb ifs1 Y.env CP (.compLoop (.ListComp elt gens scope pos) (j+1) CP (.ref D') Y.env) (W CP))
  (hi:∀B1 G1,PI Y Bb i1 (iD Y.K B1 G1 f)) (hg:∀B1 G1,PG Y Bb (tG Y.K B1 G1 s)) (ht:∀B1 G1,KW Y ifs1 (tBo Y.K B1 G1 t)) (hb:∀CP,Vi Y D' (W CP) rd) :
  Vi Y D' (λQ s=>JZ (model Y.prog Y.w) Y.A (eval i1 Y.env) (λx s₄=>JZ (model Y.prog Y.w) Y.A (pyIter x) (λCP s₅=>codeAny (model Y.prog Y.w) Y.A (.compStart (.ListComp elt gens scope pos) (j+1) CP (.ref D') Y.env)
   (λr s₆=>match r with | .ok _=>Q s₆ | .error _=>False) s₅) nox s₄) nox s) (rN f s t rd):=by
 intro pins sh σ B1 G1 H G Z Z' vs es es' Q I k hD gD r z fin;unfold rN at z;cases zf:f Z with
 |bad=>rw[zf]at z;cases z
 |ok ds Z3=>
 rw[zf]at z;have h:=hi B1 G1 pins sh σ H (λJ1 H8=>∃G8,EOk Y.K B1 G1 G8 H8 σ Z3/\ZG Y.K J1 ds G8) I ⟨G,Z,k,by rw[zf];exact λJ1 G8 H8 k8 _ q=>⟨G8,k8,q⟩⟩;rw[hx]at h;refine thn h λxv s8 h8=>thn h8 λitv s9 h9=>?_
 obtain⟨CP,fp1,tn1,J1,H9,rfl,I9,T1,st9,f9,G9,k9,its9⟩:=h9
 have loop:codeAny (model Y.prog Y.w) Y.A (.compLoop (.ListComp elt gens scope pos) (j+1) (.ref CP) (.ref D') Y.env) (λr s₆=>match r with | .ok _=>Q s₆ | .error _=>False) s9:=
  OE hx hc (rule (.ref CP)) hg ht (hb _) I9 T1 st9 f9 k9.rebase its9 (k9.bh _ _ hD) (k9.np _ (.l _) hD gD) (r.mono k9.g0) z λσ' H' G' vs' s' L=>
   fin σ' H' G' vs' s' ⟨L.inv,L.eok,λa o z q=>L.hh a o z (k9.bh a o q),k9.g0.trans L.gg,λa o z q w=>L.np a o z (k9.bh a _ q) (k9.np a o q w),L.hd,L.gd,L.rp⟩
 exact DN hn loop (T1.self Y.A 0 _ _ _ st9 loop)
end
def Vc(Y:Cx)(e:JX)(j:Nat)(tg:JX)(ifs:Cr)(rd:RdB):Prop:=
 ∀(D':JV)(it:JS),∃W,XM Y.prog Y.w Y.A tg ifs Y.env it (.compLoop e j it (.ref D') Y.env) W/\Vi Y D' W rd
section
variable{Y:Cx}{elt tg i:JX}{ifs:Cr}{gens:List Comprehension}{scope:Scope}{pos:Pos}{j:Nat}
theorem TH{g:M D}(hx:Y.xe=nox)(hg:gens[j]?=Ci ⟨tg,i,ifs,0⟩)(hn:gens[j+1]?=Ck)(he:∀B1 G1,PE Y elt (tD Y.K B1 G1 g)):Vc Y (.ListComp elt gens scope pos) j tg ifs (rL g):=
 λ_ _=>⟨_,O0 hg hn,Eo hx he⟩
theorem Em{Bb i1:JX}{ifs1:Cr}{f:M Co}{s:D->Ul->Cv}{t:M Bool}{rd:RdB}(hx:Y.xe=nox)(hc:Y.calm=Cm)(hg:gens[j]?=Ci ⟨tg,i,ifs,0⟩)(hn:gens[j+1]?=Ci ⟨Bb,i1,ifs1,0⟩)(hs:∀x,Uj i1 Y.env x=pure x)
  (hi:∀B1 G1,PI Y Bb i1 (iD Y.K B1 G1 f)) (hgt:∀B1 G1,PG Y Bb (tG Y.K B1 G1 s)) (ht:∀B1 G1,KW Y ifs1 (tBo Y.K B1 G1 t)) (hb:Vc Y (.ListComp elt gens scope pos) (j+1) Bb ifs1 rd):Vc Y (.ListComp elt gens scope pos) j tg ifs (rN f s t rd):=
 λD' _=>⟨_,Db hg hn hs,En hx hc hn (λCP=>(Classical.choose_spec (hb D' CP)).1) hi hgt ht (λCP=>(Classical.choose_spec (hb D' CP)).2)⟩
end
def Zv(l:Bool)(Z:Ul):Ul:=match l with|true=>UY Z|false=>UL Z
theorem Mj{K:Frag}{B G0 G1 H2:Hp}{σ:St}{Z1:Ul}{D:JV}(l:Bool)(k1:EOk K B G0 G1 H2 σ Z1)(hfr:H2 D=Ck)(n:Nat) :
  ∃Gb,EOk K (upd H2 D (.lst [])) Gb Gb (upd H2 D (.lst [])) (σ++J6 n Ck) (Zv l Z1++J6 n Ck)/\Same G1 Gb/\Gb D=Ck /\
   ∀(G' H':Hp) vs es,(l=Cm->es.all flat=Cm)->Same Gb G'->Same H2 H'->Same G' H'->(∀a(u:MO),H2 a=Ci u.ho->Gb a=Ck->G' a=Ck)->G' D=Ck->Reps K G' vs es->∃Gf,Ext G1 H2 Gf H'/\Gf D=Ck/\Reps K Gf vs es:=by
 have gD:G1 D=Ck:=k1.gh.free hfr;cases l with
 |false=>exact⟨G1,(k1.beside gD).more n,.refl _,gD,λG' H' vs es _ g h gh np d r=>⟨G',⟨h,g,gh,np⟩,d,r⟩⟩
 |true=>exact⟨H2,k1.lend hfr n,k1.gh,hfr,λG' H' vs es fl _ h _ _ _ r=>⟨G1,⟨h,.refl _,k1.gh.trans h,λ_ _ _ n=>n⟩,gD,r.flat (fl Cj)⟩⟩
def dCG(l:Bool)(f:M Co)(k:Nat)(s:D->Ul->Cv)(t:M Bool)(rd:RdB):M Co:=λZ=>match f Z with
 |.bad=>.bad
 |.ok ds Z1=>match cT s t rd ds (Zv l Z1++J6 k Ck) []with
  |none=>.bad
  |some (es,_)=>if l=Cm->es.all flat=Cm then .ok es Z1 else .bad
theorem PP{l:Bool}{f:M Co}{k:Nat}{s:D->Ul->Cv}{t:M Bool}{rd:RdB}{Z Z':Ul}{es:Co}(h:dCG l f k s t rd Z=.ok es Z'):∃ds ZF,f Z=.ok ds Z'/\cT s t rd ds (Zv l Z'++J6 k Ck) []=Ci (es,ZF)/\(l=Cm->es.all flat=Cm):=by
 unfold dCG at h;cases zf:f Z with
 |bad=>rw[zf]at h;cases h
 |ok ds Z1=>
 rw[zf]at h;dsimp only at h;cases zl:cT s t rd ds (Zv l Z1++J6 k Ck) []with
 |none=>rw[zl]at h;cases h
 |some pr=>
 obtain⟨esF,ZF⟩:=pr;rw[zl]at h;dsimp only at h;split at h
 .rename_i hf
  cases h;exact⟨ds,ZF,rfl,zl,hf⟩
 .cases h
section
variable{X:Cx}{B G0:Hp}{KX:XW}
def Zx(X:Cx)(N2:List Str)(scope:Scope)(e tg:JX)(ifs:Cr)(s:D->Ul->Cv)(t:M Bool)(rd:RdB):Prop:=
 ∀(cl:List (Str×JV))(C:JV)(s₀:JT)(H₀:Hp)(ex:Ct),(∀B' G',PG (X.blk N2 scope cl C s₀ H₀ ex) tg (tG X.K B' G' s))/\(∀B' G',KW (X.blk N2 scope cl C s₀ H₀ ex) ifs (tBo X.K B' G' t))/\Vc (X.blk N2 scope cl C s₀ H₀ ex) e 0 tg ifs rd
structure Xs(SC scope:Scope)(N1 N2:List Str)(k:Nat):Prop where
 b:VJ scope.names N1 N2 k=Cm
 kind:scope.kind=.function
 cell:∀y∈scope.names,y.2≠.cell
 names:∀y∈scope.names,y.2=.local->scope.names.lookup y.1=Ci .local
 free:∀y∈scope.names,y.2=.free->SC.names.lookup y.1=Ci .cell∨SC.names.lookup y.1=Ci .free
theorem OD{l:Bool}{tg elt iter:JX}{ifs:Cr}{gs:List Comprehension}{scope:Scope}{pos pos':Pos}{N2:List Str}{k:Nat}{f:M Co}{s:D->Ul->Cv}{t:M Bool}{rd:RdB}{use:Option (JS->Sem Unit)}{Qc:JS->JT->Prop}(hc:X.calm=Cm)
  (hi:PI X tg iter (iD X.K B G0 f)) (CD:Zx X N2 scope (.ListComp elt (⟨tg,iter,ifs,0⟩::gs) scope pos) tg ifs s t rd) (hb:Xs X.env.scope scope X.N N2 k) (hs:∀x,Uj iter X.env x=pure x)
  {pins:List (JV×Obj)} {s0:JT} {σ:St} {G H:Hp} {Z Z1 ZF:Ul} {ds esF:Co} (I:Inv X pins σ H s0) (k0:EOk X.K B G0 G H σ Z) (zf:f Z=.ok ds Z1) (zl:cT s t rd ds (Zv l Z1++J6 k Ck) []=Ci (esF,ZF)) (hfl:l=Cm->esF.all flat=Cm)
  (CN:∀(C D:JV)(vs:List V)(G' H':Hp)(s4:JT)(m:Str->Cw),Inv X pins σ H' s4->s4.heap.Ns C m->H' C=Ck->C≠X.env.locals->X.s₀.heap.objs.size<=C->(∀x c,X.env.cells.lookup x=Ci c->c≠C)->(∀p∈X.pn++pins,p.1≠C) ->
   EOk X.K B G0 G' H' σ Z1->Same G G'->NewL X.K B G' H' σ Z1 D vs esF->compPost (model X.prog X.w) X.A X.xe use Qc (.ref D) C (.ok .next) s4) :
  JZ (model X.prog X.w) X.A (comprehension (.ListComp elt (⟨tg,iter,ifs,0⟩::gs) scope pos) scope X.env pos' (newList []) Cn (eval iter X.env) use) Qc X.xe s0:=by
 obtain⟨cl,hcl,CY,Bz⟩:=Rx (scope:=scope) (env:=X.env) λy hy hf=>I.ok.has y.1 (hb.free y hy hf)
 refine wpAny_comprehension_free (use:=use) Cj hs hcl hb.kind hb.names (thn (hi pins s0 σ H (λJ H1=>∃G1,EOk X.K B G0 G1 H1 σ Z1/\Same G G1/\ZG X.K J ds G1) I ⟨G,Z,k0,by rw[zf];exact λJ G1 H1 k1 s1 it=>⟨G1,k1,s1,it⟩⟩) λv s1 h1=>thn h1 λitv s2 h2=>?_);obtain⟨it,fp,tn,J,H2,rfl,I2,T,st2,f2,G1,k1,BW,its⟩:=h2;refine wpAny_newObj_type (wpAny_newFunctionEnv hb.cell (by intro y hy;simp at hy) (λh₁ hns₁ hsb₁=>?_) hb.kind);dsimp only at hns₁ hsb₁⊢;have hfr:H2 s2.heap.objs.size=Ck:=I2.hok.fresh (Qn _)
 have I3:Inv X pins σ (upd H2 s2.heap.objs.size (.lst [])) {s2 with heap:=s2.heap.push {cls:=.type "list", dict:=Ck,data:=.seq ([]:Cq).toArray}}:=
  I2.laid (t':=s2.toks) (λb u e=>Qf _ e) (Qn _) ⟨JI _,[],0,.nil,Qx _ Cj⟩
 generalize hP:s2.heap.push {cls:=.type "list", dict:=Ck,data:=.seq ([]:Cq).toArray}=P at I3 hns₁ hsb₁⊢;have old:∀b o,s2.heap.get? b=Ci o->P.get? b=Ci o:=λb o e=>hP ▸ Qf _ e;have kept:∀b o,P.get? b=Ci o->h₁.get? b=Ci o:=λb o e=>hsb₁.extBut b o (QE (Qh e)) (Qf _ e);have fpo:∀b∈fp,∃o,s2.heap.get? b=Ci o:=λb hb=>let ⟨o,e,_⟩:=T.obj _ _ st2 b hb;⟨o,e⟩
 have fpD:∀b∈fp,b≠s2.heap.objs.size:=λb hb=>let ⟨o,e⟩:=fpo b hb;QE (Qh e)
 have f3:∀b∈fp,U8 X pins (upd H2 s2.heap.objs.size (.lst [])) b:=λb hb=>⟨by rw[US (fpD b hb)];exact(f2 b hb).1,(f2 b hb).2⟩
 have I4:=I3.enter (scope:=scope) (cl:=cl) (N2:=N2) (k:=k) (fp:=fp) (t':=s2.toks+([]:List (Str×JS)).length) hb.b hb.kind hb.cell hb.free CY Bz hns₁ kept f3 (λb hb=>let ⟨o,e⟩:=fpo b hb;⟨o,old b o e⟩);dsimp only at I4;obtain⟨Gb,kb,sgb,gbD,ex⟩:=Mj l k1 hfr k;have sH:Same H2 (upd H2 s2.heap.objs.size (.lst [])):=KD hfr;have Bx:upd H2 s2.heap.objs.size (.lst []) s2.heap.objs.size=Ci (.lst []):=Kk;generalize upd H2 s2.heap.objs.size (.lst [])=H3 at I3 I4 f3 kb sH Bx;generalize s2.heap.objs.size=D at *;have Bs:tn 0 h₁:=T.keep 0 _ _ st2 λb hb o e=>kept b o (old b o e)
 have stat:∀b∈fp,U8 (X.blk N2 scope cl P.objs.size {s2 with heap:=P} H3 fp) pins H3 b:=λb hb=>by
  obtain⟨z0,z1,z2,z3,z4,z5⟩:=f3 b hb;obtain⟨o,e⟩:=fpo b hb;refine⟨z0,QE (Qh (old b o e)),λz=>?_,.inl hb,λx c q=>z4 x c (CY x c q),z5⟩;rcases Qu.mp (I3.stkSub b z)with q|q
  .exact z1 q
  .exact z2 q
 have neD:∀a o,H2 a=Ci o->a≠D:=λa o q z=>by subst z;rw[hfr]at q;cases q
 obtain⟨hg,ht,hcl'⟩:=CD cl P.objs.size {s2 with heap:=P} H3 fp;obtain⟨W,rule,body⟩:=hcl' D (.ref it)
 have loop:=OE (Y:=X.blk N2 scope cl P.objs.size {s2 with heap:=P} H3 fp) (D':=D) (R:=compPost (model X.prog X.w) X.A X.xe use Qc (.ref D) P.objs.size) Cj hc rule hg ht body I4 T Bs stat kb
  ⟨λi G H s1 s2 hi=>its.go i G H (sgb.trans s1) s2 hi,λi G H s1 s2 hi=>its.stop i G H (sgb.trans s1) s2 hi,λi G H x H' d s1 s2 e y=>its.yld i G H x H' d (sgb.trans s1) s2 e y⟩ Bx gbD .nil zl λσ' H' G' vs' s4 L=>by
   obtain⟨m,hm,_⟩:=id L.inv.loc;have I7:Inv X pins σ H' s4:=I3.call' (ch:=fp) L.inv.os L.inv.base L.inv.hok L.inv.bare λb hb=>⟨(f3 b hb).2.2.2.1,(f3 b hb).2.1,(f3 b hb).2.2.2.2.1,(f3 b hb).2.2.2.2.2⟩
   obtain⟨Gf,eF,dF,rF⟩:=ex G' H' vs' esF hfl L.gg (λa o q=>L.hh a o (neD a o q) (sH a o q)) L.eok.gh (λa o q z=>L.np a o (neD a _ q) (sH a _ q) z) L.gd L.rp
   refine CN P.objs.size D vs' Gf H' s4 m I7 hm L.inv.free (Js I3.lt) I3.sz (λx c e z=>by obtain⟨_,q⟩:=I3.cell x c e;exact absurd q.lt (by rw[z];exact Q9 _)) (λp hp z=>by have:=Qh (I3.pin p hp).1;exact absurd this (by rw[z];exact Q9 _))
    (k1.ext eF) (BW.trans eF.g) ⟨k1.bh.free hfr,dF,L.hd,rF,λj es' q z=>?_,λj pt d v fp q s r=>k1.freshD eF.h hfr q s r⟩
   obtain⟨a',ws,Ac,h2',h3',BN,h5'⟩:=k1.own j es' q;rw[z]at Ac;cases Ac;rw[hfr]at BN;cases BN
 exact codeAny_compStart_list loop (T.self X.A 0 _ _ _ Bs loop)
theorem Mi{l:Bool}{tg elt iter:JX}{ifs:Cr}{gs:List Comprehension}{scope:Scope}{pos:Pos}{N2:List Str}{k:Nat}{f:M Co}{s:D->Ul->Cv}{t:M Bool}{rd:RdB}(hc:X.calm=Cm)
  (hi:PI X tg iter (iD X.K B G0 f)) (CD:Zx X N2 scope (.ListComp elt (⟨tg,iter,ifs,0⟩::gs) scope pos) tg ifs s t rd) (hb:Xs X.env.scope scope X.N N2 k) (hs:∀x,Uj iter X.env x=pure x:=by intro _;rfl) :
  PE X (.ListComp elt (⟨tg,iter,ifs,0⟩::gs) scope pos) (tL X.K B G0 (dCG l f k s t rd)):=by
 intro pins s0 σ H Q I ⟨G,Z,k0,a⟩;cases z:dCG l f k s t rd Z with
 |bad=>rw[z]at a;exact a.elim
 |ok es Z1=>
 rw[z]at a;obtain⟨ds,ZF,zf,zl,hfl⟩:=PP z;rw[eval_ListComp];refine OD hc hi CD hb hs I k0 zf zl hfl λC D vs G' H' s4 m I7 hm hC hL hz hcl hp k' s' n=>?_
 exact⟨m,hm,λh' sb=>⟨.ref D,H',I7.turned (t':=s4.toks) (it:=C) (λb o hb e=>(sb.2 b hb).trans e) hC hL (.inr hz) hcl hp,rfl,a D vs G' H' k' s' n⟩⟩
theorem sD_g{l:Bool}{y:Str}{j:Nat}{py:Pos}{spos:Pos}{tg elt iter:JX}{ifs:Cr}{gs:List Comprehension}{scope:Scope}{pos:Pos}{N2:List Str}{k:Nat}{f:M Co}{s:D->Ul->Cv}{t:M Bool}{rd:RdB}(hN:X.N.Nodup)(hj:X.N[j]?=Ci y)(hy:X.env.scope.names.lookup y=Ci .local)(hc:X.calm=Cm)
  (hi:PI X tg iter (iD X.K B G0 f)) (CD:Zx X N2 scope (.ListComp elt (⟨tg,iter,ifs,0⟩::gs) scope pos) tg ifs s t rd) (hb:Xs X.env.scope scope X.N N2 k) (hs:∀x,Uj iter X.env x=pure x:=by intro _;rfl)
  (hsw:swapsWith (.ListComp elt (⟨tg,iter,ifs,0⟩::gs) scope pos) (Ci (.Name y py)) spos.line X.env=pure Cm:=by rfl) :
  PS X (.Assign [.Name y py] (.ListComp elt (⟨tg,iter,ifs,0⟩::gs) scope pos) spos) (tS X.K B G0 KX (Ku j (dCG l f k s t rd))):=by
 intro pins s0 σ H Dn I ⟨G,Z,k0,a⟩;unfold Ku sB at a;cases z:dCG l f k s t rd Z with
 |bad=>rw[z]at a;exact a.elim
 |ok es Z1=>
 rw[z]at a;dsimp only at a;by_cases hl:j<Z1.length
 .rw[Qs hl]at a
  obtain⟨ds,ZF,zf,zl,hfl⟩:=PP z;rw[exec_Assign_Name_used _ _ _ _ hsw];refine Qb (Q5 (Qb ?_));show JZ _ X.A (do let _ ←comprehension (.ListComp elt (⟨tg,iter,ifs,0⟩::gs) scope pos) scope X.env _ (newList []) Cn (eval iter X.env) (Ci (assign (.Name y py) X.env))) _ _ s0;refine Qb (Qv (OD (use:=Ci (assign (.Name y py) X.env)) (Qc:=λ_ s'=>SP X pins Dn .next s') hc hi CD hb hs I k0 zf zl hfl λC D vs G' H' s4 m I7 hm hC hL hz hcl hp k' s' n=>?_) (λ_ s' hq=>Qi (Qi hq)) λ_ _ e=>e);show JZ _ X.A (assign (.Name y py) X.env (.ref D)) _ _ s4;refine wpAny_assign_Name (RD I7 hN hj (.inl hy) (v:=.ref D) Cj (λs5 I8 ⟨ad,sb,hx⟩=>?_) (.inr hy))
  have hCa:C≠ad:=by
   rcases hx with e|e
   .rw[e];exact hL
   .exact Ne.symm (hcl y ad e)
  refine⟨m,hm.sameBut sb hCa,λh' sb'=>⟨_,H',I8.turned (t':=s5.toks) (it:=C) (λb o hb e=>(sb'.2 b hb).trans e) hC hL (.inr hz) hcl hp,?_⟩⟩;exact a _ G' H' (k'.setOwn n hl) s'
 .rw[QM hl]at a;exact a.elim
theorem Mh{K:Frag}{f f':M Co}(h:∀Z es Z',f Z=.ok es Z'->f' Z=.ok es Z'){σ:St}{H:Hp}{Q:VK}(q:tL K B G0 f σ H Q):tL K B G0 f' σ H Q:=by
 obtain⟨G,Z,k,a⟩:=q;refine⟨G,Z,k,?_⟩;cases z:f Z with
 |bad=>rw[z]at a;exact a.elim
 |ok es Z'=>rw[z]at a;rw[h Z es Z' z];exact a
theorem Hs{K:Frag}{f f':M Co}{j:Nat}(h:∀Z es Z',f Z=.ok es Z'->f' Z=.ok es Z'){Dn:_}{σ:St}{H:Hp}(q:tS K B G0 KX (Ku j f) Dn σ H):tS K B G0 KX (Ku j f') Dn σ H:=by
 obtain⟨G,Z,k,a⟩:=q;refine⟨G,Z,k,?_⟩;unfold Ku sB at a⊢;cases z:f Z with
 |bad=>rw[z]at a;exact a.elim
 |ok es Z'=>rw[z]at a;rw[h Z es Z' z];exact a
end
theorem Tz{s:D->Ul->Cv}{t:M Bool}{g:M D}:∀{ds:Co}{Z:Ul}{es esF:Co},Ke s t g ds Z es=Ci esF->∃ZF,cT s t (rL g) ds Z es=Ci (esF,ZF)
 |[],Z,es,esF,h=>by rw[Ke]at h;cases h;exact⟨Z,rfl⟩
 |d::r,Z,es,esF,h=>by
  rw[Ke]at h;rw[cT];cases zs:s d Z with
  |none=>rw[zs]at h;cases h
  |some Z1=>
  rw[zs]at h;dsimp only at h⊢;cases zt:t Z1 with
  |bad=>rw[zt]at h;cases h
  |ok b Z2=>
  rw[zt]at h;dsimp only at h⊢;cases b with
  |false=>exact Tz (ds:=r) h
  |true=>
   rw[Qs Cj]at h⊢;unfold rL;cases zg:g Z2 with
   |bad=>rw[zg]at h;cases h
   |ok e Z3=>
   rw[zg]at h;dsimp only at h⊢;split at h
   .rename_i hl
    rw[Qs hl];exact Tz (ds:=r) h
   .cases h
theorem RA{s:D->Ul->Cv}{t:M Bool}{g:M D}:∀{ds:Co}{Z:Ul}{es:Co},Y2 s t g ds Z es=cT s t (rL g) ds Z es
 |[],Z,es=>rfl
 |d::r,Z,es=>by
  rw[Y2,cT];cases s d Z with
  |none=>rfl
  |some Z1=>
  dsimp only;cases t Z1 with
  |bad=>rfl
  |ok b Z2=>
  dsimp only;cases b with
  |false=>exact RA (ds:=r)
  |true=>
   rw[Qs Cj,Qs Cj];unfold rL;cases g Z2 with
   |bad=>rfl
   |ok e Z3=>
   dsimp only;split
   .exact RA (ds:=r)
   .rfl
theorem Rz{s s1:D->Ul->Cv}{t t1:M Bool}{f:M Co}{g:M D}:∀{ds:Co}{Z:Ul}{es esF:Co},Yo s t f s1 t1 g ds Z es=Ci esF->∃ZF,cT s t (rN f s1 t1 (rL g)) ds Z es=Ci (esF,ZF)
 |[],Z,es,esF,h=>by rw[Yo]at h;cases h;exact⟨Z,rfl⟩
 |d::r,Z,es,esF,h=>by
  rw[Yo]at h;rw[cT];cases zs:s d Z with
  |none=>rw[zs]at h;cases h
  |some Z1=>
  rw[zs]at h;dsimp only at h⊢;cases zt:t Z1 with
  |bad=>rw[zt]at h;cases h
  |ok b Z2=>
  rw[zt]at h;dsimp only at h⊢;cases b with
  |false=>exact Rz (ds:=r) h
  |true=>
   rw[Qs Cj]at h⊢;unfold rN;cases zg:f Z2 with
   |bad=>rw[zg]at h;cases h
   |ok ds Z3=>
   rw[zg]at h;dsimp only at h⊢;rw[←RA];cases zl:Y2 s1 t1 g ds (UL Z3) es with
   |none=>rw[zl]at h;cases h
   |some pr=>rw[zl]at h;exact Rz (ds:=r) h
theorem Tx{f:M Co}{k:Nat}{s:D->Ul->Cv}{t:M Bool}{g:M D}(Z:Ul)(es:Co)(Z':Ul)(h:ZA f k s t g Z=.ok es Z'):dCG Cn f k s t (rL g) Z=.ok es Z':=by
 unfold ZA at h;unfold dCG;cases zf:f Z with
 |bad=>rw[zf]at h;cases h
 |ok ds Z1=>
 rw[zf]at h;dsimp only[Zv]at h⊢;cases zl:Ke s t g ds (UL Z1++J6 k Ck) []with
 |none=>rw[zl]at h;cases h
 |some esF=>
 rw[zl]at h;cases h;obtain⟨ZF,e⟩:=Tz zl;rw[e];exact Qs λz=>by cases z
theorem El{f:M Co}{k:Nat}{s:D->Ul->Cv}{t:M Bool}{g:M D}(Z:Ul)(es:Co)(Z':Ul)(h:WP f k s t g Z=.ok es Z'):dCG Cm f k s t (rL g) Z=.ok es Z':=by
 unfold WP at h;unfold dCG;cases zf:f Z with
 |bad=>rw[zf]at h;cases h
 |ok ds Z1=>
 rw[zf]at h;dsimp only[Zv]at h⊢;cases zl:Ke s t g ds (UY Z1++J6 k Ck) []with
 |none=>rw[zl]at h;cases h
 |some esF=>
 rw[zl]at h;dsimp only at h;split at h
 .rename_i hf
  cases h;obtain⟨ZF,e⟩:=Tz zl;rw[e];exact Qs λ_=>hf
 .cases h
theorem Ek{f f1:M Co}{k:Nat}{s s1:D->Ul->Cv}{t t1:M Bool}{g:M D}(Z:Ul)(es:Co)(Z':Ul)(h:Vm f k s t f1 s1 t1 g Z=.ok es Z'):dCG Cn f k s t (rN f1 s1 t1 (rL g)) Z=.ok es Z':=by
 unfold Vm at h;unfold dCG;cases zf:f Z with
 |bad=>rw[zf]at h;cases h
 |ok ds Z1=>
 rw[zf]at h;dsimp only[Zv]at h⊢;cases zl:Yo s t f1 s1 t1 g ds (UL Z1++J6 k Ck) []with
 |none=>rw[zl]at h;cases h
 |some esF=>
 rw[zl]at h;cases h;obtain⟨ZF,e⟩:=Rz zl;rw[e];exact Qs λz=>by cases z
def Y1(q:Option NameKind->Bool)(SC scope:Scope)(N1 N2:List Str)(k:Nat):Bool:=
 VJ scope.names N1 N2 k&&decide (scope.kind=.function)&&scope.names.all λy=>match y.2 with
  |.cell=>Cn
  |.local=>decide (scope.names.lookup y.1=Ci .local)
  |.free=>q (SC.names.lookup y.1)
  |_=>Cm
def XR:Option NameKind->Bool
 |some .cell=>Cm|some .free=>Cm|_=>Cn
theorem Dc{q:Option NameKind->Bool}{SC SC' scope:Scope}{N1 N2:List Str}{k:Nat}(h:Y1 q SC scope N1 N2 k=Cm)(f:∀x,q (SC.names.lookup x)=Cm->SC'.names.lookup x=Ci .cell∨SC'.names.lookup x=Ci .free):Xs SC' scope N1 N2 k:=by
 unfold Y1 at h;rw[Qw,Qw,Q3]at h;obtain⟨⟨h1,h2⟩,h3⟩:=h;refine⟨h1,Qa h2,λy hy e=>?_,λy hy e=>?_,λy hy e=>?_⟩
 .have:=h3 y hy;rw[e]at this;cases this
 .have:=h3 y hy;rw[e]at this;exact Qa this
 .have:=h3 y hy;rw[e]at this;exact f _ this
theorem To{SC scope:Scope}{N1 N2:List Str}{k:Nat}(h:Y1 XR SC scope N1 N2 k=Cm):Xs SC scope N1 N2 k:=Dc h λx e=>by
 cases z:SC.names.lookup x with
 |none=>rw[z]at e;cases e
 |some y=>rw[z]at e;cases y<;>first|exact .inl rfl|exact .inr rfl|cases e
section
variable{X:Cx}{B G0:Hp}{KX:XW}
theorem RZ{l:Bool}{tg elt iter:JX}{ifs:Cr}{gs:List Comprehension}{scope:Scope}{pos:Pos}{f:M Co}{s:D->Ul->Cv}{t:M Bool}{rd:RdB}{F:M Co}(SC:Scope)(N1 N2:List Str)(k:Nat)(le:∀Z es Z',F Z=.ok es Z'->dCG l f k s t rd Z=.ok es Z')(hc:X.calm=Cm)
  (hi:PI X tg iter (iD X.K B G0 f)) (CD:Zx X N2 scope (.ListComp elt (⟨tg,iter,ifs,0⟩::gs) scope pos) tg ifs s t rd) (h1:X.env.scope=SC) (h2:X.N=N1) (hb:Y1 XR SC scope N1 N2 k=Cm) (hs:∀x,Uj iter X.env x=pure x:=by intro _;rfl) :
  PE X (.ListComp elt (⟨tg,iter,ifs,0⟩::gs) scope pos) (tL X.K B G0 F):=
 UI (Mi hc hi CD (by rw[h1,h2];exact To hb) hs) λ_ _ _ q=>Mh le q
theorem Wc{l:Bool}{y:Str}{j:Nat}{py:Pos}{spos:Pos}{tg elt iter:JX}{ifs:Cr}{gs:List Comprehension}{scope:Scope}{pos:Pos}{f:M Co}{s:D->Ul->Cv}{t:M Bool}{rd:RdB}{F:M Co}(SC:Scope)(N1 N2:List Str)(k:Nat)(le:∀Z es Z',F Z=.ok es Z'->dCG l f k s t rd Z=.ok es Z')(hN:X.N.Nodup)(hj:X.N[j]?=Ci y)(hy:X.env.scope.names.lookup y=Ci .local)(hc:X.calm=Cm)
  (hi:PI X tg iter (iD X.K B G0 f)) (CD:Zx X N2 scope (.ListComp elt (⟨tg,iter,ifs,0⟩::gs) scope pos) tg ifs s t rd) (h1:X.env.scope=SC) (h2:X.N=N1) (hb:Y1 XR SC scope N1 N2 k=Cm) (hs:∀x,Uj iter X.env x=pure x:=by intro _;rfl)
  (hsw:swapsWith (.ListComp elt (⟨tg,iter,ifs,0⟩::gs) scope pos) (Ci (.Name y py)) spos.line X.env=pure Cm:=by rfl) :
  PS X (.Assign [.Name y py] (.ListComp elt (⟨tg,iter,ifs,0⟩::gs) scope pos) spos) (tS X.K B G0 KX (Ku j F)):=
 Ky (sD_g hN hj hy hc hi CD (by rw[h1,h2];exact To hb) hs hsw) λ_ _ _ q=>Hs le q
end
section
variable{X:Cx}{B G0:Hp}{e a b c tg:JX}{pos:Pos}{es rest:Cr}
theorem EOk.given{K:Frag}{G H:Hp}{σ:St}{Z:Ul}{a:JV}{vs:List V}{ds:Co}(k:EOk K B G0 G H σ Z)(n:NewL K B G H σ Z a vs ds):EOk K B G0 (upd G a (.lst vs)) H σ Z where
 bh:=k.bh
 gh:=λb u q=>by
  by_cases z:b=a
  .subst z;rw[Kk]at q;cases q;exact n.h
  .rw[US z]at q;exact k.gh b u q
 g0:=k.g0.trans (KD n.g)
 np:=λb o q z=>by
  have zb:b≠a:=λz=>by subst z;rw[n.b]at q;cases q
  rw[US zb];exact k.np b o q z
 len:=k.len
 pub:=λi d q=>let ⟨v,h1,h2⟩:=k.pub i d q;⟨v,h1,h2.mono (KD n.g)⟩
 own:=λi ds q=>by
  obtain⟨b,ws,h1,h2,h3,h4,h5⟩:=k.own i ds q;have zb:b≠a:=λz=>by subst z;exact n.f i ds q h1
  exact⟨b,ws,h1,h2,by rw[US zb];exact h3,h4,h5.mono (KD n.g)⟩
 sep:=k.sep
 dp:=k.dp.map (λ_ _ _ q=>⟨q,rfl⟩) (λ_ ds q=>⟨ds,q,rfl⟩) λi p d v fp q s r w nn=>⟨r.mono (KD n.g) (.refl _),λb m=>⟨(w b m).1,by rw[US (λz=>n.dp i p d v fp q s r (by rw[←z];exact m))];exact(w b m).2⟩⟩
theorem PN{f:M Co}(h:PE X e (tL X.K B G0 f)):PE X e (tD X.K B G0 (UA J7 f)):=
 UI h λσ H Q ⟨G,Z,k,a⟩=>by
  refine⟨G,Z,k,?_⟩;unfold UA UD at a;cases z:f Z with
  |bad=>rw[z]at a;exact a.elim
  |ok ds Z1=>rw[z]at a;intro ad vs G' H' k' s' n;exact a (.ref ad) _ H' (k'.given n) (s'.trans (KD n.g)) (.lst (SqL.of Kk) (n.r.mono (KD n.g)))
theorem FE(hc:X.calm=Cm):Zo X (.builtin "all") (λxs H Q=>∃l,∃bs:List Bool,xs=[.ref l]/\SqL X.K H l (bs.map V.bl)/\Q (.bl (bs.all id)) H):=by
 intro pins s σ H xs us Q I rx h;obtain⟨l,bs,rfl,hq,q⟩:=h;obtain⟨u,rfl,ru⟩:=rx.one;cases ru;obtain⟨its,rv,p,hz⟩:=I.list hq;have hl:=p.isList;have hlt:l<s.heap.objs.size:=by obtain⟨_,e,_⟩:=id hl;exact Qh e
 have key:∀(i:Nat) v,its.toArray[i]?=Ci v->∃t,bs[i]?=Ci t/\v=.bool t:=λi v e=>by
  have e:its[i]?=Ci v:=by simpa using e
  have hi:i<bs.length:=by have:=(Qm.mp e).1;have h2:=rv.length;rw[Qd]at h2;omega
  obtain⟨u,e2,r2⟩:=rv.get (i:=i) (x:=.bl bs[i]) (by rw[Qg,Qe hi];rfl);rw[e]at e2;cases e2;exact⟨bs[i],Qe hi,r2⟩
 refine call_all_walk (Jq hl ?_)
 refine⟨s.heap.objs.size,[s.heap.objs.size,l],[s.heap.objs.size],its.toArray.size,_,_,λi=>(bs[i]?).getD Cm,rfl,Walks.list (A:=X.A.in1) (I.ok.hd hc) _ l (QE hlt) its.toArray,
  ⟨⟨_,Qx _ Cj,rfl,rfl⟩,hl.push _⟩,λi v s' Q' E' hP hQ=>?_,λh' tk hk=>?_⟩
 .obtain⟨b,e,rfl⟩:=key i v hP
  simp only[e,JD]at hQ;exact QW hQ
 .have hn:its.toArray.size=bs.length:=by have:=rv.length;rw[List.length_map]at this;simp;omega
  have e:((J5 its.toArray.size).all λi=>(bs[i]?).getD Cm)=bs.all id:=by
   rw[hn,JN,Q3,Q3];constructor
   .intro h b hb
    obtain⟨i,hi,e⟩:=List.getElem_of_mem hb;have:=h i (Je.mpr hi);simp only[Qe hi,JD,e]at this;exact this
   .intro h i hi
    have hi':=Je.mp hi;simp only[Qe hi',JD];exact h _ (QT hi')
  rw[e];exact⟨.bl (bs.all id),H,I.kept (t':=tk) λb x e=>hk b x (λhm=>by rw[Qp.mp hm]at e;exact Q9 _ (Qh e)) (Qf _ e),rfl,q⟩
def XF:Co->Option (List Bool)
 |[]=>Ci []
 |.bool b::r=>(XF r).map (b :: ·)
 |_=>Ck
theorem NE{K:Frag}{G:Hp}:∀{vs:List V}{ds:Co}{bs:List Bool},Reps K G vs ds->XF ds=Ci bs->vs=bs.map V.bl
 |_,_,bs,.nil,e=>by cases e;rfl
 |_,_,bs,.cons (d:=d) r t,e=>by
  cases d with
  |bool b=>
   unfold XF at e;cases z:XF _ with
   |none=>rw[z]at e;cases e
   |some cs=>rw[z]at e;cases e;rw[r.bl_inv,NE t z];rfl
  |_=>cases e
def Zi:Co->Cs
 |[.list ds]=>(XF ds).map λbs=>.bool (bs.all id)
 |_=>Ck
theorem Mg(hc:X.calm=Cm):ZB X (.builtin "all") Zi:=by
 refine⟨_,FE hc,λvs G H ds d Q s r e k=>?_⟩;unfold Zi at e;split at e
 .rename_i ds
  cases z:XF ds with
  |none=>rw[z]at e;cases e
  |some bs=>rw[z]at e;cases e;obtain⟨v,rfl,q⟩:=r.one_inv;obtain⟨l,ws,rfl,h1,r1⟩:=q.lst_inv;have hw:=NE r1 z;subst hw;exact⟨l,bs,rfl,s.seq h1,k _ G H (.refl s) (.bl _)⟩
 .cases e
def Its(x:Str):It:=⟨λi _=>i<x.cps.size,λi H v H'=>H'=H/\∃c,x.cps[i]?=Ci c/\v=.str ⟨#[c]⟩,λi _=>x.cps.size<=i⟩
theorem FD{P:JU}{w:World}{K:Frag}{tg:JX}(x:Str)(t:Tok)(it:JV):Turn P w K tg (Its x) [it] it (λi h=>h.IsStrIter it (strIterType x) x t i) where
 mem:=by simp
 obj:=λi h st b hb=>by
  have e:b=it:=by simpa using hb
  subst e;obtain⟨o,e,c,d⟩:=st;exact⟨o,e,λv z=>by rw[d]at z;cases z⟩
 keep:=λi h h' st k=>by obtain⟨o,e,c,d⟩:=st;exact⟨o,k it (by simp) o e,c,d⟩
 item:=by
  intro X hP hw hK hc i pins s σ H E I hf st hg;subst hP hw hK;obtain⟨f0,f1,f2,f3,f4,f5⟩:=hf it (by simp);have hx:x.cps[i]?=Ci x.cps[i]:=Jv hg
  have fin:∀h' tk(T:String),strIterType x=T->h'.IsStrIter it T x t (i+1)->Heap.SameBut it s.heap h'->["enumerate", "zip", "dict_itemiterator", "dict_reverseitemiterator", "odict_iterator", "itertools.zip_longest", "itertools.pairwise"].contains T=Cn ->
    ∃u,Ci (Value.str ⟨#[x.cps[i]]⟩ s.toks)=Ci u/\JZ (model X.prog X.w) X.A (letOwnedTupleGo tg (.ref it) u) (λ_ s2=>∃v H',Inv X pins σ H' s2/\RelV v u/\(Its x).yld i H v H'/\s2.heap.IsStrIter it (strIterType x) x t (i+1)/\∀b∈[it],H' b=Ck) E {s with heap:=h',toks:=tk}:=by
   intro h' tk T eT st' sb hn;have I1:Inv X pins σ H {s with heap:=h',toks:=tk}:=I.turned (t':=tk) (λb o hb e=>(sb.2 b hb).trans e) f0 f1 f3 f4 f5;obtain⟨o,e,c,d⟩:=id st';refine⟨_,rfl,VY (s:={s with heap:=h',toks:=tk}) e c d hn ⟨.str ⟨#[x.cps[i]]⟩,H,I1,⟨_,rfl⟩,⟨rfl,_,hx,rfl⟩,by rw[eT];exact st',λb hb=>(hf b hb).1⟩⟩
  cases ha:x.cps.all (· < 128)with
  |true=>
   have eT:strIterType x = "str_ascii_iterator" :=by simp[strIterType,ha]
   rw[eT]at st;exact wpAny_pyNext_ascii_item st hx λh' st' sb=>fin h' _ _ eT st' sb (by decide)
  |false=>
   have eT:strIterType x = "str_iterator" :=by simp[strIterType,ha]
   rw[eT]at st;exact wpAny_pyNext_wide_item st hx λh' st' sb=>fin h' _ _ eT st' sb (by decide)
 done:=by
  intro X hP hw hK hc i pins s σ H E I hf st hg;subst hP hw hK;obtain⟨f0,f1,f2,f3,f4,f5⟩:=hf it (by simp);have hx:x.cps[i]?=Ck:=Array.getElem?_eq_none hg;cases ha:x.cps.all (· < 128)with
  |true=>
   have eT:strIterType x = "str_ascii_iterator" :=by simp[strIterType,ha]
   rw[eT]at st;exact wpAny_pyNext_ascii_end (I.ok.hd hc) st hx λh' eb=>⟨rfl,I.turned (t':=s.toks) (λb o hb e=>eb b o hb e) f0 f1 f3 f4 f5⟩
  |false=>
   have eT:strIterType x = "str_iterator" :=by simp[strIterType,ha]
   rw[eT]at st;exact wpAny_pyNext_wide_end (I.ok.hd hc) st hx λh' eb=>⟨rfl,I.turned (t':=s.toks) (λb o hb e=>eb b o hb e) f0 f1 f3 f4 f5⟩
 self:=λA i s Q E st h=>by
  cases ha:x.cps.all (· < 128)with
  |true=>
   have eT:strIterType x = "str_ascii_iterator" :=by simp[strIterType,ha]
   rw[eT]at st;exact wpAny_pyIter_striter_ascii st h
  |false=>
   have eT:strIterType x = "str_iterator" :=by simp[strIterType,ha]
   rw[eT]at st;exact wpAny_pyIter_striter_wide st h
def iAny(K:Frag)(tl:TE):TI:=λσ H R=>tl σ H λx H1=>(∃a,x=.ref a/\(∃xs,SqL K H1 a xs)/\R (Itl K a) H1)∨(∃a,x=.ref a/\(∃xs,SqT K H1 a xs)/\R (Itt K a) H1) ∨ ∃z,x=.str z/\R (Its z) H1
theorem MV{l:JX}{tl:TE}(hl:PE X l tl):PI X tg l (iAny X.K tl):=by
 intro pins s σ H R I h;refine thn (hl pins s σ H _ I h) λv s1 ⟨x,H1,I1,r1,q1⟩=>?_
 have fpOk:∀b∈[s1.heap.objs.size],U8 X pins H1 b:=λb hb=>by
  have e:b=s1.heap.objs.size:=by simpa using hb
  subst e;exact I1.fpOk (Qn _) (I1.hok.fresh (Qn _))
 rcases q1 with ⟨a,e,⟨xs,hq⟩,q⟩|⟨a,e,⟨xs,hq⟩,q⟩|⟨z,e,q⟩
 .subst e
  cases r1;obtain⟨its,rv,p,hz⟩:=I1.list hq;refine Jq p.isList ?_;exact⟨s1.heap.objs.size,[s1.heap.objs.size],_,_,H1,rfl,I1.kept (t':=s1.toks) λb o e=>Qf _ e,E9 a _,⟨_,Qx _ Cj,rfl,rfl⟩,fpOk,q⟩
 .subst e
  cases r1;obtain⟨its,rv,p,hz⟩:=I1.tuple hq;refine wpAny_pyIter_tuple p ?_;exact⟨s1.heap.objs.size,[s1.heap.objs.size],_,_,H1,rfl,I1.kept (t':=s1.toks) λb o e=>Qf _ e,Di a _,⟨_,Qx _ Cj,rfl,rfl⟩,fpOk,q⟩
 .subst e
  obtain⟨t,rfl⟩:=r1;refine wpAny_pyIter_strU ?_;exact⟨s1.heap.objs.size,[s1.heap.objs.size],_,_,H1,rfl,I1.kept (t':=s1.toks) λb o e=>Qf _ e,FD z t _,⟨_,Qx _ Cj,rfl,rfl⟩,fpOk,q⟩
def Vu(z:Str):Co:=z.cps.toList.map λc=>.str ⟨#[c]⟩
def SF:D->Option Co
 |.list ds=>Ci ds
 |.tuple ds=>Ci ds
 |.str z=>Ci (Vu z)
 |_=>Ck
theorem DC{K:Frag}{G1:Hp}{ad:JV}{vs:List V}{ds:Co}(h:SqT K G1 ad vs)(r:Reps K G1 vs ds):ZG K (Itt K ad) ds G1 where
 go:=λi G H s1 s2 hi=>by
  have hi':i<vs.length:=by rw[r.length];exact hi
  exact⟨vs,vs[i],Zn (s1.trans s2) h,Qe hi'⟩
 stop:=λi G H s1 s2 hi=>⟨vs,Zn (s1.trans s2) h,by rw[r.length];exact hi⟩
 yld:=λi G H x H' d s1 s2 e y=>by obtain⟨rfl,y⟩:=y;obtain⟨v,e1,r1⟩:=r.get e;have:=y vs (Zn (s1.trans s2) h);rw[e1]at this;cases this;exact⟨G,.refl s2,r1.mono s1⟩
theorem Ej{K:Frag}{G1:Hp}{z:Str}:ZG K (Its z) (Vu z) G1 where
 go:=λi G H s1 s2 hi=>by unfold Vu at hi;simpa[Its]using hi
 stop:=λi G H s1 s2 hi=>by unfold Vu at hi;simpa[Its]using hi
 yld:=λi G H x H' d s1 s2 e y=>by
  obtain⟨rfl,c,hc,rfl⟩:=y;unfold Vu at e;rw[Qg]at e;have:z.cps.toList[i]?=Ci c:=by simpa using hc
  rw[this]at e;cases e;exact⟨G,.refl s2,.str _⟩
def KZ(f:M D):M Co:=UD f λx=>Ux (SF x)
theorem Sm{f:M D}(h:PE X e (tD X.K B G0 f)):PI X tg e (iD X.K B G0 (KZ f)):=Yy (MV h) λσ H R q=>tM.toI (R0:=Rep X.K) q λv H' G' Z' x k r a=>by
 cases x with
 |list ds=>obtain⟨ad,vs,rfl,h1,r1⟩:=r.lst_inv;exact .inl ⟨ad,rfl,⟨vs,k.gh.seq h1⟩,a _ G' H' k (.refl _) (De h1 r1)⟩
 |tuple ds=>obtain⟨ad,vs,rfl,h1,r1⟩:=r.tup_inv;exact .inr (.inl ⟨ad,rfl,⟨vs,Zn k.gh h1⟩,a _ G' H' k (.refl _) (DC h1 r1)⟩)
 |str z=>have:=r.str_inv;subst this;exact .inr (.inr ⟨z,rfl,a _ G' H' k (.refl _) Ej⟩)
 |_=>exact a.elim
theorem Inv.big{pins:List (JV×Obj)}{σ:St}{H:Hp}{s:JT}(I:Inv X pins σ H s):sysModules<s.heap.objs.size:=by have h:mainGlobals<s.heap.objs.size:=(I.mod.glob.keeps I.bk).lt;exact Nat.lt_trans (by decide) h
theorem FC{P:JU}{w:World}{H:Hp}(h:Heap)(hb:sysModules<h.objs.size):KM P w H (h.push {cls:=.type "dict", data:=.dict #[]}) h.objs.size (.dK []):=
 ⟨JI _,beq_eq_false_iff_ne.mpr (Ne.symm (QE hb)),[],.nil,Heap.DictOf.new h⟩
theorem Gq:PE X (.Dict [] [] pos) (λσ H Q=>∀d,H d=Ck->Q (.ref d) (upd H d (.dK []))):=λpins s σ H Q I h=>
 wpAny_Dict_empty ⟨.ref s.heap.objs.size,_,I.laid (a:=s.heap.objs.size) (o:=.dK []) (t':=s.toks) (λ_ _ q=>Qf _ q) (Qn _) (FC s.heap (Inv.big I)),rfl,h _ (I.hok.fresh (Qn _))⟩
theorem Gp:PE X (.Dict [] [] pos) (tD X.K B G0 (Uq (.dict []))):=UI Gq λσ H Q ⟨G,Z,k,a⟩ d hd=>aft.done a k (Ext.new k.gh hd) (.dic Kk)
def inS(i j:Str):Bool:=!(Builtin.Str.occurrences j i 0 j.length 1).isEmpty
def oInS:D->D->Cy
 |.str i,.str j=>Ci (inS i j)
 |_,_=>Ck
def RT:D->D->Cy
 |.str i,.str j=>Ci (!inS i j)
 |_,_=>Ck
theorem Mf:OpB X (J4 .In) oInS:=⟨_,E5,λv u G H x y d Q s rx ry e k=>by
 unfold oInS at e;split at e
 .cases e
  have:=rx.str_inv;subst this;have:=ry.str_inv;subst this;exact⟨_,_,rfl,rfl,k⟩
 .cases e⟩
theorem MU:OpB X (J4 .NotIn) RT:=⟨_,DS,λv u G H x y d Q s rx ry e k=>by
 unfold RT at e;split at e
 .cases e
  have:=rx.str_inv;subst this;have:=ry.str_inv;subst this;exact⟨_,_,rfl,rfl,k⟩
 .cases e⟩
theorem Me{x:Str}{i:Int}(hg:Gl X x)(hm:∃t,X.mg x=Ci (.int i t))(hd:(x==("__debug__" : Str))=Cn:=by decide):PE X (.Name x pos) (tD X.K B G0 (Uq (.int i))):=by obtain⟨t,hm⟩:=hm;exact UI (Fm (v:=.int i) hg hm ⟨t,rfl⟩ hd) λσ H Q ⟨G,Z,k,a⟩=>aft.now a k (.int _)
end
section
variable{X:Cx}{B G0:Hp}{KX:XW}{e o a b c tg i:JX}{pos p2:Pos}{es rest:Cr}{te to ti:TE}
def MT(te to ti:TE):TS:=λD σ H=>te σ H λv H1=>to σ H1 λx H2=>ti σ H2 λk H3=>∃l xs n,x=.ref l/\H3 l=Ci (.lst xs)/\k=.int n/\0<=n/\n<xs.length/\D.nx σ (upd H3 l (.lst (xs.set n.toNat v)))
theorem OC(he:PE X e te)(ho:PE X o to)(hi:PE X i ti)(hs:swapsWith e (Ci (.Subscript o i p2)) pos.line X.env=pure Cn:=by rfl):PS X (.Assign [.Subscript o i p2] e pos) (MT te to ti):=by
 intro pins s σ H D I h;refine wpAny_Assign_Subscript (thn (he pins s σ H _ I h) λv s1 ⟨x,H1,I1,r1,q1⟩=>thn (ho pins s1 σ H1 _ I1 q1) λov s2 ⟨y,H2,I2,r2,q2⟩=>thn (hi pins s2 σ H2 _ I2 q2) λiv s3 ⟨k,H3,I3,r3,q3⟩=>?_) hs;obtain⟨l,xs,n,rfl,hl,rfl,h0,h1,q⟩:=q3;cases r2;obtain⟨t,rfl⟩:=r3;obtain⟨z,its,m,r,hlen,ee⟩:=I3.lstM hl
 refine PySem.W.ki_setAt (items:=its.toArray) (n:=m) ee h0 (by
                                  have:JY<2 ^ 63:=by decide
                                  omega) (by simp;omega) ?_
 refine⟨σ,_,I3.lset (t':=s3.toks) (its:=its) (its':=its.set n.toNat v) (f:=(·.setIfInBounds n.toNat v)) hl ee (by simp) (r.set r1 n.toNat) (by rw[List.length_set];exact z),q⟩
def Vb(j:Nat)(g f:M D):SM:=sB f λd Z1=>match Z1[j]? with
 |some (Ci (.own _))=>sB g (λy Z2=>match y with
  |.int k=>(match Z2[j]? with
   |some (Ci (.own ds))=>if 0<=k/\k<ds.length then .nx (Z2.set j (Ci (.own (ds.set k.toNat d))))else .bad
   |_=>.bad)
  |_=>.bad) Z1
 |_=>.bad
theorem PM{j:Nat}{f g:M D}(he:PE X e (tD X.K B G0 f))(ho:PE X o (U7 j))(hi:PE X i (tD X.K B G0 g))(hs:swapsWith e (Ci (.Subscript o i p2)) pos.line X.env=pure Cn:=by rfl) :
  PS X (.Assign [.Subscript o i p2] e pos) (tS X.K B G0 KX (Vb j g f)):=
 Ky (OC he ho hi hs) λD σ H q=>tS.bnd (R:=Rep X.K) q λv H1 G1 Z1 d k r a=>by
  cases q0:Z1[j]? with
  |none=>rw[q0]at a;exact a.elim
  |some o0=>
   cases o0 with
   |none=>rw[q0]at a;exact a.elim
   |some sl0=>
    cases sl0 with
    |deep _ _=>rw[q0]at a;exact a.elim
    |pub d=>rw[q0]at a;exact a.elim
    |own BP=>
     rw[q0]at a;obtain⟨ad,vs0,h1,h2,h3,h4,h5⟩:=k.own j BP q0;refine⟨.ref ad,h1,G1,Z1,k,?_⟩;dsimp only at a;unfold sB at a;cases z:g Z1 with
     |bad=>rw[z]at a;exact a.elim
     |ok y Z2=>
      rw[z]at a;dsimp only at a;intro kv G' H' k' s' r';cases y with
      |int n=>
       dsimp only at a;cases q:Z2[j]? with
       |none=>rw[q]at a;exact a.elim
       |some oo=>
        cases oo with
        |none=>rw[q]at a;exact a.elim
        |some sl=>
         cases sl with
         |deep _ _=>rw[q]at a;exact a.elim
         |pub d=>rw[q]at a;exact a.elim
         |own ds=>
          rw[q]at a;dsimp only at a;split at a
          .rename_i hn
           obtain⟨ad',vs,g1,g2,g3,g4,g5⟩:=k'.own j ds q;rw[h1]at g1;cases g1;refine⟨ad,vs,n,rfl,g4,r'.int_inv,hn.1,by rw[g5.length];exact hn.2,?_⟩;exact a σ G' _ (k'.change q h1 (g5.set (r.mono s') n.toNat)) s'
          .exact a.elim
      |_=>exact a.elim
def Z9(z:Str)(lo hi:Cu):Str:=if(Builtin.Str.strSliceIndices lo hi 1 z.length).length=z.length then z else⟨((Builtin.Str.strSliceIndices lo hi 1 z.length).filterMap (z.cps[·]?)).toArray⟩
theorem MS:SlR X (λx lo hi H Q=>∃z,x=.str z/\(Z9 z lo hi).length<=JY/\Q (.str (Z9 z lo hi)) H):=by
 intro pins s σ H x v vl vu lo hi sl Q I rx hs pl pu h;obtain⟨z,rfl,hz,q⟩:=h;obtain⟨t,rfl⟩:=rx;refine⟨"str", _,F.slot_str_getitem.lookup,typeIs_str s z t,?_⟩
 obtain⟨l,el,e1⟩:∃l:Option (Int×Tok),vl=partValue l/\l.map (·.1)=lo:=by
  cases pl with
  |none=>exact⟨Ck,rfl,rfl⟩
  |int k t'=>exact⟨Ci (k,t'),rfl,rfl⟩
 obtain⟨u,eu,e2⟩:∃u:Option (Int×Tok),vu=partValue u/\u.map (·.1)=hi:=by
  cases pu with
  |none=>exact⟨Ck,rfl,rfl⟩
  |int k t'=>exact⟨Ci (k,t'),rfl,rfl⟩
 subst el eu;refine wpAny_getItem_str_slice (l:=l) (u:=u) (st:=Ck) hs Cj ?_;unfold sliceMade slicePicked;rw[e1,e2];unfold Z9 at hz q;by_cases hw:(Builtin.Str.strSliceIndices lo hi 1 z.length).length=z.length
 .rw[Qs hw]at hz q
  rw[if_pos (by simp[hw])];exact⟨.str z,H,I,⟨t,rfl⟩,q⟩
 .rw[QM hw]at hz q
  rw[if_neg (by simp[hw])];exact⟨hz,.str _,H,I.tok _,⟨_,rfl⟩,q⟩
end
section
variable{X:Cx}{B G0:Hp}{KX:XW}{e o a b c tg i:JX}{pos p2:Pos}{es rest:Cr}{te to ti:TE}
theorem pvb(i:Nat){x:Str}{pos:Pos}{N':List Str}{scope:Scope}{cl:List (Str×JV)}{C:JV}{s₀:JT}{H₀:Hp}{ex:Ct}(hN:N'[i]?=Ci x:=by rfl)
  (h:scope.names.lookup x=Ci .local∨scope.names.lookup x=Ci .free:=by first|exact .inl rfl|exact .inr Cj) (hd:(x==("__debug__" : Str))=Cn:=by decide) (hcd:(x==("__classdict__" : Str))=Cn:=by decide) :
  PE (X.blk N' scope cl C s₀ H₀ ex) (.Name x pos) (U7 i):=Pq hN (Gr h) hd hcd
def Xa:D->Cu->Cu->Cs
 |.list xs,lo,hi=>Ci (.list (DL.cutD xs lo hi))
 |.str z,lo,hi=>if(Z9 z lo hi).length<=1000000 then Ci (.str (Z9 z lo hi))else Ck
 |_,_,_=>Ck
def U4(f:M D)(lo hi:M Cu):M D:=UD f λx=>UD lo λl=>UD hi λh=>Ux (Xa x l h)
theorem TC{lo hi:Option JX}{f:M D}{l h:M Cu}(he:PE X e (tD X.K B G0 f))(hl:PO X lo (tOi X.K B G0 l))(hu:PO X hi (tOi X.K B G0 h)) :
  PE X (.Subscript e (.Slice lo hi Ck p2) pos) (tD X.K B G0 (U4 f l h)):=
 UI (FR (HR.or MS) he hl hu) λσ H Q q=>by
  refine tM.one (R:=Rep X.K) q λv H2 G Z x k r a=>?_;refine tM.nx (R:=λ_ b c=>b=c) k a λl' H3 G3 Z3 xl k3 s3 r3 a3=>?_;refine tM.nx (R:=λ_ b c=>b=c) k3 a3 λh' H4 G4 Z4 xh k4 s4 r4 a4=>?_;have r3:l'=xl:=r3;have r4:h'=xh:=r4;subst r3 r4;unfold Ux Xa at a4
  cases x with
  |list xs=>obtain⟨ad,vs,rfl,h1,r1⟩:=((r.mono s3).mono s4).lst_inv;exact .inl ⟨ad,vs,rfl,k4.gh.seq h1,λp hp=>aft.done a4 k4 (Ext.new k4.gh hp) (.lst (SqL.of Kk) ((r1.cut l' h').mono (KD (k4.gh.free hp))))⟩
  |str z=>
   dsimp only at a4;have:=r.str_inv;subst this;by_cases hc:(Z9 z l' h').length<=1000000
   .rw[Qs hc]at a4
    exact .inr ⟨z,rfl,QJ hc lim,aft.now a4 k4 (.str _)⟩
   .rw[QM hc]at a4;exact a4.elim
  |_=>exact a4.elim
end
section
variable{X:Cx}{B G0:Hp}{e o a b c tg:JX}{pos p2:Pos}{es rest:Cr}{te to ti:TE}
def Kz{β:Type}(p:D->D->Option β)(i:Nat)(g:M D):M β:=λZ=>match Z[i]? with
 |some (Ci (.pub d))=>(UD g λy=>Ux (p d y)) Z
 |some (Ci (.own _))=>(UD g λy=>λZ'=>match Z'[i]? with|some (Ci (.own ds))=>Ux (p (.list ds) y) Z'|_=>.bad) Z
 |_=>.bad
theorem RS{K:Frag}{σ:St}{H:Hp}{p:D->D->Cy}{r:R2}{i:Nat}{g:M D}{Q:Bool->Hp->Prop}{QV:VK}(hq:∀t H3,Q t H3->QV (.bl t) H3)(hr:∀v u G H x y d Q,Same G H->Rep K G v x->Rep K G u y->p x y=Ci d->Q (.bl d) H->r v u H Q)
  (q:tBo K B G0 (Kz p i g) σ H Q):U7 i σ H λx H1=>tD K B G0 g σ H1 λy H2=>r x y H2 QV:=by
 obtain⟨G,Z,k,a⟩:=q;unfold Kz at a;cases q:Z[i]? with
 |none=>rw[q]at a;exact a.elim
 |some o=>
  cases o with
  |none=>rw[q]at a;exact a.elim
  |some sl=>
   cases sl with
   |deep _ _=>rw[q]at a;exact a.elim
   |pub d=>
    rw[q]at a;obtain⟨v,h1,h2⟩:=k.pub i d q;refine⟨v,h1,G,Z,k,?_⟩;dsimp only[UD]at a;cases z:g Z with
    |bad=>rw[z]at a;exact a.elim
    |ok y Z1=>rw[z]at a;intro u G' H' k' s' r';obtain⟨d',e',a'⟩:=aft.opt a;exact hr v u G' H' d y d' _ k'.gh (h2.mono s') r' e' (hq _ _ (a' d' G' H' k' s' Cj))
   |own ds=>
    rw[q]at a;obtain⟨ad,vs,h1,h2,h3,h4,h5⟩:=k.own i ds q;refine⟨.ref ad,h1,G,Z,k,?_⟩;dsimp only[UD]at a;cases z:g Z with
    |bad=>rw[z]at a;exact a.elim
    |ok y Z1=>
     rw[z]at a;dsimp only at a;intro u G' H' k' s' r';cases q1:Z1[i]? with
     |none=>rw[q1]at a;exact a.elim
     |some oo=>
      cases oo with
      |none=>rw[q1]at a;exact a.elim
      |some sl1=>
       cases sl1 with
       |deep _ _=>rw[q1]at a;exact a.elim
       |pub d1=>rw[q1]at a;exact a.elim
       |own ds1=>
        rw[q1]at a;dsimp only at a;obtain⟨ad',ws,g1,g2,g3,g4,g5⟩:=k'.own i ds1 q1;rw[h1]at g1;cases g1;obtain⟨d',e',a'⟩:=aft.opt a;have sg:Same G' (upd G' ad (.lst ws)):=KD g3
        have sh:Same (upd G' ad (.lst ws)) H':=λb o q=>by
         by_cases z:b=ad
         .subst z;rw[Kk]at q;cases q;exact g4
         .rw[US z]at q;exact k'.gh b o q
        exact hr (.ref ad) u _ H' (.list ds1) y d' _ sh (.lst (SqL.of Kk) (g5.mono sg)) (r'.mono sg) e' (hq _ _ (a' d' G' H' k' s' Cj))
theorem PL{op:CmpOp}{p:D->D->Cy}{i:Nat}{g:M D}(o:OpB X (J4 op) p)(ha:PE X a (U7 i))(hb:PE X b (tD X.K B G0 g))(hm:behindInMarks op b=Cn) :
  PT X (.Compare a [op] [b] pos) (tBo X.K B G0 (Kz p i g)):=by
 obtain⟨r,h,j⟩:=o;exact Zu (Ri h ha hb hm) λσ H Q q=>RS (λt H3 z=>⟨t,rfl,z⟩) j q
theorem Go{op:CmpOp}{p:D->D->Cy}{i:Nat}{g:M D}(o:OpB X (J4 op) p)(ha:PE X a (U7 i))(hb:PE X b (tD X.K B G0 g))(hm:behindInMarks op b=Cn) :
  PE X (.Compare a [op] [b] pos) (tD X.K B G0 (UA J8 (Kz p i g))):=by
 obtain⟨r,h,j⟩:=o;exact UI (Oi h ha hb hm) λσ H Q q=>RS (λt H3 z=>z) j (tBo.val q)
end
end DL
namespace L2
open PySem PySem.Spec PyProof.Rows
end L2
namespace DL
open PySem PySem.Spec L2
open PyProof.Rows hiding St
section
variable{X:Cx}{B G0:Hp}{e o a b c tg:JX}{pos p2 p3:Pos}{es rest:Cr}{te to ti:TE}
def oIn:D->D->Cy
 |.str i,.str j=>Ci (inS i j)
 |x,.list xs=>if x.canLay0=Cm/\Ub xs=Cm/\x.depth<=60 then Ci (xs.any λy=>Ud y x)else Ck
 |x,.tuple xs=>if x.canLay0=Cm/\Ub xs=Cm/\x.depth<=60 then Ci (xs.any λy=>Ud y x)else Ck
 |_,_=>Ck
def ZN(x y:D):Cy:=(oIn x y).map λt=>!t
def Z6(x y:D):Cy:=match y with
 |.list xs=>if x.canLay0=Cm/\Ub xs=Cm/\x.depth<=60 then Ci (xs.any λy=>Ud y x)else Ck
 |.tuple xs=>if x.canLay0=Cm/\Ub xs=Cm/\x.depth<=60 then Ci (xs.any λy=>Ud y x)else Ck
 |_=>Ck
theorem Md(hu:X.A.units+64<cLine):OpB X (J4 .In) Z6:=by
 refine⟨λv u H Q=>∃G x y d,Same G H/\Rep X.K G v x/\Rep X.K G u y/\Z6 x y=Ci d/\Q (.bl d) H,?_,λv u G H x y d Q s rx ry e k=>⟨G,x,y,d,s,rx,ry,e,k⟩⟩;intro pins s σ H x y v u Q I rx ry ⟨G,dx,dy,d,sg,px,py,e,q⟩;unfold Z6 at e;split at e
 .split at e
  .rename_i c
   cases e;obtain⟨as,ra⟩:=ZM I sg px rx c.1;obtain⟨bs,rb⟩:=ZM I sg py ry (show Ub _=Cm from c.2.1);exact SeqAt.in_list_reads rb ra c.2.1 c.1 (by have:=c.2.2;omega) ⟨.bl _,H,I,rfl,q⟩
  .cases e
 .split at e
  .rename_i c
   cases e;obtain⟨as,ra⟩:=ZM I sg px rx c.1;obtain⟨bs,rb⟩:=ZM I sg py ry (show Ub _=Cm from c.2.1);exact SeqAt.in_tuple_reads rb ra c.2.1 c.1 (by have:=c.2.2;omega) ⟨.bl _,H,I,rfl,q⟩
  .cases e
 .cases e
theorem MR(hu:X.A.units+64<cLine):OpB X (J4 .NotIn) (λx y=>(Z6 x y).map λt=>!t):=by
 refine⟨λv u H Q=>∃G x y d,Same G H/\Rep X.K G v x/\Rep X.K G u y/\(Z6 x y).map (λt=>!t)=Ci d/\Q (.bl d) H,?_,λv u G H x y d Q s rx ry e k=>⟨G,x,y,d,s,rx,ry,e,k⟩⟩;intro pins s σ H x y v u Q I rx ry ⟨G,dx,dy,d,sg,px,py,e,q⟩;unfold Z6 at e;split at e
 .split at e
  .rename_i c
   cases e;obtain⟨as,ra⟩:=ZM I sg px rx c.1;obtain⟨bs,rb⟩:=ZM I sg py ry (show Ub _=Cm from c.2.1);exact SeqAt.notIn_list_reads rb ra c.2.1 c.1 (by have:=c.2.2;omega) ⟨.bl _,H,I,rfl,q⟩
  .cases e
 .split at e
  .rename_i c
   cases e;obtain⟨as,ra⟩:=ZM I sg px rx c.1;obtain⟨bs,rb⟩:=ZM I sg py ry (show Ub _=Cm from c.2.1);exact SeqAt.notIn_tuple_reads rb ra c.2.1 c.1 (by have:=c.2.2;omega) ⟨.bl _,H,I,rfl,q⟩
  .cases e
 .cases e
theorem B_in(hu:X.A.units+64<cLine):OpB X (J4 .In) oIn:=(Mf.or (Md hu)).congr λx y=>by cases x<;>cases y<;>rfl
theorem Mc(hu:X.A.units+64<cLine):OpB X (J4 .NotIn) ZN:=(MU.or (MR hu)).congr λx y=>by cases x<;>cases y<;>rfl
theorem Ei{tl th ts:TO}{lo hi:Option JX}{st:JX}(he:PE X e te)(hl:PO X lo tl)(hu:PO X hi th)(hst:PO X (Ci st) ts):PE X (.Subscript e (.Slice lo hi (Ci st) p2) pos)
  (λσ H Q=>te σ H λx H1=>tl σ H1 λl H2=>th σ H2 λu H3=>ts σ H3 λt H4=>∃a xs,x=.ref a/\SqL X.K H4 a xs/\l=Ck/\u=Ck/\t=Ci (-1)/\∀p,H4 p=Ck->Q (.ref p) (upd H4 p (.lst xs.reverse))):=by
 intro pins s σ H Q I h;refine Subscript_ (thn (he pins s σ H _ I h) λv s1 ⟨x,H1,I1,r1,q1⟩=>?_);refine wpAny_Slice (thn (hl pins s1 σ H1 _ I1 q1) λvl s2 ⟨l,H2,I2,pl,q2⟩=>thn (hu pins s2 σ H2 _ I2 q2) λvu s3 ⟨u,H3,I3,pu,q3⟩=>thn (hst pins s3 σ H3 _ I3 q3) λvt s4 ⟨t,H4,I4,pt,q4⟩=>?_);obtain⟨a,xs,rfl,hx,rfl,rfl,rfl,q⟩:=q4;cases r1;have I5:Inv X pins σ H4 {s4 with heap:=s4.heap.push {cls:=.type "slice", data:=.fields #[vl,vu,vt]}}:=I4.kept (t':=s4.toks) λb ob q=>Qf _ q
 obtain⟨its,r,ht,hz⟩:=I5.list hx;have hlen:=r.length;have hg:JZ (model X.prog X.w) X.A (getItem (.ref a) (.ref s4.heap.objs.size)) (EP X pins σ Q) X.xe {s4 with heap:=s4.heap.push {cls:=.type "slice", data:=.fields #[vl,vu,vt]}}:=by refine wpAny_getItem_list_slice ht.isList (Heap.IsSliceOf.new ..) pl pu pt (by simp) ?_ (by rw[List.size_toArray]<;>omega);rw[PySem.W.krv_pick];refine⟨.ref _,_,I5.laid (t':=s4.toks) (o:=.lst xs.reverse) (λb ob q=>Qf _ q) (Qn _) ?_,rfl,q _ (I5.hok.fresh (Qn _))⟩;exact⟨by rw[List.length_reverse];exact hz,its.reverse,0,r.reverse,Qx _ Cj⟩
 show JZ (model X.prog X.w) X.A (subscriptTail e (.Slice lo hi (Ci st) p2) (.ref a) (.ref s4.heap.objs.size)) (EP X pins σ Q) X.xe {s4 with heap:=s4.heap.push {cls:=.type "slice", data:=.fields #[vl,vu,vt]}};exact tail_any (ops:=[.ref a,.ref s4.heap.objs.size]) ht.isList.typeIs slot_list_getitem.lookup hg (by with_unfolding_all rfl)
def Xb:D->Cu->Cu->Cu->Cs
 |.list xs,Ck,Ck,Ci i=>if i = -1 then Ci (.list xs.reverse)else Ck
 |_,_,_,_=>Ck
def YC(f:M D)(lo hi st:M Cu):M D:=UD f λx=>UD lo λl=>UD hi λh=>UD st λt=>Ux (Xb x l h t)
theorem PK{lo hi:Option JX}{st:JX}{f:M D}{l h t:M Cu}(he:PE X e (tD X.K B G0 f))(hl:PO X lo (tOi X.K B G0 l))(hu:PO X hi (tOi X.K B G0 h))(hst:PO X (Ci st) (tOi X.K B G0 t)) :
  PE X (.Subscript e (.Slice lo hi (Ci st) p2) pos) (tD X.K B G0 (YC f l h t)):=
 UI (Ei he hl hu hst) λσ H Q q=>by
  refine tM.one (R:=Rep X.K) q λv H2 G Z x k r a=>?_;refine tM.nx (R:=λ_ b c=>b=c) k a λl' H3 G3 Z3 xl k3 s3 r3 a3=>?_;refine tM.nx (R:=λ_ b c=>b=c) k3 a3 λh' H4 G4 Z4 xh k4 s4 r4 a4=>?_;refine tM.nx (R:=λ_ b c=>b=c) k4 a4 λt' H5 G5 Z5 xt k5 s5 r5 a5=>?_;have r3:l'=xl:=r3;have r4:h'=xh:=r4;have r5:t'=xt:=r5;subst r3 r4 r5
  cases x with
  |list xs=>
   cases l' with
   |some _=>exact a5.elim
   |none=>
   cases h' with
   |some _=>exact a5.elim
   |none=>
   cases t' with
   |none=>exact a5.elim
   |some i=>
   obtain⟨ad,vs,rfl,h1,r1⟩:=(((r.mono s3).mono s4).mono s5).lst_inv;by_cases hi:i = -1
   .subst hi
    exact⟨ad,vs,rfl,k5.gh.seq h1,rfl,rfl,rfl,λp hp=>aft.done a5 k5 (Ext.new k5.gh hp) (.lst (SqL.of Kk) (r1.reverse.mono (KD (k5.gh.free hp))))⟩
   .unfold Ux Xb at a5
    dsimp only at a5;rw[QM hi]at a5;exact a5.elim
  |_=>unfold Ux Xb at a5;exact a5.elim
def YK:Co->Option Co
 |[.list xs]=>Ci xs
 |[.tuple xs]=>Ci xs
 |_=>Ck
theorem Nm{x l:Co}(h:YK x=Ci l):x=[.list l]∨x=[.tuple l]:=by
 unfold YK at h;split at h
 .cases h;exact .inl Cj
 .cases h;exact .inr Cj
 .cases h
theorem Nq:bootBuiltins "list" = Ci (.type "list"):=by decide +kernel
theorem F7{f:M Co}(hg:Gl X "list")(hm:X.mg "list" = Ck)(ha:PA X [a] (tDs X.K B G0 f))(he:J0 [a] X.env=(Cn,eval a X.env)::J0 [] X.env:=by rfl) :
  PE X (.Call (.Name "list" p2) [a] [] pos) (tL X.K B G0 (UD f λxs=>Ux (YK xs))):=
 UI (TK NG hg hm Nq ha (by decide) (by decide) he Cj) λσ H Q ⟨G,Z,k,q⟩=>by
  refine⟨G,Z,k,?_⟩;unfold UD at q;cases z:f Z with
  |bad=>rw[z]at q;exact q.elim
  |ok xs Z1=>
   rw[z]at q;dsimp only[Ux]at q;intro vs G' H' k' s' r;cases z2:YK xs with
   |none=>rw[z2]at q;exact q.elim
   |some l=>
    rw[z2]at q;rcases Nm z2 with rfl|rfl
    .obtain⟨v,rfl,q1⟩:=r.one_inv
     obtain⟨p,ws,rfl,h1,r1⟩:=q1.lst_inv;exact⟨p,ws,rfl,.inl (k'.gh.seq h1),λad hp=>q ad ws G' _ (k'.ext (Ext.hid k'.gh hp)) s' (NewL.of k' hp r1)⟩
    .obtain⟨v,rfl,q1⟩:=r.one_inv
     obtain⟨p,ws,rfl,h1,r1⟩:=q1.tup_inv;exact⟨p,ws,rfl,.inr (Zn k'.gh h1),λad hp=>q ad ws G' _ (k'.ext (Ext.hid k'.gh hp)) s' (NewL.of k' hp r1)⟩
def Vt(i:Nat):M Co:=λZ=>match Z[i]? with
 |some (Ci (.pub d))=>Ux (YK [d]) Z
 |some (Ci (.own ds))=>.ok ds Z
 |_=>.bad
theorem Eh{i:Nat}(hg:Gl X "list")(hm:X.mg "list" = Ck)(ho:PE X a (U7 i))(he:J0 [a] X.env=(Cn,eval a X.env)::J0 [] X.env:=by rfl) :
  PE X (.Call (.Name "list" p2) [a] [] pos) (tL X.K B G0 (Vt i)):=
 UI (TK NG hg hm Nq (Ys ho Y3 he) (by decide) (by decide) he Cj) λσ H Q ⟨G,Z,k,q⟩=>by
  unfold Vt at q;cases z:Z[i]? with
  |none=>rw[z]at q;exact q.elim
  |some oo=>
   cases oo with
   |none=>rw[z]at q;exact q.elim
   |some sl=>
    cases sl with
    |deep _ _=>rw[z]at q;exact q.elim
    |own ds=>rw[z]at q;dsimp only at q;obtain⟨ad,vs,h1,h2,h3,h4,h5⟩:=k.own i ds z;exact⟨.ref ad,h1,ad,vs,rfl,.inl (SqL.of h4),λl hp=>q l vs G _ (k.ext (Ext.hid k.gh hp)) (.refl _) (NewL.of k hp h5)⟩
    |pub d=>
     rw[z]at q;dsimp only[Ux]at q;obtain⟨v,h1,h2⟩:=k.pub i d z;cases z2:YK [d]with
     |none=>rw[z2]at q;exact q.elim
     |some l=>
      rw[z2]at q;dsimp only at q;rcases Nm z2 with e|e
      .cases e
       obtain⟨p,ws,rfl,g1,r1⟩:=h2.lst_inv;exact⟨_,h1,p,ws,rfl,.inl (k.gh.seq g1),λad hp=>q ad ws G _ (k.ext (Ext.hid k.gh hp)) (.refl _) (NewL.of k hp r1)⟩
      .cases e
       obtain⟨p,ws,rfl,g1,r1⟩:=h2.tup_inv;exact⟨_,h1,p,ws,rfl,.inr (Zn k.gh g1),λad hp=>q ad ws G _ (k.ext (Ext.hid k.gh hp)) (.refl _) (NewL.of k hp r1)⟩
end
section
variable{X:Cx}{B G0:Hp}{e o a b c tg:JX}{pos p2 p3 p4:Pos}{es rest:Cr}{te to ti:TE}
theorem W6:∀{ns:Cp}{us:Cq},Vals (ns.map V.int) us->PyProof.Rows.IntsAre us ns
 |[],_,.nil=>.nil
 |n::ns,_,.cons h t=>by obtain⟨tk,rfl⟩:=h;exact .cons n tk (W6 t)
def KP(ns:Cp):Nat:=(PyProof.Rows.firstMet (λi=>ns.getD i 0) ns.length).length
theorem Eg(hc:X.calm=Cm):Zo X (.type "set") (λxs H Q=>∃l,∃ns:Cp,xs=[.ref l]/\SqL X.K H l (ns.map V.int)/\ns.length+1<4096/\∀S p,H p=Ck->Q (.ref p) (upd H p (.set S (KP ns)))):=by
 intro pins s σ H xs us Q I rx h;obtain⟨l,ns,rfl,hq,hb,q⟩:=h;obtain⟨u,rfl,ru⟩:=rx.one;cases ru;obtain⟨its,rv,p,hz⟩:=I.list hq;have hi:=W6 rv;have hn:its.toArray.size=ns.length:=by have:=rv.length;rw[List.length_map]at this;simp;omega
 refine call_set_list (I.ok.hd hc) p.isList (ns:=ns) (by simpa using hi) (by rw[hn];exact hb) λh' tk hS hk=>?_
 rw[hn]at hS;refine⟨.ref s.heap.objs.size,_,I.laid (t':=tk) (λb o e=>hk b o (Qh e) e) (Qn _) (show KM X.prog X.w _ h' _ (.set _ (KP ns))from hS),rfl,q _ _ (I.hok.fresh (Qn _))⟩
theorem Nl:Zo X (.builtin "len") (λxs H Q=>∃p S n,xs=[.ref p]/\H p=Ci (.set S n)/\Q (.int n) H):=by
 intro pins s σ H xs us Q I rx h;obtain⟨p,S,n,rfl,hp,q⟩:=h;obtain⟨u,rfl,ru⟩:=rx.one;cases ru;obtain⟨o,es,ep,t,h1,h2,h3,h4,h5,h6,h7,h8⟩:=(show s.heap.SetOf (intKind X.prog X.w) p S n from I.hok p _ hp)
 have hsb:scanBound=4096:=rfl;refine call_len_set h1 h2 h3 h7 (by omega) ?_;rw[h8];exact⟨.int n,H,I.tok _,⟨_,rfl⟩,q⟩
def Yg:Co->Option Cp
 |[]=>Ci []
 |.int i::r=>(Yg r).map (i :: ·)
 |_=>Ck
theorem RL{K:Frag}{G:Hp}:∀{vs:List V}{ds:Co}{ns:Cp},Reps K G vs ds->Yg ds=Ci ns->vs=ns.map V.int
 |_,_,ns,.nil,e=>by cases e;rfl
 |_,_,ns,.cons (d:=d) r t,e=>by
  cases d with
  |int b=>
   unfold Yg at e;cases z:Yg _ with
   |none=>rw[z]at e;cases e
   |some cs=>rw[z]at e;cases e;rw[r.int_inv,RL t z];rfl
  |_=>cases e
theorem Np(ns:Cp):Yg (ns.map int)=Ci ns:=by
 induction ns with
 |nil=>rfl
 |cons b r ih=>rw[QG,Yg,ih];rfl
def W0:Co->Cs
 |[.list ds]=>(match Yg ds with
  |some ns=>if ns.length+1<4096 then Ci (.int (KP ns))else Ck
  |none=>Ck)
 |_=>Ck
theorem DB{xs:Co}{d:D}(h:W0 xs=Ci d):∃ds ns,xs=[.list ds]/\Yg ds=Ci ns/\ns.length+1<4096/\d=.int (KP ns):=by
 unfold W0 at h;split at h
 .rename_i ds
  cases z:Yg ds with
  |none=>rw[z]at h;cases h
  |some ns=>
   rw[z]at h;dsimp only at h;split at h
   .rename_i c
    cases h;exact⟨ds,ns,rfl,z,c,rfl⟩
   .cases h
 .cases h
theorem Ef:bootBuiltins "set" = Ci (.type "set"):=by decide +kernel
theorem Ds{f:M Co}(hc:X.calm=Cm)(hg:Gl X "len")(hm:X.mg "len" = Ck)(hg2:Gl X "set")(hm2:X.mg "set" = Ck)(ha:PA X [a] (tDs X.K B G0 f))(he:J0 [a] X.env=(Cn,eval a X.env)::J0 [] X.env:=by rfl)
  (Bj:J0 [.Call (.Name "set" p2) [a] [] p3] X.env=(Cn,eval (.Call (.Name "set" p2) [a] [] p3) X.env)::J0 [] X.env:=by rfl) :
  PE X (.Call (.Name "len" p4) [.Call (.Name "set" p2) [a] [] p3] [] pos) (tD X.K B G0 (Za W0 f)):=
 UI (VL Nl hg hm boot_len (Ys (TK (Eg hc) hg2 hm2 Ef ha (by decide) (by decide) he Cj) Y3 Bj) (by decide) (by decide) Bj Cj) λσ H Q q=>tM.one (R:=Reps X.K) q λvs H2 G Z x k r a=>by obtain⟨d,e,a⟩:=a.opt;obtain⟨ds,ns,rfl,z,c,rfl⟩:=DB e;obtain⟨v,rfl,q1⟩:=r.one_inv;obtain⟨l,ws,rfl,h1,r1⟩:=q1.lst_inv;have:=RL r1 z;subst this;refine⟨l,ns,rfl,k.gh.seq h1,c,λS p hp=>⟨p,S,KP ns,rfl,Kk,?_⟩⟩;exact aft.done a k (Ext.hid k.gh hp) (.int _)
end
end DL
namespace L2
open PySem PySem.Spec PyProof.Rows
end L2
namespace DL
open PySem PySem.Spec L2
open PyProof.Rows hiding St
end DL
namespace L2
open PySem PySem.Spec PyProof.Rows
section
variable{prog:JU}{w:World}{A:Around}{E:JS->JT->Prop}{s:JT}{M:Model}{env:Env}
theorem Gn{pos:Pos}{T:String}{args:List (Bool×Sem JS)}{kws:List (Option Str×Sem JS)}{Q:JS->JT->Prop}(hp:args.any (·.1)=Cn)(hk:kws.any (·.1.isNone)=Cn)
  (h:JZ M A (evalArgs (.type T) Cm args kws) (λa s1=>JZ M A (call (.type T) a.pos a.kw) Q E s1) E s):JZ M A (callWith pos (.type T) [] args kws) Q E s:=by
 unfold callWith;refine Qb (wpAny_holding (Qv h (λa s1 h1=>Qb (Q5 ?_)) λ_ _ z=>z));simp only[hp,hk,Bool.false_or];refine Qb (Qi ?_);exact Qb (Qv h1 (λr s2 hr=>Qb (wpAny_holding (wpAny_point (Qi hr)))) λ_ _ z=>z)
theorem F6(l:JV)(t:Tok)(items:Array JS)(n:Nat)(dct:CA)(sl:Array Cw) :
  Meets (Builtin.«enumerate.__new__» ⟨[.type "enumerate", .ref l],[("start", .int 1 t)]⟩) (λ_ R s=>s.heap.get? l=Ci ⟨.type "list", dct,.seq items n,sl⟩ /\
   R (.ok (.ret (.ref (s.heap.push {cls:=.type "list_iterator", data:=.fields #[.ref l,.int 0 0]}).objs.size))) {s with heap:=(s.heap.push {cls:=.type "list_iterator", data:=.fields #[.ref l,.int 0 0]}).push {cls:=.type "enumerate", data:=.fields #[.none,.bool Cn,.ref s.heap.objs.size,rawInt 1,.none,.none]}}):=
 .of_wp λprog w A R s h=>by
  obtain⟨hp,g,d,tk,os⟩:=s;obtain⟨hl,h⟩:=h;have hsub:=sub_enumerate;have hL:Heap.IsList (Shared.heap ⟨hp,g,d,tk,os⟩) l items:=⟨_,hl,rfl,n,rfl⟩
  wp_walk using AutoSeq1.wpAny_loadPart' hl
  refine wpAny_stack_any λst=>(Qi ?_);split
  .rename_i c _ _ _ _ _
   cases (c==Value.type "enumerate")<;>(wp_walk using(AutoSeq1.wpAny_loadPart' hl),(Jq hL))<;>exact⟨_,rfl,h⟩
  ·(wp_walk using(AutoSeq1.wpAny_loadPart' hl),(Jq hL));exact⟨_,rfl,h⟩
theorem D9{T newId initId:String}{Bn Bi:Builtin}{args:Cq}{kw:List (Str×JS)}{S:PySem.Spec}{Q Q1:JS->JT->Prop}(ft:TypeCalled T newId initId)
  (hct:checkTypeCall T ⟨args,kw⟩=pure ()) (hcn:checkBuiltinCall newId ⟨.type T::args,kw⟩=pure ()) (eN:entryFor table newId=Ci Bn) (eI:entryFor table initId=Ci Bi)
  (g:Meets (Bn ⟨.type T::args,kw⟩) S) (h:S A.in1 (wants Q1 E) s)
  (hnext:∀obj s1,Q1 obj s1->s1.TypeIs obj T/\argsOk initId ⟨obj::args,kw⟩/\∃Si,Meets (Bi ⟨obj::args,kw⟩) Si/\Si A.in1 (wants (λr s2=>r=.none/\Q obj s2) E) s1) :
  JZ (model prog w) A (call (.type T) args kw) Q E s:=by
 obtain⟨c,tl,hmro⟩:=ft.mro;have hmade:=ft.made;have hsub:=ft.sub;refine wpAny_call (codeAny_of_tree ?_);show JZ _ _ (callAny (.type T) _) _ _ _;refine Qi ⟨Code.quiet_builtin _ (by decide +kernel),(codeAny_builtin F.entry_type_call ?_)⟩;rw[Around.under_plain (weight_type_call_type T args kw) (units_type_call_type T args kw)];have h1:=ft.notType;have h2:=ft.canCreate
 repeat' (any_goals (first|wp_step|assumption))
 refine codeAny_mono (codeAny_call_builtin ft.plain eN (wpAny_of_eq hcn (g prog w A.in1 _ s h))) λr s1 hr=>?_
 match r,hr with
 |.error e,hr=>exact hr
 |.ok (.ret obj),hr=>
  obtain⟨hT,hok,Si,gi,hsi⟩:=hnext _ _ hr;have hli:=ft.init.lookup;have hbi:=ft.init.bind obj
  repeat' (any_goals (first|wp_step|assumption))
  refine codeAny_mono (codeAny_call_builtin ft.init.plain eI (ft.init.check _ _ _ _ _ _ _ _ hT hok (gi prog w A.in1 _ s1 hsi))) λr2 s2 CV=>?_
  match r2,CV with
  |.error e,CV=>exact CV
  |.ok (.ret r),CV=>
   obtain⟨rfl,hq⟩:=CV
   repeat' (any_goals (first|wp_step|assumption))
  |.ok .next,CV=>exact CV.elim
  |.ok .brk,CV=>exact CV.elim
  |.ok .cont,CV=>exact CV.elim
 |.ok .next,hr=>exact hr.elim
 |.ok .brk,hr=>exact hr.elim
 |.ok .cont,hr=>exact hr.elim
theorem DA{T newId:String}{self:JS}{rest:Cq}{kw:List (Str×JS)}(hl:typeLookup (.type T) "__init__" = pure (Ci (.builtin "object.__init__")))
  (hm:Bind.madeBy (.type T)=pure (Ci newId)) (hne:(Ci newId != Ci "object.__new__")=Cm) :
  Meets (Builtin.«object.__init__» ⟨self::rest,kw⟩) (λ_ R s=>s.TypeIs self T/\R (.ok (.ret .none)) s):=by
 refine .of_wp λprog w A R s hs=>?_
 obtain⟨hT,hq⟩:=hs;cases rest with
 |nil=>
  cases kw with
  |nil=>exact Qi ⟨_,rfl,hq⟩
  |cons k kw=>(repeat' (any_goals (first|wp_step|assumption)));exact⟨_,rfl,hq⟩
 |cons a rest=>(repeat' (any_goals (first|wp_step|assumption)));exact⟨_,rfl,hq⟩
theorem Dz(a:JS)(t:Tok):checkTypeCall "enumerate" ⟨[a],[("start", .int 1 t)]⟩=pure ():=by kernel_rfl
theorem Dr(a:JS)(t:Tok):checkBuiltinCall "enumerate.__new__" ⟨[.type "enumerate", a],[("start", .int 1 t)]⟩=pure ():=by kernel_rfl
theorem Dy(o a:JS)(t:Tok):argsOk "object.__init__" ⟨[o,a],[("start", .int 1 t)]⟩:=by unfold argsOk;kernel_rfl
theorem Dq{l:JV}{items:Array JS}{t:Tok}{Q:JS->JT->Prop}(hL:s.heap.IsList l items)
  (h:∀h',IsEnum h' (s.heap.objs.size+1) s.heap.objs.size 1 .none->h'.IsListIter s.heap.objs.size l 0->(∀b o,s.heap.get? b=Ci o->h'.get? b=Ci o)->Q (.ref (s.heap.objs.size+1)) {s with heap:=h'}) :
  JZ (model prog w) A (call (.type "enumerate") [.ref l] [("start", .int 1 t)]) Q E s:=by
 obtain⟨⟨c,dct,dt,sl⟩,hl,hc,n,hd⟩:=hL;replace hc:c=.type "list" :=hc;replace hd:dt=.seq items n:=hd;subst hc hd;have hz:(s.heap.push {cls:=.type "list_iterator", data:=.fields #[.ref l,.int 0 0]}).objs.size=s.heap.objs.size+1:=Heap.size_push ..;have he:IsEnum ((s.heap.push {cls:=.type "list_iterator", data:=.fields #[.ref l,.int 0 0]}).push {cls:=.type "enumerate", data:=.fields #[.none,.bool Cn,.ref s.heap.objs.size,rawInt 1,.none,.none]}) (s.heap.objs.size+1) s.heap.objs.size 1 .none:=by rw[←hz];exact Qx _ Cj
 refine D9 F.called_enumerate (Dz _ t) (Dr _ t) F.entry_enumerate_new F.entry_object_init (F6 l t items n dct sl) (Q1:=λobj s1=>s1.TypeIs obj "enumerate" /\ Q obj s1) ⟨hl,?_⟩ λobj s1 hq=>
  ⟨hq.1,Dy obj _ t,_,DA F.called_enumerate.init.lookup F.called_enumerate.made (by decide),hq.1,rfl,hq.2⟩
 show _/\_;rw[hz];exact⟨⟨_,he,rfl⟩,h _ he ⟨_,Qf _ (Qx _ Cj),rfl,rfl⟩ λb o x=>Qf _ (Qf _ x)⟩
end
section
variable{prog:JU}{w:World}{A:Around}{E:JS->JT->Prop}{s:JT}
theorem Ee{en it l:JV}{i:Nat}{j:Int}{items:Array JS}{x old:JS}{Q:Cw->JT->Prop}(st:IsEnum s.heap en it j old)(li:s.heap.IsListIter it l i)(ls:s.heap.IsList l items)
  (at_:items[i]?=Ci x) (ne:en≠it)
  (k:∀h',IsEnumOut h' en it (j+1) x s.heap.objs.size->h'.IsListIter it l (i+1)->h'.get? s.heap.objs.size=Ci {cls:=.type "tuple", data:=.seq #[.int j s.toks,x]}->(∀b o,b≠en->b≠it->s.heap.get? b=Ci o->h'.get? b=Ci o) ->
   Q (Ci (.ref s.heap.objs.size)) {s with heap:=h',toks:=s.toks+1}):JZ (model prog w) A (pyNext (.ref en)) Q E s:=by
 have ty:s.TypeIs (.ref en) "enumerate" :=⟨_,st,rfl⟩
 have lt:en<s.heap.objs.size:=Qh st;unfold pyNext;refine Qb (wpAny_attempt (wpAny_callSpecial?_slot (name:=Uf "__next__") ty F.slot_enumerate_next (wpAny_call_entry F.slot_enumerate_next ty F.entry_enumerate_next ?_ (F.args_enumerate_next_1 _))));show JZ _ _ (field (.ref en) 2 >>= _) _ _ s;refine Qb (wpAny_field st Cj (x:=.ref it) Cj ?_);refine Qb (wpAny_nextOf_list_item li ls at_ λm1 li1 c1=>?_);have c1:Heap.SameBut it s.heap m1:=c1;have st1:IsEnum m1 en it j old:=(c1.2 en ne).trans st;show JZ _ _ (field (.ref en) 3 >>= _) _ _ {s with heap:=m1};refine Qb (wpAny_field st1 Cj (x:=rawInt j) Cj ?_);show JZ _ _ (field (.ref en) 4 >>= _) _ _ {s with heap:=m1};refine Qb (wpAny_field st1 Cj (x:=.none) Cj ?_);show JZ _ _ (mkInt j >>= _) _ _ {s with heap:=m1};refine Qb (wpAny_mkInt ?_);show JZ _ _ (setField (.ref en) 3 (rawInt (j+1)) >>= _) _ _ {s with heap:=m1,toks:=s.toks+1};refine wpAny_bind (wpAny_setField_rec st1 (by simp) λm2 st2 c2=>?_);have c2:Heap.SameBut en m1 m2:=c2;have st2:IsEnum m2 en it (j+1) old:=st2;show JZ _ _ (setField (.ref en) 4 .none >>= _) _ _ {s with heap:=m2,toks:=s.toks+1};refine wpAny_bind (wpAny_setField_rec st2 (by simp) λm3 st3 c3=>?_);have c3:Heap.SameBut en m2 m3:=c3;have st3:IsEnum m3 en it (j+1) old:=st3;show JZ _ _ (newTuple [.int j s.toks,x] >>= _) _ _ {s with heap:=m3,toks:=s.toks+1};refine Qb (wpAny_newTuple ?_);have z3:m3.objs.size=s.heap.objs.size:=c3.1.trans (c2.1.trans c1.1);have st4:IsEnum (m3.push {cls:=.type "tuple", data:=.seq #[.int j s.toks,x]}) en it (j+1) old:=Qf _ (show IsEnum m3 en it (j+1) old from st3);have tp4:(m3.push {cls:=.type "tuple", data:=.seq #[.int j s.toks,x]}).get? s.heap.objs.size=Ci {cls:=.type "tuple", data:=.seq #[.int j s.toks,x]}:=by rw[←z3];exact Qx _ Cj
 have kp4:∀b o,b≠en->b≠it->s.heap.get? b=Ci o->(m3.push {cls:=.type "tuple", data:=.seq #[.int j s.toks,x]}).get? b=Ci o:=λb o n1 n2 q=>Qf _ ((c3.2 b n1).trans ((c2.2 b n1).trans ((c1.2 b n2).trans q)))
 have li4:(m3.push {cls:=.type "tuple", data:=.seq #[.int j s.toks,x]}).IsListIter it l (i+1):=by obtain⟨o,q,r⟩:=li1;exact⟨o,Qf _ ((c3.2 it (Ne.symm ne)).trans ((c2.2 it (Ne.symm ne)).trans q)),r⟩
 generalize m3.push {cls:=.type "tuple", data:=.seq #[.int j s.toks,x]}=m4 at st4 tp4 kp4 li4;show JZ _ _ (Builtin.SmallTypes.ownedTupleIsFree (.ref en) >>= _) _ _ {s with heap:=m4,toks:=s.toks+1};rw[z3];refine Qb ?_;unfold Builtin.SmallTypes.ownedTupleIsFree Builtin.SmallTypes.ownedTupleHandOut;refine Qb (wpAny_field st4 Cj (x:=.none) Cj (Qi ?_));simp only[if_true];refine wpAny_bind (wpAny_rule (wpAny_bind (wpAny_field st4 Cj (x:=old) Cj (wpAny_bind (wpAny_setField_rec st4 (by simp) λm5 CM c5=>?_)))));have c5:Heap.SameBut en m4 m5:=c5;have CM:IsEnum m5 en it (j+1) x:=CM;refine wpAny_bind (wpAny_bind (wpAny_setField_rec CM (by simp) λm6 st6 c6=>?_));have c6:Heap.SameBut en m5 m6:=c6;have st6:IsEnumOut m6 en it (j+1) x s.heap.objs.size:=st6;refine wpAny_setField_rec st6 (by simp) λm7 st7 c7=>?_
 have c7:Heap.SameBut en m6 m7:=c7;have st7:IsEnumOut m7 en it (j+1) x s.heap.objs.size:=st7;have up:∀b,b≠en->m7.get? b=m4.get? b:=λb n=>(c7.2 b n).trans ((c6.2 b n).trans (c5.2 b n));refine Qb (wpAny_letGo (Qi ⟨_,rfl,Qi (k m7 st7 ?_ ((up _ (Js lt)).trans tp4) λb o n1 n2 q=>(up b n1).trans (kp4 b o n1 n2 q))⟩))
 obtain⟨o,q,r⟩:=li4;exact⟨o,(up it (Ne.symm ne)).trans q,r⟩
theorem Ed{en it l:JV}{i:Nat}{j:Int}{items:Array JS}{old:JS}{Q:Cw->JT->Prop}(hh:A.handled=Ck)(st:IsEnum s.heap en it j old)(li:s.heap.IsListIter it l i)(ls:s.heap.IsList l items)
  (at_:items[i]?=Ck) (k:∀h',Heap.ExtBut it s.heap h'->Q Ck {s with heap:=h'}):JZ (model prog w) A (pyNext (.ref en)) Q E s:=by
 have ty:s.TypeIs (.ref en) "enumerate" :=⟨_,st,rfl⟩
 unfold pyNext;refine Qb (wpAny_attempt (wpAny_callSpecial?_slot (name:=Uf "__next__") ty F.slot_enumerate_next (wpAny_call_entry F.slot_enumerate_next ty F.entry_enumerate_next ?_ (F.args_enumerate_next_1 _))));show JZ _ _ (field (.ref en) 2 >>= _) _ _ s;refine Qb (wpAny_field st Cj (x:=.ref it) Cj (Qb (m:=Builtin.SmallTypes.nextOf (.ref it)) (wpAny_nextOf_list_end hh li ls at_ λh' z c y=>?_)));obtain⟨o,q,t⟩:=y;exact Qb (wpAny_isInstance (T:= "StopIteration") (b:=Cm) ⟨o,q,t⟩ isSubtype_stop (Qi (k _ c)))
end
def WB(K:Frag)(a:JV):It:=
 ⟨λi H=>∃xs x,SqL K H a xs/\xs[i]?=Ci x,
  λi H v H'=>∃p x,H p=Ck/\v=.ref p/\(∀xs,SqL K H a xs->xs[i]?=Ci x)/\H'=upd H p (.tup [.int (1+(i:Int)),x]),
  λi H=>∃xs,SqL K H a xs/\xs.length<=i⟩
theorem Dp{P:JU}{w:World}{K:Frag}{elts:Cr}{x1}{tp:Pos}(a e it:JV)(hne:e≠it) :
  Turn P w K (.Tuple elts x1 tp) (WB K a) [e,it] e (λi h=>(∃old,IsEnum h e it (1+(i:Int)) old)/\h.IsListIter it a i) where
 mem:=by simp
 obj:=λi h st b hb=>by
  obtain⟨⟨old,he⟩,o,ho,c,d⟩:=st;have hb':b=e∨b=it:=by simpa using hb
  rcases hb' with rfl|rfl
  .exact⟨_,he,λv z=>by have z':Data.fields _=Data.cell v:=z;cases z'⟩
  .exact⟨o,ho,λv z=>by rw[d]at z;cases z⟩
 keep:=λi h h' st k=>by obtain⟨⟨old,he⟩,hi⟩:=st;exact⟨⟨old,k e (by simp) _ he⟩,hi.at λo q=>k it (by simp) o q⟩
 item:=by
  intro X hP hw hK hc i pins s σ H E I hf st hg;subst hP hw hK;obtain⟨⟨old,he⟩,hi⟩:=st;obtain⟨xs,x,hq,hx⟩:=hg;obtain⟨its,rv,p,hz⟩:=I.list hq;obtain⟨u,hu,ru⟩:=rv.get hx;refine Ee he hi p.isList (x:=u) (by simpa using hu) hne λh1 out hi1 ht kk=>?_
  refine⟨_,rfl,wpAny_letOwnedTupleGo_enum out λh2 Bj hs2=>?_⟩;have hel:e<s.heap.objs.size:=Qh he;have CU:Heap.SameBut e h1 h2:=hs2;have ht2:h2.get? s.heap.objs.size=Ci {cls:=.type "tuple", data:=.seq #[.int (1+(i:Int)) s.toks,u]}:=(CU.2 _ (Js hel)).trans ht
  have kk2:∀b o,b∉[e,it]->s.heap.get? b=Ci o->h2.get? b=Ci o:=λb o hb q=>by
   have C7:b≠e:=λz=>hb (by simp[z])
   have hbi:b≠it:=λz=>hb (by simp[z])
   exact(CU.2 b C7).trans (kk b o C7 hbi q)
  have hn:H s.heap.objs.size=Ck:=I.hok.fresh (Qn _)
  have I2:Inv X pins σ (upd H s.heap.objs.size (.tup [.int (1+(i:Int)),x])) {s with heap:=h2,toks:=s.toks+1}:=
   I.turnedNew (fp:=[e,it]) hf kk2 (Qn _) ⟨by show 2<=JY;decide,[.int (1+(i:Int)) s.toks,u],.cons ⟨_,rfl⟩ (.cons ru .nil),⟨_,ht2,rfl,_,rfl⟩⟩
  refine⟨.ref s.heap.objs.size,_,I2,rfl,⟨_,x,hn,rfl,λys hy=>by rw[I.list_inj hy hq];exact hx,rfl⟩,⟨⟨u,?_⟩,?_⟩,λb hb=>?_⟩
  .have e2:(1+((i+1:Nat):Int))=1+(i:Int)+1:=by omega
   rw[e2];exact Bj
  .exact hi1.at λo q=>(CU.2 it (Ne.symm hne)).trans q
  .have hlt:b<s.heap.objs.size:=by
    have hb':b=e∨b=it:=by simpa using hb
    rcases hb' with rfl|rfl
    .exact hel
    .obtain⟨o,ho,_⟩:=hi;exact Qh ho
   rw[US (QE hlt)];exact(hf b hb).1
 done:=by intro X hP hw hK hc i pins s σ H E I hf st hg;subst hP hw hK;obtain⟨⟨old,he⟩,hi⟩:=st;obtain⟨xs,hq,hx⟩:=hg;obtain⟨its,rv,p,hz⟩:=I.list hq;have hl:=rv.length;exact Ed (I.ok.hd hc) he hi p.isList (by simp;omega) λh' eb=>⟨rfl,I.turnedL (t':=s.toks) hf λb o hb q=>eb b o (λz=>hb (by simp[z])) q⟩
 self:=λ_ _ _ _ _ st h=>by obtain⟨⟨old,he⟩,_⟩:=st;exact wpAny_pyIter_enum he h
section
variable{X:Cx}
theorem F5{a:JX}{ta:TA}{p pos k1 k2:Pos}{j}{elts:Cr}{x1}{tp:Pos}(hg:Gl X "enumerate")(hm:X.mg "enumerate" = Ck)(ha:PA X [a] ta)
  (hs:backTo pos (J0 [a] X.env)=(Cn,eval a X.env)::backTo pos (J0 [] X.env):=by rfl) (hpl:(backTo pos (J0 [a] X.env)).any (·.1)=Cn:=by rfl) :
  PI X (.Tuple elts x1 tp) (.Call (.Name "enumerate" p) [a] [⟨Ci "start", .Constant (.int 1) j k1,k2⟩] pos) (λσ H R=>ta σ H λvs H1=>∃a xs,vs=[.ref a]/\SqL X.K H1 a xs/\R (WB X.K a) H1):=by
 intro pins s σ H R I h;refine wpAny_Call_Name_kw (X0 I hg hm boot_enumerate (Gn hpl Cj ?_));rw[hs];refine evalArgs_kwB Cj ?_;rw[←hs];refine thn (ha pos pins s σ H _ I h) λus s1 ⟨vs,H1,I1,r1,q1⟩=>?_;refine kws_cons (wpAny_Constant_int (kws_nil ?_))
 obtain⟨l,xs,e,hq,q⟩:=q1;subst e;cases r1 with
 |cons r rr=>
  cases rr;cases (show _=Value.ref l from r);have I1':=I1.tok (s1.toks+1);obtain⟨its,rv,pl,hz⟩:=I1'.list hq;refine Dq pl.isList λh' he hi kk=>?_;have I2:Inv X pins σ H1 {s1 with heap:=h',toks:=s1.toks+1}:=I1'.kept (t':=s1.toks+1) kk;refine wpAny_pyIter_enum he ?_
  refine⟨s1.heap.objs.size+1,[s1.heap.objs.size+1,s1.heap.objs.size],_,_,H1,rfl,I2,Dp l _ _ (Nat.succ_ne_self _),⟨⟨_,he⟩,hi⟩,λb hb=>?_,q⟩;have hb':b=s1.heap.objs.size+1∨b=s1.heap.objs.size:=by simpa using hb
  rcases hb' with rfl|rfl
  .exact I1.fpOk (JE _) (I1.hok.fresh (JE _))
  .exact I1.fpOk (Qn _) (I1.hok.fresh (Qn _))
end
end L2
namespace DL
open PySem PySem.Spec L2
open PyProof.Rows hiding St
section
variable{X:Cx}{B G0:Hp}{e a b c tg:JX}{pos:Pos}{es rest:Cr}
theorem Dx{K:Frag}{G1:Hp}{ad:JV}{vs:List V}{ds:Co}(h:SqL K G1 ad vs)(r:Reps K G1 vs ds):ZG K (WB K ad) (Zl 1 ds) G1 where
 go:=λi G H s1 s2 hi=>by
  rw[YX]at hi;have hi':i<vs.length:=by rw[r.length];exact hi
  exact⟨vs,vs[i],(s1.trans s2).seq h,Qe hi'⟩
 stop:=λi G H s1 s2 hi=>by rw[YX]at hi;exact⟨vs,(s1.trans s2).seq h,by rw[r.length];exact hi⟩
 yld:=λi G H x H' d s1 s2 e y=>by
  obtain⟨p,v,hp,rfl,y1,rfl⟩:=y;have z1:=y1 vs ((s1.trans s2).seq h);rw[RB]at e;cases q:ds[i]? with
  |none=>rw[q]at e;cases e
  |some dd=>
   rw[q]at e;cases e;obtain⟨v',e1,r1⟩:=r.get q;rw[z1]at e1;cases e1;refine⟨upd G p (.tup [.int (1+(i:Int)),v]),Ext.new s2 hp,.tup (SqT.of Kk) (.cons ?_ (.cons ((r1.mono s1).mono (KD (s2.free hp))) .nil))⟩;have:((1+i:Nat):Int)=1+(i:Int):=by omega
   rw[this];exact .int _
def WO:Co->Option Co
 |[.list ds]=>Ci (Zl 1 ds)
 |_=>Ck
def V6(f:M Co):M Co:=UD f λx=>Ux (WO x)
theorem Do{x l:Co}(h:WO x=Ci l):∃ds,x=[.list ds]/\l=Zl 1 ds:=by
 unfold WO at h;split at h
 .cases h;exact⟨_,rfl,rfl⟩
 .cases h
theorem F4{f:M Co}{p2 k1 k2:Pos}{j}{elts:Cr}{x1}{tp:Pos}(hg:Gl X "enumerate")(hm:X.mg "enumerate" = Ck)(ha:PA X [a] (tDs X.K B G0 f))
  (hs:backTo pos (J0 [a] X.env)=(Cn,eval a X.env)::backTo pos (J0 [] X.env):=by rfl) (hpl:(backTo pos (J0 [a] X.env)).any (·.1)=Cn:=by rfl) :
  PI X (.Tuple elts x1 tp) (.Call (.Name "enumerate" p2) [a] [⟨Ci "start", .Constant (.int 1) j k1,k2⟩] pos) (iD X.K B G0 (V6 f)):=Yy (F5 hg hm ha hs hpl) λσ H R q=>tM.toI (R0:=Reps X.K) q λv H' G' Z' x k r a=>by
 cases z:WO x with
 |none=>rw[z]at a;exact a.elim
 |some l=>rw[z]at a;obtain⟨ds,rfl,rfl⟩:=Do z;obtain⟨v,rfl,q⟩:=r.one_inv;obtain⟨l,ws,rfl,h1,r1⟩:=q.lst_inv;exact⟨l,ws,rfl,k.gh.seq h1,a _ G' H' k (.refl _) (Dx h1 r1)⟩
end
section
variable{X:Cx}{B G0:Hp}{e o:JX}{es:Cr}
theorem Dw{h:Heap}{vs:Cq}{xs:Co}{as:Ct}{d:D}(rs:ReadsAll h vs xs as)(hxs:Ub xs=Cm) :
  vs.countP (λy=>Ud (SeqAt.readOf h y) d)=xs.countP (λy=>Ud y d):=by
 have key:xs=vs.map (SeqAt.readOf h):=(SeqAt.readsAll_map xs vs as hxs rs).symm;rw[key,List.countP_map];rfl
def XE(y x:D):Cs:=match y with
 |.list ds=>if x.canLay0=Cm/\Ub ds=Cm/\x.depth<=60 then Ci (.int (ds.countP λy=>Ud y x))else Ck
 |_=>Ck
theorem F3(hu:X.A.units+64<cLine):MtR X "list.count" (λv vs H Q=>∃G u y x d,vs=[u]/\Same G H/\Rep X.K G v y/\Rep X.K G u x/\XE y x=Ci (.int d)/\Q (.int d) H):=by
 intro pins s σ H x xs v us Q I rx rs h;obtain⟨G,u,dy,dx,d,rfl,sg,py,px,e,q⟩:=h;obtain⟨w,rfl,BX⟩:=rs.one;unfold XE at e;split at e
 .rename_i ds
  split at e
  .rename_i c
   obtain⟨bs,rb⟩:=ZM I sg py rx (show Ub _=Cm from c.2.1);obtain⟨as,ra⟩:=ZM I sg px BX c.1;cases rb with
   |list h1 h2 h3 h4=>rename_i l ob its cs n;obtain⟨cls,dd,data,sl⟩:=ob;simp only at h2 h3;subst h2 h3;refine call_meets F.slot_list_count ⟨_,h1,rfl⟩ F.entry_list_count (F.args_list_count_2 _ _) (SeqAt.list_countAt _ _ _ dd sl _ (λy=>Ud (SeqAt.readOf s.heap y) dx)) ⟨h1,SeqAt.items_eqAt h4 ra c.2.1 c.1 (by have:=c.2.2;omega),?_⟩;rw[Dw h4 c.2.1];cases e;exact⟨.int _,H,I.tok _,⟨_,rfl⟩,q⟩
  .cases e
 .cases e
def Tn(y:D)(xs:Co):Cs:=match xs with
 |[x]=>XE y x
 |_=>Ck
theorem Dv{ds xs:Co}{d:D}(h:Tn (.list ds) xs=Ci d):∃x n,xs=[x]/\d=.int n/\XE (.list ds) x=Ci (.int n):=by
 unfold Tn at h;split at h
 .rename_i x
  have h':=h;unfold XE at h;dsimp only at h;split at h
  .cases h;exact⟨x,_,rfl,rfl,h'⟩
  .cases h
 .cases h
def WN(f:M D)(g:M Co):M D:=UD f λy=>UD g λxs=>Ux (match y with | .list ds=>Tn (.list ds) xs|_=>Ck)
theorem Ec{apos cpos:Pos}{f:M D}{g:M Co}(hu:X.A.units+64<cLine)(ho:PE X o (tD X.K B G0 f))(ha:PA X (e::es) (tDs X.K B G0 g))
  (hbase:attributeBase o "count" X.env (eval o X.env)=eval o X.env:=by rfl)
  (hfew:((backTo cpos (J0 (e::es) X.env)).all (λx=>!x.1)&&(backToKw cpos (keywordEach [] X.env)).all (λx=>x.1.isSome)
   && decide ((e::es).length+([]:List Keyword).length+(if([]:List Keyword).isEmpty then 0 else 1)<30))=Cm:=by rfl)
  (hline:(apos.endLine==cpos.line)=Cm:=by rfl) (hs:J0 (e::es) X.env=(Cn,eval e X.env)::J0 es X.env:=by rfl) (hplain:(backTo cpos (J0 es X.env)).any (·.1)=Cn:=by rfl) :
  PE X (.Call (.Attribute o "count" apos) (e::es) [] cpos) (tD X.K B G0 (WN f g)):=
 UI (T7 F.plainAttrs_list F.slot_list_count F.type_list_count (F3 hu) ho ha hbase hfew hline hs hplain) λσ H Q q=>by
  refine tM.one (R:=Rep X.K) q λv H2 G Z y k r a=>?_
  cases y with
  |list ds=>
   obtain⟨l,ws,rfl,h1,r1⟩:=r.lst_inv;refine⟨.inl ⟨rfl,ws,k.gh.seq h1⟩,?_⟩;refine tM.nx (R:=Reps X.K) k a λxs H3 G3 Z3 es k3 s3 r3 a3=>?_
   obtain⟨d,e,a3⟩:=a3.opt;obtain⟨x,n,rfl,rfl,e'⟩:=Dv e;obtain⟨u,rfl,ru⟩:=r3.one_inv;exact⟨G3,u,.list ds,x,n,rfl,k3.gh,r.mono s3,ru,e',aft.now a3 k3 (.int _)⟩
  |_=>
   unfold UD at a;cases z:g Z with
   |bad=>rw[z]at a;exact a.elim
   |ok xs Z1=>rw[z]at a;exact a.elim
theorem OB{f:M D}{g:M Co}{Z Z1 Z2:Ul}{ds:Co}{x d:D}(h1:f Z=.ok (.list ds) Z1)(h2:g Z1=.ok [x] Z2)(h3:XE (.list ds) x=Ci d):WN f g Z=.ok d Z2:=by unfold WN UD;rw[h1];dsimp only;rw[h2];dsimp only[Tn];rw[h3];rfl
end
section
variable{prog:JU}{w:World}{A:Around}{R:Result->JT->Prop}{h0:Heap}{l I S:JV}{rs:List (JV×Cq)}
def Yc(h h':Heap):Prop:=∀b o,h.get? b=Ci o->h'.get? b=Ci o
def Ls1(h:Heap)(a:JV)(its:Cq)(sl:Array Cw):Prop:=∃n,h.get? a=Ci {cls:=.type "list", dict:=Ck,data:=.seq its.toArray n,slots:=sl}
def Ls(h:Heap)(a:JV)(its:Cq):Prop:=∃n sl,h.get? a=Ci {cls:=.type "list", dict:=Ck,data:=.seq its.toArray n,slots:=sl}
theorem Ls.kept{h h':Heap}{a:JV}{its:Cq}(x:Ls h a its)(k:Yc h h'):Ls h' a its:=by obtain⟨n,sl,e⟩:=x;exact⟨n,sl,k _ _ e⟩
theorem Dm(hh:A.in1.handled=Ck)(hI:h0.objs.size<=I)(hS:h0.objs.size<=S)(hIS:S≠I)(hl:h0.IsList l (rs.map λp=>Value.ref p.1).toArray)(hr:∀p∈rs,Ls h0 p.1 p.2) :
  ∀(k i:Nat)(s:JT)(t:JV)(acc:Cq)(c:Nat)(sl:Array Cw),rs.length-i=k->i<=rs.length->Yc h0 s.heap->s.heap.IsListIter I l i ->
   s.heap.get? S=Ci {cls:=.type "list", dict:=Ck,data:=.seq #[.ref t] c,slots:=#[]}->t≠S->t≠I->Ls1 s.heap t acc sl->acc.length+((rs.drop i).map (·.2)).flatten.length<=JY ->
   (∀p h' tk C4,Yc h0 h'->Ls1 h' p (acc++((rs.drop i).map (·.2)).flatten) C4->(p=t/\i=rs.length/\C4=sl∨h0.objs.size<=p/\C4=#[])->R (.ok (.ret (.ref p))) {s with heap:=h',toks:=tk}) ->
   codeAny (model prog w) A (.builtin "sum.loop" ⟨[.ref I,.ref S,rawInt 2,rawInt 0],[]⟩) R s:=by
 intro k;induction k with
 |zero=>
  intro i s t acc c sl hk hi hK hit hSS htS htI ht hz hR;have hin:i=rs.length:=by omega
  subst hin;refine codeAny_builtin F.entry_sum_loop ?_;rw[Around.under_plainId F.plain_sum_loop _];show JZ _ A.in1 (seqItems? (.ref S) >>= _) _ _ s;refine Qb (wpAny_seqItems hSS Cj ?_);show JZ _ A.in1 (tryCatch (pyNext (.ref I)) _ >>= _) _ _ s;have hl':s.heap.IsList l (rs.map λp=>Value.ref p.1).toArray:=by obtain⟨o,e,r⟩:=hl;exact⟨o,hK _ _ e,r⟩
  refine wpAny_bind (wpAny_tryCatch (wpAny_pyNext_list_end hh hit hl' (by simp) λh' ex=>?_));refine Qi (hR t h' s.toks sl (λb o e=>?_) ?_ (.inl ⟨rfl,rfl,rfl⟩))
  .exact ex b o (QE (QD (Qh e) hI)) (hK b o e)
  .obtain⟨n,e⟩:=ht
   rw[List.drop_length,List.map_nil,List.flatten_nil,QY];exact⟨n,ex _ _ htI e⟩
 |succ k ih=>
  intro i s t acc c sl hk hi hK hit hSS htS htI ht hz hR;have hlt:i<rs.length:=by omega
  refine codeAny_builtin F.entry_sum_loop ?_;rw[Around.under_plainId F.plain_sum_loop _];show JZ _ A.in1 (seqItems? (.ref S) >>= _) _ _ s;refine Qb (wpAny_seqItems hSS Cj ?_);show JZ _ A.in1 (tryCatch (pyNext (.ref I)) _ >>= _) _ _ s;have hl':s.heap.IsList l (rs.map λp=>Value.ref p.1).toArray:=by obtain⟨o,e,r⟩:=hl;exact⟨o,hK _ _ e,r⟩
  refine wpAny_bind (wpAny_tryCatch (wpAny_pyNext_list_item (x:=.ref (rs[i]'hlt).1) hit hl' (by simp[hlt]) λh' B8 sb=>?_));show JZ _ A.in1 ((holding [Value.ref (rs[i]'hlt).1] (binaryOp .Add (.ref t) (.ref (rs[i]'hlt).1))).attempt >>= _) _ _ _;refine Qb (wpAny_attempt (wpAny_holding ?_));have hm:rs[i]'hlt∈rs:=QT hlt;have hd:rs.drop i=rs[i]'hlt::rs.drop (i+1):=Jm hlt;have hK':Yc h0 h':=λb o e=>(sb.2 b (QE (QD (Qh e) hI))).trans (hK b o e)
  obtain⟨n1,e1⟩:=ht;have e1':=(sb.2 t htI).trans e1;obtain⟨n2,s2,e2⟩:=(hr _ hm).kept hK';have Ab:=(sb.2 S hIS).trans hSS;rw[hd,QG,QO,Qj]at hz;refine concat_meets ⟨_,e1',rfl⟩ ⟨_,e2,rfl⟩ noFill_list_add seq_list_add PySem.F.slot_list_add PySem.F.entry_list_add (PySem.F.args_list_add_2 _ _) (list_addW t _ acc.toArray _ n1 n2 Ck Ck sl s2 (by rw[QK,QK];omega)) ⟨e1',e2,?_⟩;have hlS:S<h'.objs.size:=Qh Ab;have hlI:I<h'.objs.size:=by obtain⟨o,e,_⟩:=B8;exact Qh e
  have ea:acc.toArray++(rs[i]'hlt).2.toArray=(acc++(rs[i]'hlt).2).toArray:=by simp
  rw[ea];have hP:∀b o,h'.get? b=Ci o->(h'.push {cls:=Value.type "list", data:=Data.seq (acc++(rs[i]'hlt).2).toArray}).get? b=Ci o:=λb o e=>Qf _ e
  have hS1:=hP _ _ Ab;have hNew:(h'.push {cls:=Value.type "list", data:=Data.seq (acc++(rs[i]'hlt).2).toArray}).get? h'.objs.size=Ci {cls:=Value.type "list", data:=Data.seq (acc++(rs[i]'hlt).2).toArray}:=Qx _ Cj;show JZ _ A.in1 (updateSeq S (λ_=>#[.ref h'.objs.size]) >>= _) _ _ _;refine Qb (wpAny_updateSeq hS1 Cj ?_);have hS2:=Heap.get?_update_self (Obj.mapSeq λ_=>#[Value.ref h'.objs.size]) hS1 Cj;refine Qb (wpAny_letGo ?_);refine Qb (wpAny_updateSeq hS2 Cj (Qi ⟨plainId_quiet F.plain_sum_loop _,?_⟩));have oth:∀b o,b≠S->(h'.push {cls:=Value.type "list", data:=Data.seq (acc++(rs[i]'hlt).2).toArray}).get? b=Ci o->(((h'.push {cls:=Value.type "list", data:=Data.seq (acc++(rs[i]'hlt).2).toArray}).update S (Obj.mapSeq λx=>#[Value.ref h'.objs.size])).update S (Obj.mapSeq λx=>#[Value.ref h'.objs.size])).get? b=Ci o:=λb o hb e=>(Heap.get?_update_other _ _ (Ne.symm hb)).trans ((Heap.get?_update_other _ _ (Ne.symm hb)).trans e)
  refine ih (i+1) _ h'.objs.size (acc++(rs[i]'hlt).2) _ #[] (by omega) hlt ?_ ?_ (Heap.get?_update_self _ hS2 Cj) (Js hlS) (Js hlI) ?_ (by rw[Qj];omega) λp h'' tk C4 hk'' hp hq=>?_
  .exact λb o e=>oth b o (QE (QD (Qh e) hS)) (hP b o (hK' b o e))
  .obtain⟨o,e,r⟩:=B8
   exact⟨o,oth I o (Ne.symm hIS) (hP I o e),r⟩
  .exact⟨_,oth _ _ (Js hlS) hNew⟩
  .refine hR p h'' tk C4 hk'' ?_ (.inr ?_)
   .rw[hd,QG,QO,←Jx];exact hp
   .rcases hq with ⟨rfl, -,e⟩|hq
    .exact⟨Nat.le_of_lt (Nat.lt_of_le_of_lt hS hlS),e⟩
    .exact hq
end
section
variable{prog:JU}{w:World}{A:Around}{E:JS->JT->Prop}{s:JT}{l z:JV}{rs:List (JV×Cq)}
theorem Eb(a b:JS):argsOk "sum" ⟨[a,b],[]⟩:=by unfold argsOk;kernel_rfl
theorem Dl{Q:JS->JT->Prop}(hh:A.handled=Ck)(hl:s.heap.IsList l (rs.map λp=>Value.ref p.1).toArray)(hr:∀p∈rs,Ls s.heap p.1 p.2)(hz:Ls s.heap z [])(hb:(rs.map (·.2)).flatten.length<=JY)
  (h:∀p h' tk C4,Yc s.heap h'->Ls1 h' p (rs.map (·.2)).flatten C4->(p=z/\rs=[]∨s.heap.objs.size<=p/\C4=#[])->Q (.ref p) {s with heap:=h',toks:=tk}) :
  JZ (model prog w) A (call (.builtin "sum") [.ref l,.ref z]) Q E s:=by
 refine call_function_tree F.kind_sum F.plain_sum F.entry_sum (Eb _ _) ?_;unfold Builtin.«sum»;simp only[QI,Q0];rw[QM (by decide)];refine Qb (wpAny_of_eq (show Builtin.Builtins.bindParams "sum" ["start"] 0 ⟨[.ref z],[]⟩=pure [Ci (.ref z)]from rfl) ?_);refine Qb (Jq hl ?_);refine Qb (Qi ?_);obtain⟨n,sl,ez⟩:=id hz;have ty:∀h:Heap,h.get? z=Ci {cls:=.type "list", dict:=Ck,data:=.seq [].toArray n,slots:=sl}->({s with heap:=h}:JT).TypeIs (.ref z) "list" :=λh e=>⟨_,e,rfl⟩
 have ez':(s.heap.push {cls:=.type "list_iterator", data:=.fields #[.ref l,.int 0 0]}).get? z=_:=Qf _ ez;simp only[List.forIn_cons,List.forIn_nil];refine Qb (Qb (Qb (wpAny_isInstance (T:= "list") (b:=Cn) (ty _ ez') F.sub_list_str ?_)));simp only[JG,if_false];refine Qi (Qb (Qb (wpAny_isInstance (T:= "list") (b:=Cn) (ty _ ez') F.sub_list_bytes ?_)));simp only[JG,if_false];refine Qi (Qb (Qb (wpAny_isInstance (T:= "list") (b:=Cn) (ty _ ez') F.sub_list_bytearray ?_)));simp only[JG,if_false];refine Qi (Qi ?_);refine Qb (wpAny_newObj_type ?_);have hzs:=Qh ez;have s1:(s.heap.push {cls:=.type "list_iterator", data:=.fields #[.ref l,.int 0 0]}).objs.size=s.heap.objs.size+1:=Heap.size_push ..;have k2:Yc s.heap ((s.heap.push {cls:=.type "list_iterator", data:=.fields #[.ref l,.int 0 0]}).push {cls:=.type "list", data:=.seq #[.ref z]}):=λb o e=>Qf _ (Qf _ e)
 refine Qi ⟨plainId_quiet F.plain_sum_loop _,Dm (h0:=s.heap) (l:=l) (I:=s.heap.objs.size) (S:=(s.heap.push {cls:=.type "list_iterator", data:=.fields #[.ref l,.int 0 0]}).objs.size) (rs:=rs) hh (Qn _) (by rw[s1];exact JE _) (by rw[s1];exact Nat.succ_ne_self _) hl hr rs.length 0 _ z [] 0 sl Cj (JI _)
  k2 ⟨_,Heap.get?_push_of_some _ (Heap.get?_push_size _ Cj),rfl,rfl⟩ (Heap.get?_push_size _ Cj) (by rw[s1];exact Nat.ne_of_lt (Nat.lt_succ_of_lt hzs)) (Nat.ne_of_lt hzs) ⟨n,k2 _ _ ez⟩ (by simpa using hb) λp h' tk C4 hk hp hq=>?_⟩
 exact h p h' tk C4 hk (by simpa using hp) (hq.imp (λe=>⟨e.1,List.eq_nil_of_length_eq_zero e.2.1.symm⟩) id)
end
section
variable{X:Cx}{pins:List (JV×Obj)}{σ:St}{H:Hp}{s:JT}
theorem PJ(I:Inv X pins σ H s):∀{rs:List (JV×List V)},(∀p∈rs,SqL X.K H p.1 p.2) ->
  ∃ts:List (JV×Cq),(ts.map λp=>Value.ref p.1)=(rs.map λp=>Value.ref p.1)/\(∀p∈ts,Ls s.heap p.1 p.2)/\Vals (rs.map (·.2)).flatten (ts.map (·.2)).flatten
 |[],_=>⟨[],rfl,(λ_ h=>by cases h),(show Vals [] []from Paired.nil)⟩
 |p::rs,h=>by
  obtain⟨ts,e,hl,hv⟩:=PJ I λq hq=>h q (Qo _ hq)
  obtain⟨its,rv,⟨⟨c1,d1,t1,sl⟩,n,e1,ec,ed,et⟩,z⟩:=I.list (h p (Ql ..));simp only at ec ed et;subst ec ed et;refine⟨(p.1,its)::ts,by rw[QG,QG,e],λq hq=>?_,?_⟩
  .rcases Qu.1 hq with rfl|hq
   .exact⟨n,sl,e1⟩
   .exact hl q hq
  .rw[QG,QG,QO,QO]
   exact rv.append hv
theorem Nk:∀{as:Ct}{us:Cq},Vals (as.map V.ref) us->us=as.map Value.ref
 |[],_,.nil=>rfl
 |a::as,_,.cons h t=>by cases h;rw[Nk t];rfl
theorem Ea(hc:X.calm=Cm):Zo X (.builtin "sum") (λxs H Q=>∃l z,∃rs:List (JV×List V),xs=[.ref l,.ref z]/\SqL X.K H l (rs.map λp=>V.ref p.1)/\(∀p∈rs,SqL X.K H p.1 p.2)/\SqL X.K H z []/\(rs.map (·.2)).flatten.length<=JY /\
  (rs=[]->Q (.ref z) H)/\∀p,H p=Ck->Q (.ref p) (upd H p (.lst (rs.map (·.2)).flatten))):=by
 intro pins s σ H xs us Q I rx h;obtain⟨l,z,rs,rfl,hq,hr,hz,hb,q0,q⟩:=h;obtain⟨u,u',rfl,ru,ru'⟩:=Se rx;cases ru;cases ru';obtain⟨its,rv,pl, -⟩:=I.list hq;obtain⟨ts,e,hl,hv⟩:=PJ I hr;have ei:its=ts.map λp=>Value.ref p.1:=by rw[e];have:=Nk (as:=rs.map (·.1)) (us:=its) (by rw[Jc];exact rv);rw[this,Jc];rfl
 subst ei;obtain⟨zi,rz,⟨⟨c1,d1,t1,sl⟩,n,e1,ec,ed,et⟩, -⟩:=I.list hz;cases rz;simp only at ec ed et;subst ec ed et;have hlen:=hv.length;refine Dl (I.ok.hd hc) pl.isList hl ⟨n,sl,e1⟩ (by omega) λp h' tk C4 hk hp hq=>?_
 rcases hq with ⟨rfl,rfl⟩|⟨Bl,rfl⟩
 .have hr0:rs=[]:=by
   cases rs with
   |nil=>rfl
   |cons a b=>cases e
  exact⟨.ref _,H,I.kept hk,rfl,q0 hr0⟩
 .obtain⟨m,ep⟩:=hp
  exact⟨.ref p,_,I.laid (t':=tk) hk Bl (show KM X.prog X.w _ h' _ (.lst _)from⟨hb,_,m,hv,ep⟩),rfl,q p (I.hok.fresh Bl)⟩
def Y0:Co->Option (List Co)
 |[]=>Ci []
 |.list xs::r=>(Y0 r).map (xs :: ·)
 |_=>Ck
theorem NJ{K:Frag}{G:Hp}:∀{vs:List V}{ds:Co}{ls:List Co},Reps K G vs ds->Y0 ds=Ci ls ->
  ∃rs:List (JV×List V),vs=(rs.map λp=>V.ref p.1)/\(∀p∈rs,SqL K G p.1 p.2)/\Reps K G (rs.map (·.2)).flatten ls.flatten/\rs.length=ls.length
 |_,_,ls,.nil,e=>by cases e;exact⟨[],rfl,(λ_ h=>by cases h),.nil,rfl⟩
 |_,_,ls,.cons (d:=d) r t,e=>by
  cases d with
  |list xs=>
   unfold Y0 at e;cases z:Y0 _ with
   |none=>rw[z]at e;cases e
   |some cs=>
    rw[z]at e;cases e;obtain⟨rs,rfl,h1,h2,h3⟩:=NJ t z;obtain⟨a,ws,rfl,h,rr⟩:=r.lst_inv;refine⟨(a,ws)::rs,rfl,λp hp=>?_,?_,JQ (· + 1) h3⟩
    .rcases Qu.1 hp with rfl|hp
     .exact h
     .exact h1 p hp
    .rw[QG,QO,QO]
     exact rr.append h2
  |_=>cases e
theorem Dk(ls:List Co):Y0 (ls.map J7)=Ci ls:=by
 induction ls with
 |nil=>rfl
 |cons b r ih=>rw[QG,Y0,ih];rfl
def WL:Co->Cs
 |[.list ds,.list []]=>(match Y0 ds with
  |some ls=>if ls.flatten.length<=1000000 then Ci (.list ls.flatten)else Ck
  |none=>Ck)
 |_=>Ck
theorem F9{xs:Co}{d:D}(h:WL xs=Ci d):∃ds ls,xs=[.list ds,.list []]/\Y0 ds=Ci ls/\ls.flatten.length<=1000000/\d=.list ls.flatten:=by
 unfold WL at h;split at h
 .rename_i ds
  cases z:Y0 ds with
  |none=>rw[z]at h;cases h
  |some ls=>
   rw[z]at h;dsimp only at h;split at h
   .rename_i c
    cases h;exact⟨ds,ls,rfl,z,c,rfl⟩
   .cases h
 .cases h
theorem MQ(hc:X.calm=Cm):ZB X (.builtin "sum") WL:=by
 refine⟨_,Ea hc,λvs G H ds d Q s r e k=>?_⟩;obtain⟨ds,ls,rfl,z,c,rfl⟩:=F9 e;obtain⟨v,v',rfl,q1,q2⟩:=r.two_inv;obtain⟨l,ws,rfl,h1,r1⟩:=q1.lst_inv;obtain⟨a,ws2,rfl,h2,r2⟩:=q2.lst_inv;have:=r2.nil_inv;subst this;obtain⟨rs,rfl,g1,g2,g3⟩:=NJ r1 z;refine⟨l,a,rs,rfl,s.seq h1,λp hp=>s.seq (g1 p hp),s.seq h2,?_,λe0=>?_,λp hp=>?_⟩
 .rw[g2.length];exact QJ c lim
 .subst e0
  have:ls=[]:=List.eq_nil_of_length_eq_zero g3.symm;subst this;exact k _ G H (.refl s) (.lst h2 .nil)
 .exact k _ _ _ (.new s hp) (.lst (SqL.of Kk) (g2.mono (KD (s.free hp))))
end
section
variable{X:Cx}
def Ze(ns:Cp):Cp:=ns.mergeSort λa b=>decide (a<=b)
theorem Yu(ns:Cp):(Ze ns).Perm ns:=List.mergeSort_perm ..
theorem F8(ns:Cp):(Ze ns).Pairwise (· <= ·):=by have:=List.pairwise_mergeSort (le:=λa b:Int=>decide (a<=b)) (by intro a b c;simp;omega) (by intro a b;simp;omega) ns;exact this.imp (by simp)
theorem P3:∀{a b:Cp},a.Perm b->a.Pairwise (· <= ·)->b.Pairwise (· <= ·)->a=b
 |[],b,p,_,_=>by rw[List.nil_perm.1 p]
 |x::a,[],p,_,_=>by have:=p.length_eq;simp at this
 |x::a,y::b,p,ha,hb=>by
  have hx:y<=x:=by
   rcases Qu.1 (p.mem_iff.1 (Ql ..))with e|e
   .exact Int.le_of_eq e.symm
   .exact(Jg.1 hb).1 x e
  have hy:x<=y:=by
   rcases Qu.1 (p.mem_iff.2 (Ql ..))with e|e
   .exact Int.le_of_eq e.symm
   .exact(Jg.1 ha).1 y e
  have e:=Int.le_antisymm hy hx;subst e;rw[P3 (List.Perm.cons_inv p) (Jg.1 ha).2 (Jg.1 hb).2]
theorem Nj:∀{us:Cq}{ns:Cp},PyProof.Rows.IntsAre us ns->Vals (ns.map V.int) us
 |_,_,.nil=>Paired.nil
 |_,_,.cons n t h=>Paired.cons ⟨t,rfl⟩ (Nj h)
theorem Dj:Zo X (.builtin "sorted") (λxs H Q=>∃l,∃ns:Cp,xs=[.ref l]/\SqL X.K H l (ns.map V.int)/\ns.length<64/\∀p,H p=Ck->Q (.ref p) (upd H p (.lst ((Ze ns).map V.int)))):=by
 intro pins s σ H xs us Q I rx h;obtain⟨l,ns,rfl,hq,hb,q⟩:=h;obtain⟨u,rfl,ru⟩:=rx.one;cases ru;obtain⟨its,rv,p,hz⟩:=I.list hq;have hi:=W6 rv;have hn:its.length=ns.length:=by have:=rv.length;rw[Qd]at this;omega
 refine sorted_ints p.isList hi (by omega) λout ns' a1 a2 a3=>?_
 obtain⟨e,he⟩:=sortedAll_at s.heap its out;have en:ns'=Ze ns:=P3 (a2.trans (Yu ns).symm) a3 (F8 ns);subst en;refine⟨.ref (s.heap.objs.size+1),_,I.laid (t':=s.toks) (λb o=>sortedAll_old) (JE _) (show KM X.prog X.w _ _ _ (.lst ((Ze ns).map V.int))from⟨?_,out.toList,e,Nj a1,he⟩),rfl,q _ (I.hok.fresh (JE _))⟩;rw[Qd,(Yu ns).length_eq];rw[Qd]at hz;exact hz
def WM:Co->Cs
 |[.list ds]=>(match Yg ds with
  |some ns=>if ns.length<64 then Ci (.list ((Ze ns).map .int))else Ck
  |none=>Ck)
 |_=>Ck
theorem EV{xs:Co}{d:D}(h:WM xs=Ci d):∃ds ns,xs=[.list ds]/\Yg ds=Ci ns/\ns.length<64/\d=.list ((Ze ns).map .int):=by
 unfold WM at h;split at h
 .rename_i ds
  cases z:Yg ds with
  |none=>rw[z]at h;cases h
  |some ns=>
   rw[z]at h;dsimp only at h;split at h
   .rename_i c
    cases h;exact⟨ds,ns,rfl,z,c,rfl⟩
   .cases h
 .cases h
theorem Ni{K:Frag}{G:Hp}:∀ns:Cp,Reps K G (ns.map V.int) (ns.map int)
 |[]=>.nil
 |n::r=>.cons (.int n) (Ni r)
theorem Gm:ZB X (.builtin "sorted") WM:=by refine⟨_,Dj,λvs G H ds d Q s r e k=>?_⟩;obtain⟨ds,ns,rfl,z,c,rfl⟩:=EV e;obtain⟨v,rfl,q1⟩:=r.one_inv;obtain⟨l,ws,rfl,h1,r1⟩:=q1.lst_inv;have:=RL r1 z;subst this;exact⟨l,ns,rfl,s.seq h1,c,λp hp=>k _ _ _ (.new s hp) (.lst (SqL.of Kk) (Ni _))⟩
theorem Ey{ns:Cp}(h:ns.length<64):WM [.list (ns.map .int)]=Ci (.list ((Ze ns).map .int)):=by unfold WM;simp only[Np,Qs h]
end
@[simp] theorem mBind_ok{α β:Type}{f:M α}{k:α->M β}{Z Z':Ul}{x:α}(h:f Z=.ok x Z'):UD f k Z=k x Z':=by unfold UD;rw[h]
theorem Nh{s:D->Ul->Cv}{g:SM}{P:Nat->Ul->Prop}{R:Out->Prop}:∀(ds:Co)(n:Nat)(Z:Ul),P n Z ->
  (∀i d Z,ds[i]?=Ci d->P (n+i) Z->∃Z1,s d Z=Ci Z1/\((∃Z2,(g Z1=.nx Z2∨g Z1=.ct Z2)/\P (n+i+1) Z2)∨(∃x,g Z1=.rt x/\R (.rt x))∨(∃Z2,g Z1=.bk Z2/\R (.nx Z2))∨(∃Z2 x,g Z1=.ex Z2 x/\R (.ex Z2 x)) ∨ ∃x,g Z1=.ro x/\R (.ro x)))->(∀Z,P (n+ds.length) Z->R (.nx Z))->R (Xu s g ds Z)
 |[],n,Z,h,_,f=>f Z h
 |d::r,n,Z,h,st,f=>by
  obtain⟨Z1,e1,e2⟩:=st 0 d Z Cj h;rw[Xu,e1];dsimp only;rcases e2 with ⟨Z2,e2,h2⟩|⟨x,e2,h2⟩|⟨Z2,e2,h2⟩|⟨Z2,x,e2,h2⟩|⟨x,e2,h2⟩
  .have goal:=Nh (R:=R) r (n+1) Z2 h2 (λi d' Z3 q p=>by
    have e:n+1+i=n+(i+1):=by omega
    rw[e]at p⊢;exact st (i+1) d' Z3 (by simpa using q) p) (λZ3 p=>f Z3 (by
    have e:n+1+r.length=n+(d::r).length:=by rw[QI];omega
    rw[e]at p;exact p))
   rcases e2 with e2|e2<;>(rw[e2];exact goal)
  .rw[e2];exact h2
  .rw[e2];exact h2
  .rw[e2];exact h2
  .rw[e2];exact h2
theorem XH{lo hi:Int}{i:Nat}{d:D}(h:(K0 lo hi)[i]?=Ci d):d=.int (lo+i)/\(i:Int)<hi-lo:=by have hl:i<(K0 lo hi).length:=(Qm.mp h).1;rw[Yv]at hl;unfold K0 at h;rw[Qg,Qe (by rw[Jr];exact hl),List.getElem_range]at h;cases h;exact⟨rfl,by omega⟩
theorem MP{α:Type}{xs:List α}{i:Int}{v:α}(h0:0<=i)(h:xs[i.toNat]?=Ci v):atI xs i=Ci v:=by have:=Kh (xs:=xs) (j:=i.toNat) h;rw[Int.toNat_of_nonneg h0]at this;exact this
section
variable{α β:Type}{Z Z1 Z2 Z3 Z':Ul}{f g h:M D}
theorem Uu{a:α}:Uq a Z=.ok a Z:=rfl
theorem Uy:Um Z=.ok [] Z:=rfl
theorem K8{o:Option α}{a:α}(h:o=Ci a):Ux o Z=.ok a Z:=by subst h;rfl
theorem Kb{f:M α}{k:α->M β}{x:α}{r:Res β}(h:f Z=.ok x Z1)(h2:k x Z1=r):UD f k Z=r:=by unfold UD;rw[h];exact h2
theorem Kw{f:M α}{k:α->β}{x:α}(h:f Z=.ok x Z1):UA k f Z=.ok (k x) Z1:=by unfold UA UD;rw[h];rfl
theorem Ur{i:Nat}{d:D}(h:Z[i]?=Ci (Ci (.pub d))):Uk i Z=.ok d Z:=by unfold Uk;rw[h]
theorem VD{i:Nat}{ds:Co}(h:Z[i]?=Ci (Ci (.own ds)))(h2:Z.set i (Ci (.pub (.list ds)))=Z'):Uk i Z=.ok (.list ds) Z':=by unfold Uk;rw[h];subst h2;rfl
theorem UB{op:D->D->Option β}{x y:D}{r:β}(h1:f Z=.ok x Z1)(h2:g Z1=.ok y Z2)(h3:op x y=Ci r):Uo op f g Z=.ok r Z2:=by unfold Uo;exact Kb h1 (Kb h2 (K8 h3))
theorem Us{g:M Co}{x:D}{xs:Co}(h1:f Z=.ok x Z1)(h2:g Z1=.ok xs Z2):Up f g Z=.ok (x::xs) Z2:=by unfold Up;exact Kb h1 (Kb h2 Cj)
theorem K7{g:M Co}{xs:Co}(h1:g Z=.ok xs Z1)(h2:xs.length<=1000000):U3 g Z=.ok (.tuple xs) Z1:=by unfold U3;exact Kb h1 (by rw[Qs h2];rfl)
theorem Kv{g:M Co}{xs:Co}(h1:g Z=.ok xs Z1)(h2:xs.length<=1000000):UJ g Z=.ok (.list xs) Z1:=by unfold UJ;exact Kb h1 (by rw[Qs h2];rfl)
theorem X6{g:M Co}{xs:Co}(h1:g Z=.ok xs Z1)(h2:xs.length<=1000000):(UD g λxs=>if xs.length<=1000000 then Uq xs else λ_=>.bad) Z=.ok xs Z1:=
 Kb h1 (by rw[Qs h2];rfl)
theorem U1{i:Nat}{d y r:D}(h:Z[i]?=Ci (Ci (.pub d)))(h1:g Z=.ok y Z1)(h2:oIx d y=Ci r):Uz i g Z=.ok r Z1:=by unfold Uz;rw[h];exact Kb h1 (K8 h2)
theorem Pd{i:Nat}{ds es:Co}{y r:D}(h:Z[i]?=Ci (Ci (.own ds)))(h1:g Z=.ok y Z1)(h3:Z1[i]?=Ci (Ci (.own es)))(h2:oIx (.list es) y=Ci r):Uz i g Z=.ok r Z1:=by unfold Uz;rw[h];exact Kb h1 (by rw[h3];exact K8 h2)
theorem ZJ{p:Co->Cs}{g:M Co}{xs:Co}{r:D}(h1:g Z=.ok xs Z1)(h2:p xs=Ci r):Za p g Z=.ok r Z1:=by unfold Za;exact Kb h1 (K8 h2)
theorem Kf{n:Nat}{F:Co->Cs}{g:M Co}{xs:Co}{r:D}(h1:g Z=.ok xs Z1)(h2:xs.length=n)(h3:F xs=Ci r):UF n F g Z=.ok r Z1:=by unfold UF;exact Kb h1 (by rw[Qs h2];exact K8 h3)
theorem XA{i:Int}(h1:f Z=.ok (.int i) Z1):KU f Z=.ok (.int (-i)) Z1:=by unfold KU;exact Kb h1 Cj
theorem Km{i:Nat}{d r:D}(h:Z[i]?=Ci (Ci (.pub d)))(h2:UU [d]=Ci r):Kn i Z=.ok r Z:=by unfold Kn;rw[h];exact K8 h2
theorem P2{i:Nat}{ds:Co}(h:Z[i]?=Ci (Ci (.own ds))):Kn i Z=.ok (.int ds.length) Z:=by unfold Kn;rw[h]
theorem WZ{g:M Co}{i:Int}{r:Co}(h1:g Z=.ok [.int i] Z1)(h2:WJ [.int i]=Ci r):YY g Z=.ok r Z1:=by unfold YY;exact Kb h1 (K8 h2)
theorem SE{g:M Co}{i j:Int}{r:Co}(h1:g Z=.ok [.int i,.int j] Z1)(h2:WI [.int i,.int j]=Ci r):WH g Z=.ok r Z1:=by unfold WH;exact Kb h1 (K8 h2)
theorem VC{g:M Co}{xs r:Co}(h1:g Z=.ok xs Z1)(h2:Vj xs=Ci r):YM g Z=.ok r Z1:=by unfold YM;exact Kb h1 (K8 h2)
theorem Yj{i:Int}(h1:f Z=.ok (.int i) Z1):(UD f λx=>Ux (KB x)) Z=.ok (Ci i) Z1:=Kb h1 Cj
theorem ZW{f:M Bool}{t:Bool}(h1:f Z=.ok t Z1):UP f Z=.ok (!t) Z1:=Kw h1
theorem Yi{t:Bool}(h1:f Z=.ok (.bool t) Z1):KG f Z=.ok t Z1:=by unfold KG;exact Kb h1 Cj
theorem V5{f g:M Bool}{t u:Bool}(h1:f Z=.ok t Z)(h2:t=Cm->g Z=.ok u Z):K5 f g Z=.ok (t&&u) Z:=by
 unfold K5;refine Kb h1 ?_;cases t with
 |true=>rw[Qs Cj];exact h2 Cj
 |false=>rfl
theorem WG{f g:M Bool}{t u:Bool}(h1:f Z=.ok t Z)(h2:t=Cn->g Z=.ok u Z):mOr f g Z=.ok (t || u) Z:=by
 unfold mOr;refine Kb h1 ?_;cases t with
 |false=>rw[QM (by decide)];exact h2 Cj
 |true=>rfl
theorem XB{t u:Bool}(h1:f Z=.ok (.bool t) Z)(h2:t=Cm->g Z=.ok (.bool u) Z):Xv f g Z=.ok (.bool (t&&u)) Z:=by
 unfold Xv;refine Kb h1 ?_;cases t with
 |true=>exact h2 Cj
 |false=>rfl
theorem Sq{t u:Bool}(h1:f Z=.ok (.bool t) Z)(h2:t=Cn->g Z=.ok (.bool u) Z):YA f g Z=.ok (.bool (t || u)) Z:=by
 unfold YA;refine Kb h1 ?_;cases t with
 |false=>exact h2 Cj
 |true=>rfl
theorem Gk{t:Bool}(h1:f Z=.ok (.bool t) Z1):Vh f Z=.ok (.bool (!t)) Z1:=by unfold Vh;exact Kb h1 Cj
theorem Tw{p q:D->D->Cy}{x y z:D}{t u:Bool}(h1:f Z=.ok x Z)(h2:g Z=.ok y Z)(h3:p x y=Ci t)(h4:t=Cm->h Z=.ok z Z)(h5:t=Cm->q y z=Ci u):XY p q f g h Z=.ok (t&&u) Z:=by
 unfold XY;refine Kb h1 (Kb h2 (Kb (K8 h3) ?_));cases t with
 |true=>rw[Qs Cj];exact Kb (h4 Cj) (K8 (h5 Cj))
 |false=>rfl
theorem K2{i j:Int}:UC (.int i) (.int j)=Ci (.int (i+j)):=rfl
theorem ZY{x y:Co}(h:x.length+y.length<=1000000):UC (.list x) (.list y)=Ci (.list (x++y)):=by unfold UC;exact Qs h
theorem WY{i j:Int}:Zh (.int i) (.int j)=Ci (.int (i-j)):=rfl
theorem YT{i j:Int}(h1 : -18446744073709551616<i)(h2:i<18446744073709551616):UN (.int i) (.int j)=Ci (.int (i*j)):=by unfold UN YB;exact Qs (.inl ⟨by omega,by omega⟩)
theorem Tv{i j:Int}(h1 : -18446744073709551616<j)(h2:j<18446744073709551616):UN (.int i) (.int j)=Ci (.int (i*j)):=by unfold UN YB;exact Qs (.inr ⟨by omega,by omega⟩)
theorem Rv{x:Co}{k:Int}(h : -1000000<=k/\k<=1000000/\x.length*k.toNat<=1000000):UN (.list x) (.int k)=Ci (.list (J6 k.toNat x).flatten):=by unfold UN;exact Qs h
theorem ZD{i j:Int}(h:0<j):Kd (.int i) (.int j)=Ci (.int (i % j)):=by unfold Kd Xf;exact Qs h
theorem Tl{i j:Int}(h:0<j)(h2:j<18446744073709551616):ZO (.int i) (.int j)=Ci (.int (i / j)):=by unfold ZO Xg;exact Qs ⟨h,h2⟩
theorem Gj{i j:Int}(h:0<=j/\j<=1000000/\i.natAbs<2 ^ 64):Yz (.int i) (.int j)=Ci (.int (i ^ j.toNat)):=by unfold Yz Xe;exact Qs h
theorem YS{p:Int->Int->Bool}{i j:Int}:oIB p (.int i) (.int j)=Ci (p i j):=rfl
theorem Tk{i j:Int}:oEq (.int i) (.int j)=Ci (decide (i=j)):=by unfold oEq;rw[if_pos ⟨rfl,rfl,by simp[Uc]⟩];congr 1
theorem Zc{xs:Co}:UU [.list xs]=Ci (.int xs.length):=rfl
theorem XJ{xs:Co}:UU [.tuple xs]=Ci (.int xs.length):=rfl
theorem Gi{i j:Int}:VS [.int i,.int j]=Ci (.int (if j > i then j else i)):=rfl
theorem W5{j:Int}(h1:j<=1000000)(h2 : -1000000<=j):WJ [.int j]=Ci (K0 0 j):=by unfold WJ;exact Qs ⟨h1,h2⟩
theorem Rs{i j:Int}(h1:j<=1000000)(h2 : -1000000<=j)(h3:i<=1000000)(h4 : -1000000<=i):WI [.int i,.int j]=Ci (K0 i j):=by unfold WI;exact Qs ⟨h1,h2,h3,h4⟩
theorem VI{xs:Co}:Vj [.list xs]=Ci (Zl 0 xs):=rfl
theorem KF{i:Nat}{d:D}(h1:f Z=.ok d Z1)(h2:i<Z1.length)(h3:Z1.set i (Ci (.pub d))=Z'):UM i f Z=.nx Z':=by unfold UM Zg sB gN;rw[h1];dsimp only;rw[if_pos h2];subst h3;rfl
theorem Zr{i:Nat}{f:M Co}{ds:Co}(h1:f Z=.ok ds Z1)(h2:i<Z1.length)(h3:Z1.set i (Ci (.own ds))=Z'):Ku i f Z=.nx Z':=by unfold Ku sB;rw[h1];dsimp only;rw[if_pos h2];subst h3;rfl
theorem XX{i:Nat}{d:D}{BP ds:Co}(h0:Z[i]?=Ci (Ci (.own BP)))(h1:f Z=.ok d Z1)(h2:Z1[i]?=Ci (Ci (.own ds)))(h3:ds.length<1000000)(h4:Z1.set i (Ci (.own (ds++[d])))=Z'):K4 i f Z=.nx Z':=by unfold K4 sB;rw[h0];dsimp only;rw[h1];dsimp only;rw[h2];dsimp only;rw[if_pos h3];subst h4;rfl
theorem V4{d:D}{s:D->Ul->Cv}(h1:f Z=.ok d Z1)(h2:s d Z1=Ci Z'):Zg f s Z=.nx Z':=by unfold Zg sB;rw[h1];dsimp only;rw[h2]
theorem SD{d:D}(h1:f Z=.ok d Z1):WK f Z=.nx Z1:=by unfold WK sB;rw[h1]
theorem UG{i:Nat}{d:D}(h:i<Z.length)(h2:Z.set i (Ci (.pub d))=Z'):gN i d Z=Ci Z':=by unfold gN;rw[Qs h,h2]
theorem KR:gN0 [] Z=Ci Z:=rfl
theorem U6{s:D->Ul->Cv}{t:Co->Ul->Cv}{d:D}{r:Co}(h1:s d Z=Ci Z1)(h2:t r Z1=Ci Z'):gNC s t (d::r) Z=Ci Z':=by unfold gNC;dsimp only;rw[h1];exact h2
theorem KQ{n:Nat}{t:Co->Ul->Cv}{ds:Co}(h1:ds.length=n)(h2:t ds Z=Ci Z'):gT n t (.tuple ds) Z=Ci Z':=by unfold gT;dsimp only;rw[if_pos h1];exact h2
structure Ho(g:SM)(Z:Ul)(Q:Out->Prop):Prop where
 out:Q (g Z)
def Mb(h:SM)(Q:Out->Prop):Out->Prop
 |.nx Z'=>Ho h Z' Q
 |o=>Q o
structure Sa(h:SM)(Q:Out->Prop)(o:Out):Prop where
 out:Mb h Q o
variable{Q:Out->Prop}{s t u:SM}
theorem Kl(h:Ho s Z (Sa t Q)):Ho (Ut s t) Z Q:=by
 have h:=h.out.out;constructor;unfold Ut;cases e:s Z with
 |nx o=>rw[e]at h;exact h.out
 |_=>rw[e]at h;exact h
theorem UO(h1:s Z=.nx Z1)(h2:Ho t Z1 Q):Ho (Ut s t) Z Q:=by
 constructor;unfold Ut;rw[h1];exact h2.out
theorem YV{o:Out}(h1:s Z=o)(h2:Q o):Ho s Z Q:=by constructor;rw[h1];exact h2
theorem Kt(h:Q (.nx Z)):Ho sNx Z Q:=⟨h⟩
theorem Kp{o:Ul}(h:Ho t o Q):Sa t Q (.nx o):=⟨h⟩
theorem Ki{d:D}(h:Q (.rt d)):Sa t Q (.rt d):=⟨h⟩
theorem U5{f:M Bool}{b:Bool}(h1:f Z=.ok b Z1)(h2:b=Cm->Ho s Z1 Q)(h3:b=Cn->Ho t Z1 Q):Ho (sIf f s t) Z Q:=by
 constructor;unfold sIf sB;rw[h1];dsimp only
 cases b with
 |true=>rw[Qs Cj];exact(h2 Cj).out
 |false=>rw[QM (by decide)];exact(h3 Cj).out
theorem UX{d:D}(h1:f Z=.ok d Z1)(h2:Q (.rt d)):Ho (UH f) Z Q:=by constructor;unfold UH sB;rw[h1];exact h2
theorem Gh{P:Out->Prop}(h:Ho s Z P)(k:∀o,P o->Q o):Ho s Z Q:=⟨k _ h.out⟩
def Ma(I:Ul->Prop)(Q:Out->Prop):Out->Prop
 |.nx Z | .ct Z=>I Z
 |.bk Z=>Q (.nx Z)
 |.rt d=>Q (.rt d)
 |.ex Z d=>Q (.ex Z d)
 |.ro ds=>Q (.ro ds)
 |.bad=>False
structure XQ(I:Ul->Prop)(Q:Out->Prop)(o:Out):Prop where
 out:Ma I Q o
theorem ZI{I:Ul->Prop}(h:I Z):XQ I Q (.nx Z):=⟨h⟩
theorem Yh{I:Ul->Prop}{d:D}(h:Q (.rt d)):XQ I Q (.rt d):=⟨h⟩
theorem Ye{f:M Co}{tg:D->Ul->Cv}{ds:Co}(I:Nat->Ul->Prop)(h1:f Z=.ok ds Z1)(h0:I 0 Z1)
  (hst:∀i d Z,ds[i]?=Ci d->I i Z->∃Z2,tg d Z=Ci Z2/\Ho s Z2 (XQ (I (i+1)) Q)) (hend:∀Z,I ds.length Z->Q (.nx Z)):Ho (Ks f tg s) Z Q:=by
 constructor;unfold Ks sB;rw[h1];dsimp only
 refine Nh (P:=I) (R:=Q) ds 0 Z1 h0 (λi d Z e p=>?_) (λZ p=>hend Z (by rw[JJ]at p;exact p));rw[JJ]at p;obtain⟨Z2,e2,q⟩:=hst i d Z e p;refine⟨Z2,e2,?_⟩;rw[JJ];have q:=q.out.out;cases z:s Z2 with
 |nx o=>rw[z]at q;exact .inl ⟨o,.inl Cj,q⟩
 |ct o=>rw[z]at q;exact .inl ⟨o,.inr Cj,q⟩
 |rt o=>rw[z]at q;exact .inr (.inl ⟨o,rfl,q⟩)
 |bk o=>rw[z]at q;exact .inr (.inr (.inl ⟨o,rfl,q⟩))
 |ex o x=>rw[z]at q;exact .inr (.inr (.inr (.inl ⟨o,x,rfl,q⟩)))
 |ro o=>rw[z]at q;exact .inr (.inr (.inr (.inr ⟨o,rfl,q⟩)))
 |bad=>rw[z]at q;exact q.elim
theorem WW{N:List Str}{ds:Co}{P:D->Prop}(h0:KJ N ds=Z)(h:Ho s Z λo=>∃d,o=.rt d/\P d):∃d,UT N s ds=Ci d/\P d:=by subst h0;obtain⟨d,e,p⟩:=h.out;refine⟨d,?_,p⟩;unfold UT;rw[e]
theorem ZL{N:List Str}{ds:Co}{d:D}(h0:KJ N ds=Z)(h:Ho s Z λo=>o=.rt d):UT N s ds=Ci d:=by obtain⟨d',e,p⟩:=WW (P:=λx=>x=d) h0 (Gh h λo e=>⟨d,e,rfl⟩);rw[e,p]
end
section
variable{α β:Type}{Z Z1 Z2 Z3 Z':Ul}{f g h:M D}
theorem XV{l u:M Cu}{x r:D}{a b:Cu}(h1:f Z=.ok x Z1)(h2:l Z1=.ok a Z2)(h3:u Z2=.ok b Z3)(h4:Xa x a b=Ci r):U4 f l u Z=.ok r Z3:=by unfold U4;exact Kb h1 (Kb h2 (Kb h3 (K8 h4)))
theorem ZV{f g:M Bool}(h1:f Z=.ok Cm Z1):mOr f g Z=.ok Cm Z1:=by unfold mOr;exact Kb h1 Cj
theorem KL{f g:M Bool}{u:Bool}(h1:f Z=.ok Cn Z1)(h2:g Z1=.ok u Z2):mOr f g Z=.ok u Z2:=by unfold mOr;exact Kb h1 (by rw[QM (by decide)];exact h2)
theorem K3{c:String}{d:D}{t:Bool}(h:f Z=.ok d Z1)(ht:(!UR d c)=t):UP (KG (UA (λd=>.bool (UR d c)) f)) Z=.ok t Z1:=by subst ht;exact ZW (Yi (Kw (k:=λd=>J8 (UR d c)) h))
theorem ZX{x:D}{r:Co}(h1:f Z=.ok x Z1)(h2:SF x=Ci r):KZ f Z=.ok r Z1:=by unfold KZ;exact Kb h1 (K8 h2)
theorem Zb{p:D->D->Option β}{i:Nat}{d y:D}{r:β}(h:Z[i]?=Ci (Ci (.pub d)))(h1:g Z=.ok y Z1)(h2:p d y=Ci r):Kz p i g Z=.ok r Z1:=by unfold Kz;rw[h];exact Kb h1 (K8 h2)
theorem Rr{p:D->D->Option β}{i:Nat}{ds es:Co}{y:D}{r:β}(h:Z[i]?=Ci (Ci (.own ds)))(h1:g Z=.ok y Z1)(h3:Z1[i]?=Ci (Ci (.own es)))(h2:p (.list es) y=Ci r):Kz p i g Z=.ok r Z1:=by unfold Kz;rw[h];exact Kb h1 (by rw[h3];exact K8 h2)
theorem Yp{f:M Co}{k:Nat}{s:D->Ul->Cv}{t:M Bool}{ds es:Co}(h1:f Z=.ok ds Z1)(h2:Ke s t g ds (UL Z1++J6 k Ck) []=Ci es):ZA f k s t g Z=.ok es Z1:=by unfold ZA;rw[h1];dsimp only;rw[h2]
theorem Y4{s:D->Ul->Cv}{t:M Bool}(p:D->Bool)(q:D->D)(I:Ul->Prop):∀(ds:Co)(Z:Ul)(es:Co),(∀d∈ds,∀Z,I Z->∃Z1,s d Z=Ci Z1/\t Z1=.ok (p d) Z1/\(p d=Cm->g Z1=.ok (q d) Z1)/\I (UL Z1))->I Z->es.length+ds.length<=1000000 ->
  Ke s t g ds Z es=Ci (es++(ds.filter p).map q)
 |[],Z,es,_,_,_=>by rw[Ke];simp
 |d::r,Z,es,st,h0,hz=>by
  obtain⟨Z1,e1,e2,e3,h1⟩:=st d Ql Z h0;have ih:=λes' hz'=>Y4 p q I r (UL Z1) es' (λd' hd=>st d' (Qo _ hd)) h1 hz';rw[QI]at hz;rw[Ke,e1];dsimp only;rw[e2];dsimp only
  cases hp:p d with
  |true=>rw[Qs Cj,e3 hp];dsimp only;rw[Qs (by omega),ih _ (by rw[Qj,QN];omega),List.filter_cons_of_pos hp,QG,Jx];rfl
  |false=>rw[QM (by decide),ih _ (by omega),List.filter_cons_of_neg (by rw[hp];decide)]
theorem P1{j:Nat}{d:D}{k:Int}{BP ds:Co}(h1:f Z=.ok d Z1)(h0:Z1[j]?=Ci (Ci (.own BP)))(h2:g Z1=.ok (.int k) Z2)(h3:Z2[j]?=Ci (Ci (.own ds)))(h4:0<=k/\k<ds.length)(h5:Z2.set j (Ci (.own (ds.set k.toNat d)))=Z'):Vb j g f Z=.nx Z':=by unfold Vb sB;rw[h1];dsimp only;rw[h0];dsimp only;rw[h2];dsimp only;rw[h3];dsimp only;rw[if_pos h4];subst h5;rfl
theorem X9{xs:Co}{a b:Cu}:Xa (.list xs) a b=Ci (.list (DL.cutD xs a b)):=rfl
theorem Y7{xs:Co}:SF (.list xs)=Ci xs:=rfl
theorem Du(bs:List Bool):XF (bs.map J8)=Ci bs:=by
 induction bs with
 |nil=>rfl
 |cons b r ih=>rw[QG,XF,ih];rfl
theorem P0{bs:List Bool}:Zi [.list (bs.map J8)]=Ci (.bool (bs.all id)):=by unfold Zi;dsimp only;rw[Du];rfl
end
section
variable{α β:Type}{Z Z1 Z2 Z3 Z4 Z':Ul}{f g h:M D}{s:SM}
theorem Pc{l u t:M Cu}{xs:Co}(h1:f Z=.ok (.list xs) Z1)(h2:l Z1=.ok Ck Z2)(h3:u Z2=.ok Ck Z3)(h4:t Z3=.ok (Ci (-1)) Z4):YC f l u t Z=.ok (.list xs.reverse) Z4:=by unfold YC;exact Kb h1 (Kb h2 (Kb h3 (Kb h4 (K8 (by unfold Xb;exact Qs Cj)))))
theorem F2{i:Nat}{d:D}{ds:Co}(h:Z[i]?=Ci (Ci (.pub d)))(h2:YK [d]=Ci ds):Vt i Z=.ok ds Z:=by unfold Vt;rw[h];exact K8 h2
theorem So{N:List Str}{ds:Co}(h0:KJ N ds=Z)(h:Ho s Z λo=>∃Z',o=.nx Z'):UT N s ds=Ci .none:=by subst h0;obtain⟨Z',e⟩:=h.out;unfold UT;rw[e]
theorem YU{i j:Int}:oNe (.int i) (.int j)=Ci (!decide (i=j)):=by unfold oNe;rw[if_pos ⟨rfl,rfl,by simp[Uc]⟩];congr 1
theorem F1{xs:Cp}{j:Nat}{v:Int}:(xs.map int).set j (.int v)=(xs.set j v).map int:=by rw[List.map_set]
theorem F0{xs:Cp}{a b:Int}(ha:0<=a)(hb:0<=b)(hl:b<=xs.length):DL.cutD (xs.map int) (Ci a) (Ci b)=((xs.drop a.toNat).take (b.toNat-a.toNat)).map int:=by
 unfold DL.cutD HT.sIx;dsimp only;rw[QM (by omega),QM (by omega),Qd,List.map_take,List.map_drop];have e2:min b.toNat xs.length=b.toNat:=by omega
 rw[e2];by_cases hab:a.toNat<=xs.length
 .have e1:min a.toNat xs.length=a.toNat:=by omega
  rw[e1]
 .have e3:b.toNat-a.toNat=0:=by omega
  have e4:b.toNat-min a.toNat xs.length=0:=by omega
  rw[e3,e4,List.take_zero,List.take_zero]
end
section
variable{Z Z1:Ul}
theorem FZ{g:M Co}{xs r:Co}(h1:g Z=.ok xs Z1)(h2:WO xs=Ci r):V6 g Z=.ok r Z1:=by unfold V6;exact Kb h1 (K8 h2)
theorem Ex{xs:Co}:WO [.list xs]=Ci (Zl 1 xs):=rfl
end
section
variable{X:Cx}{B G0:Hp}{e o a b c tg i:JX}{pos p2:Pos}{es rest:Cr}
theorem Dt:bootBuiltins "tuple" = Ci (.type "tuple"):=by decide +kernel
end
end DL
namespace DL
open PySem PySem.Spec PySem.W PyProof.Rows
def UE{α:Type}(lt:Nat->Nat->Bool):KasT α->α
 |.ret a=>a
 |.ask i j k=>UE lt (k (lt i j))
theorem W8{α β:Type}{lt:Nat->Nat->Bool}{f:α->KasT β}:∀t:KasT α,UE lt (t.bind f)=UE lt (f (UE lt t))
 |.ret _=>rfl
 |.ask i j k=>by show UE lt ((k (lt i j)).bind f)=_;rw[W8];rfl
section
variable{key:Nat->Int}{p:Array Nat}
def KA(key:Nat->Int)(p:Array Nat)(i:Nat):Int:=key (p.getD i 0)
def srt(key:Nat->Int)(p:Array Nat)(m:Nat):Prop:=∀i j,i<=j->j<m->KA key p i<=KA key p j
def dsc(key:Nat->Int)(p:Array Nat)(m:Nat):Prop:=∀i j,i<=j->j<m->KA key p j<=KA key p i
abbrev kl(key:Nat->Int)(i j:Nat):Bool:=decide (key i<key j)
theorem Ng{k d i:Nat}(hk:k<p.size)(hd:d<=k):KA key (bubble p k d) i=if i=k-d then KA key p k else if k-d<i/\i<=k then KA key p (i-1)else KA key p i:=by
 unfold KA;simp only[Q7];rw[getElem?_bubble hk d hd]
 repeat' split
 all_goals rfl
theorem Vs{i j k:Nat}(hj:j<=p.size):KA key (kas_rev p i j) k=if i<=k/\k<j then KA key p (i+j-1-k)else KA key p k:=by
 unfold KA kas_rev;simp only[Q7];rw[getElem?_mirror_all hj]
 split<;>rfl
theorem X8{i j:Nat}:(kas_rev p i j).size=p.size:=mirror_size _ _ _ _
theorem Y6{i j:Nat}:(kas_rev p i j).Perm p:=mirror_perm _ _ _ _
theorem Rq:∀(f n:Nat),1<=n->srt key p n->srt key p (UE (kl key) (kas_asc p f n))/\n<=UE (kl key) (kas_asc p f n)/\UE (kl key) (kas_asc p f n)<=n+f /\
  (UE (kl key) (kas_asc p f n)<n+f->KA key p (UE (kl key) (kas_asc p f n))<KA key p (UE (kl key) (kas_asc p f n)-1))
 |0,n,h1,hs=>⟨hs,Qn _,Qn _,λh=>absurd h (Q9 _)⟩
 |f+1,n,h1,hs=>by
  unfold kas_asc UE;cases c:kl key (p.getD n 0) (p.getD (n-1) 0)with
  |true=>dsimp only;rw[Qs Cj];exact⟨hs,Qn _,by show n<=n+(f+1);omega,λ_=>Qa c⟩
  |false=>
   dsimp only;rw[QM (by decide)];have hle:KA key p (n-1)<=KA key p n:=JR.mp (Ju c)
   obtain⟨a1,a2,a3,a4⟩:=Rq f (n+1) (by omega) (λi j hij hj=>by
    by_cases BE:j=n
    .subst BE
     by_cases hin:i=j
     .subst hin;exact Jy _
     .exact Int.le_trans (hs i (j-1) (by omega) (by omega)) hle
    .exact hs i j hij (by omega))
   exact⟨a1,by omega,by omega,λh=>a4 (by omega)⟩
def eqs(key:Nat->Int)(p:Array Nat)(n q:Nat):Prop:=∀i,n-1-q<=i->i<n->KA key p i=KA key p (n-1)
theorem TF:∀(f:Nat)(p:Array Nat)(n q:Nat),1<=n->q+1<=n->n+f<=p.size->dsc key p n->eqs key p n q ->
  let r:=UE (kl key) (kas_desc f p n q)
  r.1.Perm p/\r.1.size=p.size/\dsc key r.1 r.2.1/\eqs key r.1 r.2.1 r.2.2/\r.2.2+1<=r.2.1/\n<=r.2.1/\r.2.1<=n+f
 |0,p,n,q,h1,hq,hz,hd,he=>⟨JO _,rfl,hd,he,hq,Qn _,Qn _⟩
 |f+1,p,n,q,h1,hq,hz,hd,he=>by
  intro r;have hr:r=UE (kl key) (kas_desc (f+1) p n q):=rfl;unfold kas_desc UE at hr;cases c:kl key (p.getD n 0) (p.getD (n-1) 0)with
  |true=>
   rw[c]at hr;(try dsimp only at hr);rw[if_pos Cj]at hr;have hlt:KA key p n<KA key p (n-1):=Qa c
   have ext:∀p':Array Nat,(∀i,KA key p' i=KA key p i)->dsc key p' (n+1)/\eqs key p' (n+1) 0:=λp' hp=>⟨λi j hij hj=>by
     rw[hp,hp];by_cases BE:j=n
     .subst BE
      by_cases hin:i=j
      .subst hin;exact Jy _
      .exact Int.le_trans (Int.le_of_lt hlt) (hd i (j-1) (by omega) (by omega))
     .exact hd i j hij (by omega),λi hi1 hi2=>by
     have:i=n:=by omega
     subst this;rfl⟩
   by_cases hq0:q > 0
   .rw[Qs hq0]at hr
    have same:∀i,KA key (kas_rev p (n-(q+1)) n) i=KA key p i:=λi=>by
     rw[Vs (by omega)];split
     .rw[he _ (by omega) (by omega),he i (by omega) (by omega)]
     .rfl
    obtain⟨d1,e1⟩:=ext _ same;obtain⟨a1,a2,a3,a4,a5,a6,a7⟩:=TF f (kas_rev p (n-(q+1)) n) (n+1) 0 (by omega) (by omega) (by rw[X8];omega) d1 e1;rw[←hr]at a1 a2 a3 a4 a5 a6 a7;exact⟨a1.trans Y6,a2.trans X8,a3,a4,a5,by omega,by omega⟩
   .rw[QM hq0]at hr
    obtain⟨d1,e1⟩:=ext p λ_=>rfl
    obtain⟨a1,a2,a3,a4,a5,a6,a7⟩:=TF f p (n+1) 0 (by omega) (by omega) (by omega) d1 e1;rw[←hr]at a1 a2 a3 a4 a5 a6 a7;exact⟨a1,a2,a3,a4,a5,by omega,by omega⟩
  |false=>
   rw[c]at hr;(try dsimp only at hr);rw[if_neg (by decide)]at hr;unfold UE at hr;have hle:KA key p (n-1)<=KA key p n:=JR.mp (Ju c);cases d:kl key (p.getD (n-1) 0) (p.getD n 0)with
   |true=>rw[d]at hr;(try dsimp only at hr);rw[if_pos Cj]at hr;unfold UE at hr;rw[hr];exact⟨JO _,rfl,hd,he,hq,Qn _,by show n<=n+(f+1);omega⟩
   |false=>
    rw[d]at hr;(try dsimp only at hr);rw[if_neg (by decide)]at hr;have hge:KA key p n<=KA key p (n-1):=JR.mp (Ju d)
    obtain⟨a1,a2,a3,a4,a5,a6,a7⟩:=TF f p (n+1) (q+1) (by omega) (by omega) (by omega) (λi j hij hj=>by
     by_cases BE:j=n
     .subst BE
      by_cases hin:i=j
      .subst hin;exact Jy _
      .exact Int.le_trans hge (hd i (j-1) (by omega) (by omega))
     .exact hd i j hij (by omega)) (λi hi1 hi2=>by
     have e0:KA key p n=KA key p (n-1):=Int.le_antisymm hge hle;show KA key p i=KA key p (n+1-1);rw[Nat.add_sub_cancel,e0];by_cases hin:i=n
     .subst hin;exact e0
     .exact he i (by omega) (by omega))
    rw[←hr]at a1 a2 a3 a4 a5 a6 a7;exact⟨a1,a2,a3,a4,a5,by omega,by omega⟩
theorem NC{n nrem:Nat}(h1:1<=n)(hn:n<=nrem)(hz:nrem<=p.size)(hd:dsc key p n) :
  let r:=UE (kl key) (kas_tail3 n nrem p)
  r.2.Perm p/\r.2.size=p.size/\srt key r.2 r.1/\1<=r.1/\r.1<=nrem:=by
 intro r;have hr:r=UE (kl key) (kas_tail3 n nrem p):=rfl;unfold kas_tail3 at hr;rw[W8]at hr;have hs:srt key (kas_rev p 0 n) n:=λi j hij hj=>by rw[Vs (by omega),Vs (by omega),Qs (by omega),Qs (by omega)];exact hd _ _ (by omega) (by omega)
 obtain⟨a1,a2,a3,_⟩:=Rq (key:=key) (p:=kas_rev p 0 n) (nrem-n) n h1 hs;rw[hr];exact⟨Y6,X8,a1,by show 1<=UE _ _;omega,by show UE _ _<=_;omega⟩
theorem NR{n nrem:Nat}(h1:1<=n)(hn:n+1<=nrem)(hz:nrem<=p.size)(hd:dsc key p (n+1)) :
  let r:=UE (kl key) (kas_descPart n nrem p)
  r.2.Perm p/\r.2.size=p.size/\srt key r.2 r.1/\1<=r.1/\r.1<=nrem:=by
 intro r;have hr:r=UE (kl key) (kas_descPart n nrem p):=rfl;unfold kas_descPart at hr;rw[W8]at hr
 obtain⟨a1,a2,a3,a4,a5,a6,a7⟩:=TF (key:=key) (nrem-(n+1)) p (n+1) 0 (by omega) (by omega) (by omega) hd (λi hi1 hi2=>by
  have:i=n:=by omega
  subst this;rfl)
 generalize UE (kl key) (kas_desc (nrem-(n+1)) p (n+1) 0)=d at hr a1 a2 a3 a4 a5 a6 a7;obtain⟨p1,n1,q1⟩:=d;dsimp only at hr a1 a2 a3 a4 a5 a6 a7;by_cases hq:q1 > 0
 .rw[Qs hq]at hr
  have same:∀i,KA key (kas_rev p1 (n1-(q1+1)) n1) i=KA key p1 i:=λi=>by
   rw[Vs (by omega)];split
   .rw[a4 _ (by omega) (by omega),a4 i (by omega) (by omega)]
   .rfl
  obtain⟨b1,b2,b3,b4,b5⟩:=NC (key:=key) (p:=kas_rev p1 (n1-(q1+1)) n1) (n:=n1) (nrem:=nrem) (by omega) (by omega) (by rw[X8];omega) (λi j hij hj=>by rw[same,same];exact a3 i j hij hj);rw[hr];exact⟨(b1.trans Y6).trans a1,(b2.trans X8).trans a2,b3,b4,b5⟩
 .rw[QM hq]at hr
  obtain⟨b1,b2,b3,b4,b5⟩:=NC (key:=key) (p:=p1) (n:=n1) (nrem:=nrem) (by omega) (by omega) (by omega) a3;rw[hr];exact⟨b1.trans a1,b2.trans a2,b3,b4,b5⟩
theorem EU{nrem:Nat}(h1:1<=nrem)(hz:nrem<=p.size) :
  let r:=UE (kl key) (kas_count nrem p)
  r.2.Perm p/\r.2.size=p.size/\srt key r.2 r.1/\1<=r.1/\r.1<=nrem:=by
 intro r;have hr:r=UE (kl key) (kas_count nrem p):=rfl;unfold kas_count at hr;rw[W8]at hr
 obtain⟨a1,a2,a3,a4⟩:=Rq (key:=key) (p:=p) (nrem-1) 1 (Qn _) (λi j hij hj=>by
  have:i=j:=by omega
  subst this;exact Jy _)
 generalize UE (kl key) (kas_asc p (nrem-1) 1)=n at hr a1 a2 a3 a4;by_cases hn:(n==nrem)=Cm
 .rw[Qs hn]at hr
  unfold UE at hr;rw[hr];exact⟨JO _,rfl,a1,a2,by show n<=nrem;omega⟩
 .rw[QM hn]at hr
  have hne:n≠nrem:=by simpa using hn
  have hlt:=a4 (by omega);by_cases hn1:n > 1
  .rw[Qs hn1]at hr
   unfold UE at hr;cases c:kl key (p.getD 0 0) (p.getD (n-1) 0)with
   |true=>rw[c]at hr;(try dsimp only at hr);rw[if_pos Cj]at hr;unfold UE at hr;rw[hr];exact⟨JO _,rfl,a1,a2,by show n<=nrem;omega⟩
   |false=>
    rw[c]at hr;(try dsimp only at hr);rw[if_neg (by decide)]at hr;have hge:KA key p (n-1)<=KA key p 0:=JR.mp (Ju c);have all:∀i,i<n->KA key p i=KA key p 0:=λi hi=>Int.le_antisymm (Int.le_trans (a1 i (n-1) (by omega) (by omega)) hge) (a1 0 i (by omega) hi)
    have same:∀i,KA key (kas_rev p 0 n) i=KA key p i:=λi=>by
     rw[Vs (by omega)];split
     .rw[all _ (by omega),all i (by omega)]
     .rfl
    obtain⟨b1,b2,b3,b4,b5⟩:=NR (key:=key) (p:=kas_rev p 0 n) (n:=n) (nrem:=nrem) a2 (by omega) (by rw[X8];exact hz) (λi j hij hj=>by
     rw[same,same];by_cases BE:j=n
     .subst BE
      by_cases hin:i=j
      .subst hin;exact Jy _
      .rw[all i (by omega)]
       rw[all (j-1) (by omega)]at hlt;exact Int.le_of_lt hlt
     .rw[all i (by omega),all j (by omega)];exact Jy _)
    rw[hr];exact⟨b1.trans Y6,b2.trans X8,b3,b4,b5⟩
  .rw[QM hn1]at hr
   have:n=1:=by omega
   subst this
   obtain⟨b1,b2,b3,b4,b5⟩:=NR (key:=key) (p:=p) (n:=1) (nrem:=nrem) (Qn _) (by omega) hz (λi j hij hj=>by
    by_cases hij2:i=j
    .subst hij2;exact Jy _
    .have h0:i=0:=by omega
     have h1:j=1:=by omega
     subst h0;subst h1;exact Int.le_of_lt hlt)
   rw[hr];exact⟨b1,b2,b3,b4,b5⟩
theorem Ru{k:Nat}(hs:srt key p k):∀(f l r:Nat),l<=r->r<=k->r-l<=f->(∀i,i<l->KA key p i<=KA key p k)->(∀i,r<=i->i<k->KA key p k<KA key p i) ->
  let m:=UE (kl key) (kas_place p k f l r)
  m<=k/\(∀i,i<m->KA key p i<=KA key p k)/\(∀i,m<=i->i<k->KA key p k<KA key p i)
 |0,l,r,hlr,hrk,hf,h1,h2=>⟨by show l<=k;omega,h1,λi (hi:l<=i)=>h2 i (by omega)⟩
 |f+1,l,r,hlr,hrk,hf,h1,h2=>by
  intro m;have hm:m=UE (kl key) (kas_place p k (f+1) l r):=rfl;unfold kas_place at hm;by_cases hge:l ≥ r
  .rw[Qs hge]at hm
   unfold UE at hm;rw[hm];exact⟨by omega,h1,λi hi=>h2 i (by omega)⟩
  .rw[QM hge]at hm
   unfold UE at hm;cases c:kl key (p.getD k 0) (p.getD ((l+r) / 2) 0)with
   |true=>rw[c]at hm;(try dsimp only at hm);rw[if_pos Cj]at hm;rw[hm];have hlt:KA key p k<KA key p ((l+r) / 2):=Qa c;exact Ru hs f l ((l+r) / 2) (by omega) (by omega) (by omega) h1 λi hi hik=>Int.lt_of_lt_of_le hlt (hs _ _ hi hik)
   |false=>rw[c]at hm;(try dsimp only at hm);rw[if_neg (by decide)]at hm;rw[hm];have hle:KA key p ((l+r) / 2)<=KA key p k:=JR.mp (Ju c);exact Ru hs f ((l+r) / 2+1) r (by omega) hrk (by omega) (λi hi=>Int.le_trans (hs i ((l+r) / 2) (by omega) (by omega)) hle) h2
theorem OA:∀(f:Nat)(p:Array Nat)(k:Nat),k+f<=p.size->srt key p k->let r:=UE (kl key) (kas_bin f p k);r.Perm p/\r.size=p.size/\srt key r (k+f)
 |0,p,k,_,hs=>⟨JO _,rfl,hs⟩
 |f+1,p,k,hz,hs=>by
  intro r;have hr:r=UE (kl key) (kas_bin (f+1) p k):=rfl;unfold kas_bin at hr;rw[W8]at hr;obtain⟨a1,a2,a3⟩:=Ru (key:=key) hs k 0 k (JI _) (Qn _) (by omega) (λi hi=>by omega) (λi h1 h2=>by omega);generalize UE (kl key) (kas_place p k k 0 k)=l at hr a1 a2 a3;have hk:k<p.size:=by omega
  obtain⟨b1,b2,b3⟩:=OA f (bubble p k (k-l)) (k+1) (by rw[bubble_size];omega) (λi j hij hj=>by
   rw[Ng hk (by omega),Ng hk (by omega),show k-(k-l)=l by omega];by_cases hi:i=l
   .rw[Qs hi]
    by_cases Bp:j=l
    .rw[Qs Bp];exact Jy _
    .rw[QM Bp,Qs (by omega)]
     exact Int.le_of_lt (a3 (j-1) (by omega) (by omega))
   .rw[QM hi]
    by_cases hi2:l<i/\i<=k
    .rw[Qs hi2,QM (show ¬j=l by omega),Qs (by omega)]
     exact hs _ _ (by omega) (by omega)
    .rw[QM hi2]
     by_cases Bp:j=l
     .rw[Qs Bp];exact a2 i (by omega)
     .rw[QM Bp]
      split
      .exact hs _ _ (by omega) (by omega)
      .exact hs _ _ (by omega) (by omega))
  rw[hr];exact⟨b1.trans (bubble_perm _ _ _),b2.trans (bubble_size _ _ _),by rw[show k+(f+1)=k+1+f by omega];exact b3⟩
theorem Ew{n:Nat}(h1:1<=n):let r:=UE (kl key) (kas_sort n);r.Perm (List.toArray (J5 n))/\r.size=n/\srt key r n:=by
 intro r;have hr:r=UE (kl key) (kas_sort n):=rfl;unfold kas_sort at hr;rw[W8]at hr;have hsz:(List.toArray (J5 n)).size=n:=by simp
 obtain⟨a1,a2,a3,a4,a5⟩:=EU (key:=key) (p:=List.toArray (J5 n)) (nrem:=n) h1 (by rw[hsz];exact Qn _);generalize UE (kl key) (kas_count n (List.toArray (J5 n)))=d at hr a1 a2 a3 a4 a5;by_cases hlt:d.1<n
 .rw[Qs hlt]at hr
  have hmax:max d.1 1=d.1:=by omega
  rw[hmax]at hr;obtain⟨b1,b2,b3⟩:=OA (key:=key) (n-d.1) d.2 d.1 (by omega) a3;rw[hr];exact⟨b1.trans a1,by omega,by rw[show d.1+(n-d.1)=n by omega]at b3;exact b3⟩
 .rw[QM hlt]at hr
  unfold UE at hr;rw[hr];exact⟨a1,by omega,by rw[show d.1=n by omega]at a3;exact a3⟩
def Asks{α:Type}(N:Nat)(R:α->Prop):KasT α->Prop
 |.ret a=>R a
 |.ask i j k=>i<N/\j<N/\∀b,Asks N R (k b)
theorem Asks.bind{α β:Type}{N:Nat}{R:α->Prop}{S:β->Prop}{f:α->KasT β}(hf:∀a,R a->Asks N S (f a)):∀{t:KasT α},Asks N R t->Asks N S (t.bind f)
 |.ret a,h=>hf a h
 |.ask _ _ k,⟨h1,h2,h3⟩=>⟨h1,h2,λb=>Asks.bind hf (h3 b)⟩
theorem Oz{α:Type}{lt:Nat->Nat->Bool}{cmp:Nat->Nat->(Bool->JT->Prop)->JT->Prop}{s:JT}{N:Nat}{R:α->Prop}(hc:∀i j C,i<N->j<N->C (lt i j) s->cmp i j C s):∀(t:KasT α)(Q:α->JT->Prop),Asks N R t->Q (UE lt t) s->t.kasWp cmp Q s
 |.ret _,_,_,h=>h
 |.ask i j k,Q,⟨h1,h2,h3⟩,h=>hc i j _ h1 h2 (Oz hc (k (lt i j)) Q (h3 _) h)
def bnd(N:Nat)(p:Array Nat):Prop:=∀i,p.getD i 0<N
theorem W4{N:Nat}{p q:Array Nat}(hN:0<N)(h:bnd N p)(e:q.Perm p):bnd N q:=λi=>by
 rw[Q7];cases z:q[i]? with
 |none=>exact hN
 |some v=>have hm:v∈q:=Array.mem_of_getElem? z;have hm2:v∈p:=e.mem_iff.mp hm;obtain⟨j,hj,e2⟩:=Array.mem_iff_getElem.mp hm2;have:=h j;rw[Q7,Jv hj,e2]at this;exact this
section
variable{N:Nat}(hN:0<N)
include hN
theorem Rp{p:Array Nat}(h:bnd N p):∀(f n:Nat),Asks N (λ_=>True) (kas_asc p f n)
 |0,_=>trivial
 |f+1,n=>⟨h _,h _,λb=>by
  cases b with
  |true=>(try dsimp only);rw[if_pos Cj];trivial
  |false=>(try dsimp only);rw[if_neg (by decide)];exact Rp h f (n+1)⟩
theorem TQ:∀(f:Nat)(p:Array Nat)(n q:Nat),bnd N p->Asks N (λr=>bnd N r.1) (kas_desc f p n q)
 |0,p,_,_,h=>h
 |f+1,p,n,q,h=>⟨h _,h _,λb=>by
  cases b with
  |true=>
   dsimp only;rw[Qs Cj];split
   .exact TQ f _ _ _ (W4 hN h Y6)
   .exact TQ f _ _ _ h
  |false=>
   dsimp only;rw[QM (by decide)];refine⟨h _,h _,λb=>?_⟩;cases b with
   |true=>(try dsimp only);rw[if_pos Cj];exact h
   |false=>(try dsimp only);rw[if_neg (by decide)];exact TQ f _ _ _ h⟩
theorem NB{p:Array Nat}{n nrem:Nat}(h:bnd N p):Asks N (λr=>bnd N r.2) (kas_tail3 n nrem p):=
 Asks.bind (N:=N) (R:=λ_=>True) (S:=λr:Nat×Array Nat=>bnd N r.2) (f:=λm=>.ret (m,kas_rev p 0 n)) (λ_ _=>W4 (p:=p) (q:=kas_rev p 0 n) hN h Y6) (Rp hN (W4 hN h Y6) _ _)
theorem NY{p:Array Nat}{n nrem:Nat}(h:bnd N p):Asks N (λr=>bnd N r.2) (kas_descPart n nrem p):=
 Asks.bind (λr hr=>by
  split
  .exact NB hN (W4 hN hr Y6)
  .exact NB hN hr) (TQ hN _ _ _ _ h)
theorem ET{p:Array Nat}{nrem:Nat}(h:bnd N p):Asks N (λr=>bnd N r.2) (kas_count nrem p):=
 Asks.bind (R:=λ_=>True) (λn _=>by
  split
  .exact h
  .split
   .refine⟨h _,h _,λb=>?_⟩
    cases b with
    |true=>(try dsimp only);rw[if_pos Cj];exact h
    |false=>(try dsimp only);rw[if_neg (by decide)];exact NY hN (W4 hN h Y6)
   .exact NY hN h) (Rp hN h _ _)
theorem Rt{p:Array Nat}(h:bnd N p)(k:Nat):∀(f l r:Nat),Asks N (λ_=>True) (kas_place p k f l r)
 |0,_,_=>trivial
 |f+1,l,r=>by
  unfold kas_place;split
  .trivial
  .refine⟨h _,h _,λb=>?_⟩
   cases b with
   |true=>(try dsimp only);rw[if_pos Cj];exact Rt h k f _ _
   |false=>(try dsimp only);rw[if_neg (by decide)];exact Rt h k f _ _
theorem Oy:∀(f:Nat)(p:Array Nat)(k:Nat),bnd N p->Asks N (λ_=>True) (kas_bin f p k)
 |0,_,_,_=>trivial
 |f+1,p,k,h=>Asks.bind (R:=λ_=>True) (λl _=>Oy f _ _ (W4 hN h (bubble_perm _ _ _))) (Rt hN h k _ _ _)
end
theorem Ev{n:Nat}(hn:0<n):Asks n (λ_=>True) (kas_sort n):=by
 have hb:bnd n (List.toArray (J5 n)):=λi=>by
  rw[Q7];by_cases hi:i<n
  .simp[hi]
  .simp[hi,hn]
 refine Asks.bind (λr hr=>?_) (ET hn hb);split
 .exact Oy hn _ _ _ hr
 .trivial
end
def UQ(q:Int×Int):Int:=q.1*10000000+q.2
def okP(q:Int×Int):Prop:=-1000000<=q.2/\q.2<=1000000
theorem Gg{x y:Int×Int}(hx:okP x)(hy:okP y):UQ x<UQ y ↔ (x.1<y.1∨x.1=y.1/\x.2<y.2):=by unfold UQ okP at *;omega
theorem FY{x y:Int×Int}(hx:okP x)(hy:okP y)(h:UQ x=UQ y):x=y:=by
 unfold UQ okP at *;have h1:x.1=y.1:=by omega
 have h2:x.2=y.2:=by omega
 exact Prod.ext h1 h2
section
variable{prog:JU}{w:World}{A:Around}{E:JS->JT->Prop}{s:JT}
def V3(h:Heap)(v:JS)(q:Int×Int):Prop:=∃a t u o n,v=.ref a/\h.get? a=Ci o/\o.cls=.type "tuple" /\ o.data=.seq #[.int q.1 t,.int q.2 u] n
theorem Ge{x y:JS}{p q:Int×Int}{Q:Bool->JT->Prop}(hx:V3 s.heap x p)(hy:V3 s.heap y q)(h:Q (decide (p.1<q.1∨p.1=q.1/\p.2<q.2)) s):JZ (model prog w) A (keyLt' (tuples' Cm) x y) Q E s:=by
 obtain⟨a,t,u,o,n,rfl,e1,c1,d1⟩:=hx;obtain⟨b,t',u',o',n',rfl,e2,c2,d2⟩:=hy;refine kat_lt e1 d1 e2 d2 ?_;show KatLex prog w A Cm _ Q [(Value.int p.1 t,Value.int q.1 t'),(Value.int p.2 u,Value.int q.2 u')] 0 s;refine kat_cons (wpAny_eqBool_int ?_);by_cases h1:p.1=q.1
 .have e:(p.1==q.1)=Cm:=by simpa using h1
  rw[e];refine kat_yes (kat_cons (wpAny_eqBool_int ?_));by_cases h2:p.2=q.2
  .have e:(p.2==q.2)=Cm:=by simpa using h2
   rw[e];refine kat_yes (kat_nil ?_);have:decide (p.1<q.1∨p.1=q.1/\p.2<q.2)=Cn:=Qz (by omega);rw[this]at h;exact h
  .have e:(p.2==q.2)=Cn:=by simpa using h2
   rw[e];refine kat_no (kat_one _ _ (PyProof.Rows.lt_int ?_))
   have:decide (p.1<q.1∨p.1=q.1/\p.2<q.2)=decide (p.2<q.2):=by
    by_cases z:p.2<q.2
    .rw[QS z,QS (.inr ⟨h1,z⟩)]
    .rw[Qz z,Qz (by omega)]
   rw[this]at h;exact h
 .have e:(p.1==q.1)=Cn:=by simpa using h1
  rw[e];refine kat_no (oneLt_int ?_)
  have:decide (p.1<q.1∨p.1=q.1/\p.2<q.2)=decide (p.1<q.1):=by
   by_cases z:p.1<q.1
   .rw[QS z,QS (.inl z)]
   .rw[Qz z,Qz (by omega)]
  rw[this]at h;exact h
def Zq(h:Heap):Cq->LP->Prop
 |[],[]=>True
 |v::vs,q::qs=>V3 h v q/\Zq h vs qs
 |_,_=>False
theorem Zq.get{h:Heap}:∀{vs:Cq}{qs:LP},Zq h vs qs->vs.length=qs.length/\∀(i:Nat)(hi:i<vs.length),V3 h (vs.getD i .none) (qs.getD i (0,0))
 |[],[],_=>⟨rfl,λi hi=>absurd hi (Nat.not_lt_zero _)⟩
 |v::vs,q::qs,⟨h1,h2⟩=>by
  obtain⟨e,f⟩:=Zq.get h2;refine⟨by simp[e],λi hi=>?_⟩;cases i with
  |zero=>exact h1
  |succ i=>exact f i (by simpa using hi)
theorem Zq.tups{h:Heap}:∀{vs:Cq}{qs:LP},Zq h vs qs->∃fs:Cq,KatTups h vs fs/\fs.length=vs.length/\∀v∈fs,∃i t,v=.int i t
 |[],[],_=>⟨[],trivial,rfl,λ_ h=>by cases h⟩
 |v::vs,q::qs,⟨hp,h2⟩=>by
  obtain⟨a,t,u,o,n,rfl,e1,c1,d1⟩:=hp;obtain⟨fs,f1,f2,f3⟩:=Zq.tups h2;refine⟨.int q.1 t::fs,.cons e1 c1 d1 Cj f1,by simp[f2],λv hv=>?_⟩;rcases Qu.mp hv with rfl|hv
  .exact⟨_,_,rfl⟩
  .exact f3 v hv
theorem Zq.mono{h h':Heap}(k:∀b o,h.get? b=Ci o->h'.get? b=Ci o):∀{vs:Cq}{qs:LP},Zq h vs qs->Zq h' vs qs
 |[],[],_=>trivial
 |v::vs,q::qs,⟨hp,h2⟩=>by obtain⟨a,t,u,o,n,rfl,e1,c1,d1⟩:=hp;exact⟨⟨a,t,u,o,n,rfl,k _ _ e1,c1,d1⟩,Zq.mono k h2⟩
def VR(qs:LP)(π:Cz):Prop:=π.Perm (J5 qs.length)/\(π.map λi=>qs.getD i (0,0)).Pairwise λx y=>UQ x<=UQ y
theorem Cf{a:JV}{vs:Cq}{qs:LP}{n:Nat}{P:Fin->JT->Prop}(ho:s.heap.get? a=Ci (seqObj "list" vs.toArray n))
  (hp:Zq ((s.heap.update a (Obj.mapSeq λ_=>#[]))) vs qs) (hq:∀q∈qs,okP q) (h64:vs.length<64)
  (h:∀π:Cz,VR qs π->P (.done (.ret .none)) {s with heap:=sortedHeap s.heap a vs (List.toArray (π.map λi=>vs.getD i .none))}) :
  JZ (model prog w) A (Builtin.«list.sort» ⟨[.ref a],[]⟩) P E s:=by
 obtain⟨hl,hget⟩:=hp.get;rw[list_sort_plain];have ha:a<s.heap.objs.size:=Qh ho;refine Qb (listItems_at ho Cj ?_);refine Qb (listUpdate_at ho Cj ?_);obtain⟨e1,ho1⟩:∃e1,(s.heap.update a (Obj.mapSeq λ_=>#[])).get? a=Ci (seqObj "list" #[] e1):=⟨_,get?_update_seq ho (λ_=>#[])⟩
 refine Qb (seqEpoch_at ho1 Cj ?_);refine Qb (wpAny_newTuple ?_);refine Qb (wpAny_newList ?_);refine wpAny_holding ?_;have ho6:(((s.heap.update a (Obj.mapSeq λ_=>#[])).push (seqObj "tuple" vs.toArray 0)).push (seqObj "list" #[] 0)).get? a=Ci (seqObj "list" #[] e1):=by rw[Heap.get?_push_ne _ _ _ (by rw[size_push',Heap.size_update];exact QE (Nat.lt_succ_of_lt ha)),Heap.get?_push_ne _ _ _ (by rw[Heap.size_update];exact QE ha)];exact ho1
 have hp6:Zq (((s.heap.update a (Obj.mapSeq λ_=>#[])).push (seqObj "tuple" vs.toArray 0)).push (seqObj "list" #[] 0)) vs qs:=hp.mono λb o e=>Qf _ (Qf _ e)
 show JZ (model prog w) A _ P E {s with heap:=((s.heap.update a (Obj.mapSeq λ_=>#[])).push (seqObj "tuple" vs.toArray 0)).push (seqObj "list" #[] 0)};dsimp only;have hsz:vs.toArray.size=vs.length:=by simp
 by_cases h2:vs.toArray.size<2
 .rw[Qs h2,Qs h2]
  refine Qb (Qi ?_);rw[StateT.run_pure];refine Qb (Qi ?_);dsimp only;refine Qb (seqEpoch_at ho6 Cj ?_);refine Qb (listUpdate_at ho6 Cj ?_ (hsz2:=by rw[Array.size_map];show(pairsOf vs).size<=_;rw[pairsOf_size,sizeLine_eq];omega));simp only[bne_self_eq_false,JG,if_false]
  have hid:(arrOf (SortSt.mk' general' (vs.toArray.zip vs.toArray) #[] 7 Ck)).map (·.2)=List.toArray ((J5 vs.length).map λi=>vs.getD i .none):=by
   show(vs.toArray.zip vs.toArray).map (·.2)=_
   apply Array.toList_inj.mp;apply List.ext_getElem?;intro i;simp only[Array.toList_map,Array.toList_zip,Qg,List.getElem?_zip_eq_some];by_cases hi:i<vs.length
   .simp[List.getElem?_zip_eq_some,hi,List.getElem?_range]
   .simp[hi]
  rw[hid];refine Qi (h (J5 vs.length) ⟨by rw[hl],?_⟩);rw[List.pairwise_map];rw[hsz]at h2
  rcases(show vs.length=0∨vs.length=1 by omega)with z|z<;>rw[z]
  .exact .nil
  .exact List.pairwise_singleton _ _
 .rw[QM h2,QM h2]
  rw[hsz]at h2;obtain⟨fs,f1,f2,f3⟩:=hp6.tups;refine Qb (kat_kind (T:=.type "int") f1 (by omega) (λv hv=>by obtain⟨i,t,rfl⟩:=f3 v hv;exact(show Looks _ _ (pure (Value.type "int")) _ from .now)) Cj ?_)
  refine Qb (Qv (kat_run (ks:=vs) (G:=λp s'=>s' = {s with heap:=((s.heap.update a (Obj.mapSeq λ_=>#[])).push (seqObj "tuple" vs.toArray 0)).push (seqObj "list" #[] 0)}/\p=UE (kl λi=>UQ (qs.getD i (0,0))) (kas_sort vs.length))
   (Q:=λst' s'=>s' = {s with heap:=((s.heap.update a (Obj.mapSeq λ_=>#[])).push (seqObj "tuple" vs.toArray 0)).push (seqObj "list" #[] 0)}/\failedOf st'=Ck/\arrOf st'=(UE (kl λi=>UQ (qs.getD i (0,0))) (kas_sort vs.length)).map (kas_item (vs.toArray.zip vs.toArray)))
   rfl (by omega) h64 (λp st' s' a1 a2 a3 a4=>⟨a4.1,a3,by rw[a2,a4.2]⟩) ?_) ?_ λ_ _ e=>e)
  .refine Oz (N:=vs.length) (R:=λ_=>True) (lt:=kl λi=>UQ (qs.getD i (0,0))) (λi j C hi hj hC=>?_) _ _ (Ev (by omega)) ⟨rfl,rfl⟩
   refine Ge (Zq.get hp6 |>.2 i hi) (Zq.get hp6 |>.2 j hj) ?_;have oi:okP (qs.getD i (0,0)):=hq _ (by rw[QU,Qe (by omega)];exact QT _);have oj:okP (qs.getD j (0,0)):=hq _ (by rw[QU,Qe (by omega)];exact QT _);have e:decide ((qs.getD i (0,0)).1<(qs.getD j (0,0)).1∨(qs.getD i (0,0)).1=(qs.getD j (0,0)).1/\(qs.getD i (0,0)).2<(qs.getD j (0,0)).2)=kl (λi=>UQ (qs.getD i (0,0))) i j:=by unfold kl;exact decide_eq_decide.mpr (Gg oi oj).symm
   rw[e];exact hC
  .rintro⟨⟨⟩,st'⟩ s' ⟨rfl,hf,har⟩
   dsimp only;obtain⟨b1,b2,b3⟩:=Ew (key:=λi=>UQ (qs.getD i (0,0))) (n:=vs.length) (by omega);generalize UE (kl λi=>UQ (qs.getD i (0,0))) (kas_sort vs.length)=p at har b1 b2 b3;have hout:=kat_snds (ks:=vs) (vs:=vs) Cj har;have hsz2:((arrOf st').map (·.2)).size=vs.length:=by rw[hout,QK,Qd,JL,b2]
   refine Qb (seqEpoch_at ho6 Cj ?_);refine Qb (listUpdate_at ho6 Cj ?_ (hsz2:=by rw[hsz2,sizeLine_eq];omega));rw[hf];simp only[bne_self_eq_false,JG,if_false];rw[hout];refine Qi (h p.toList ⟨?_,?_⟩)
   .have:=Array.perm_iff_toList_perm.mp b1
    rw[←hl];exact this
   .rw[List.pairwise_map,List.pairwise_iff_getElem]
    intro i j hi hj hij;rw[JL,b2]at hi hj;have:=b3 i j (by omega) hj;unfold KA at this;rw[Q7,Q7,Jv (by omega),Jv (by omega)]at this;simpa using this
end
section
variable{prog:JU}{w:World}{A:Around}{E:JS->JT->Prop}{s:JT}
theorem DW{l:JV}{vs:Cq}{qs:LP}{Q:JS->JT->Prop}(hl:s.heap.IsList l vs.toArray)(hp:Zq s.heap vs qs)(hq:∀q∈qs,okP q)(h64:vs.length<64)
  (h:∀π:Cz,VR qs π->Q (.ref (s.heap.objs.size+1)) {s with heap:=sortedAll s.heap vs (List.toArray (π.map λi=>vs.getD i .none))}) :
  JZ (model prog w) A (call (.builtin "sorted") [.ref l]) Q E s:=by
 refine Calls.call_function_entry kind_sorted plain_sorted entry_sorted (args_sorted1 _) ?_;unfold Builtin.«sorted»;refine Qb (m:=checkCount "sorted" 1 1 _) (Qi ?_);refine Qb (collect_list hl ?_);refine Qb (wpAny_newList ?_);have hsz:((s.heap.push (seqObj "list" #[] 0)).update s.heap.objs.size (Obj.mapSeq (· ++ vs.toArray))).objs.size=s.heap.objs.size+1:=by rw[Heap.size_update,size_push']
 have hoL:(((s.heap.push (seqObj "list" #[] 0)).update s.heap.objs.size (Obj.mapSeq (· ++ vs.toArray))).push (seqObj "list" vs.toArray 0)).get? (s.heap.objs.size+1)=Ci (seqObj "list" vs.toArray 0):=by rw[←hsz];exact Qx _ Cj
 show JZ _ _ _ _ _ {s with heap:=((s.heap.push (seqObj "list" #[] 0)).update s.heap.objs.size (Obj.mapSeq (· ++ vs.toArray))).push (seqObj "list" vs.toArray 0)};rw[hsz];refine Qb (wpAny_holding (wpAny_call_entry slot_list_sort ⟨_,hoL,rfl⟩ entry_list_sort (Cf (qs:=qs) hoL (hp.mono λb o e=>?_) hq h64 λπ a1=>⟨_,rfl,?_⟩) (args_list_sort _)))
 .have hlt:b<s.heap.objs.size:=Qh e
  dsimp only;have B3:(b:Nat)<s.heap.objs.size:=hlt;rw[Heap.get?_update_ne _ _ _ _ (QE (Nat.lt_succ_of_lt B3)),Heap.get?_push_ne _ _ _ (by rw[hsz];exact QE (Nat.lt_succ_of_lt B3)),Heap.get?_update_ne _ _ _ _ (QE hlt),Heap.get?_push_ne _ _ _ (QE hlt)];exact e
 .exact Qi ⟨_,rfl,h π a1⟩
end
end DL
namespace DL
open PySem PySem.Spec L2
open PyProof.Rows hiding St
section
variable{X:Cx}
theorem Ox{pins:List (JV×Obj)}{s:JT}{σ:St}{H:Hp}(I:Inv X pins σ H s):∀{as:Ct}{us:Cq}{qs:LP},Vals (as.map V.ref) us->as.length=qs.length->(∀(i:Nat) a q,as[i]?=Ci a->qs[i]?=Ci q->SqT X.K H a [.int q.1,.int q.2])->Zq s.heap us qs
 |[],_,[],.nil,_,_=>trivial
 |a::as,_,q::qs,.cons r t,hl,h=>by refine⟨?_,Ox I t (by simpa using hl) λi a q h1 h2=>h (i+1) a q (by simpa using h1) (by simpa using h2)⟩;cases r;obtain⟨its,rv,⟨o,e,c,n,d⟩,_⟩:=I.tuple (h 0 a q Cj Cj);obtain⟨u,v,rfl,r1,r2⟩:=rv.two;obtain⟨t1,rfl⟩:=r1;obtain⟨t2,rfl⟩:=r2;exact⟨a,t1,t2,o,n,rfl,e,c,by simpa using d⟩
theorem Nf{as:Ct}{us:Cq}(r:Vals (as.map V.ref) us):∀(π:Cz),(∀i∈π,i<as.length)->Vals (π.map λi=>V.ref (as.getD i 0)) (π.map λi=>us.getD i .none)
 |[],_=>.nil
 |i::π,h=>by
  refine .cons ?_ (Nf r π λj hj=>h j (Qo _ hj));have hi:=h i Ql;have e:(as.map V.ref)[i]?=Ci (.ref (as.getD i 0)):=by rw[List.getElem?_map,List.getElem?_eq_getElem hi];simp[List.getD,List.getElem?_eq_getElem hi]
  obtain⟨u,e2,ru⟩:=r.get e;simp only[List.getD,e2,JD];exact ru
theorem ES:Zo X (.builtin "sorted") (λxs H Q=>∃l,∃as:Ct,∃qs:LP,xs=[.ref l]/\SqL X.K H l (as.map V.ref)/\as.length=qs.length/\(∀(i:Nat) a q,as[i]?=Ci a->qs[i]?=Ci q->SqT X.K H a [.int q.1,.int q.2])/\(∀q∈qs,okP q)/\qs.length<64 /\
  ∀π p,VR qs π->H p=Ck->Q (.ref p) (upd H p (.lst (π.map λi=>V.ref (as.getD i 0))))):=by
 intro pins s σ H xs us Q I rx h;obtain⟨l,as,qs,rfl,hq,hl,ht,ho,hb,q⟩:=h;obtain⟨u,rfl,ru⟩:=rx.one;cases ru;obtain⟨its,rv,p,hz⟩:=I.list hq;have hn:its.length=qs.length:=by have:=rv.length;rw[Qd]at this;omega
 refine DW (qs:=qs) p.isList (Ox I rv hl ht) ho (by omega) λπ hπ=>?_
 obtain⟨e,he⟩:=sortedAll_at s.heap its (List.toArray (π.map λi=>its.getD i .none));have hπl:∀i∈π,i<as.length:=λi hi=>by have:=hπ.1.mem_iff.mp hi;rw[Je]at this;omega
 refine⟨.ref (s.heap.objs.size+1),_,I.laid (t':=s.toks) (λb o=>sortedAll_old) (JE _) (show KM X.prog X.w _ _ _ (.lst (π.map λi=>V.ref (as.getD i 0)))from⟨?_,_,e,Nf rv π hπl,he⟩),rfl,q π _ hπ (I.hok.fresh (JE _))⟩;rw[Qd,hπ.1.length_eq,Jr];rw[Qd]at hz;omega
def V2:D->Option (Int×Int)
 |.tuple [.int a,.int b]=>Ci (a,b)
 |_=>Ck
def W3:Co->Option LP
 |[]=>Ci []
 |d::r=>(V2 d).bind λq=>(W3 r).map (q :: ·)
def Zw(q:Int×Int):D:=.tuple [.int q.1,.int q.2]
theorem Eu{d:D}{q:Int×Int}(h:V2 d=Ci q):d=Zw q:=by
 unfold V2 at h;split at h
 .cases h;rfl
 .cases h
theorem NI:∀{ds:Co}{qs:LP},W3 ds=Ci qs->ds=qs.map Zw
 |[],qs,h=>by cases h;rfl
 |d::r,qs,h=>by
  unfold W3 at h;cases z:V2 d with
  |none=>rw[z]at h;cases h
  |some q=>
   rw[z]at h;cases z2:W3 r with
   |none=>rw[z2]at h;cases h
   |some qs'=>rw[z2]at h;cases h;rw[Eu z,NI z2];rfl
def Vf(qs:LP):LP:=qs.mergeSort λx y=>decide (UQ x<=UQ y)
theorem ER(qs:LP):(Vf qs).Perm qs:=List.mergeSort_perm ..
theorem Et(qs:LP):(Vf qs).Pairwise λx y=>UQ x<=UQ y:=by have:=List.pairwise_mergeSort (le:=λx y:Int×Int=>decide (UQ x<=UQ y)) (by intro a b c;simp;omega) (by intro a b;simp;omega) qs;exact this.imp (by simp)
theorem Ow:∀{a b:LP},(∀x∈a,okP x)->a.Perm b->a.Pairwise (λx y=>UQ x<=UQ y)->b.Pairwise (λx y=>UQ x<=UQ y)->a=b
 |[],b,_,p,_,_=>by rw[List.nil_perm.1 p]
 |x::a,[],_,p,_,_=>by have:=p.length_eq;simp at this
 |x::a,y::b,ok,p,ha,hb=>by
  have hx:UQ y<=UQ x:=by
   rcases Qu.1 (p.mem_iff.1 (Ql ..))with e|e
   .rw[e];exact Jy _
   .exact(Jg.1 hb).1 x e
  have hy:UQ x<=UQ y:=by
   rcases Qu.1 (p.mem_iff.2 (Ql ..))with e|e
   .rw[e];exact Jy _
   .exact(Jg.1 ha).1 y e
  have oky:okP y:=ok y (p.mem_iff.2 (Ql ..));have e:=FY (ok x (Ql ..)) oky (Int.le_antisymm hy hx);subst e;rw[Ow (λz hz=>ok z (Qo _ hz)) (List.Perm.cons_inv p) (Jg.1 ha).2 (Jg.1 hb).2]
theorem Fc{qs:LP}{π:Cz}(ok:∀q∈qs,okP q)(h:VR qs π):(π.map λi=>qs.getD i (0,0))=Vf qs:=by
 have hp:(π.map λi=>qs.getD i (0,0)).Perm qs:=by
  have h1:=h.1.map λi=>qs.getD i (0,0)
  have e:(J5 qs.length).map (λi=>qs.getD i (0,0))=qs:=by
   apply List.ext_getElem?;intro i;rw[Qg];by_cases hi:i<qs.length
   .rw[List.getElem?_range hi,List.getElem?_eq_getElem hi];simp[List.getD,List.getElem?_eq_getElem hi]
   .rw[Jn (by rw[Jr];omega),Jn (by omega)];rfl
  rw[e]at h1;exact h1
 exact Ow (λx hx=>ok x (hp.mem_iff.mp hx)) (hp.trans (ER qs).symm) h.2 (Et qs)
def okPB(q:Int×Int):Bool:=decide (-1000000<=q.2/\q.2<=1000000)
def V1:Co->Cs
 |[.list ds]=>(match W3 ds with
  |some qs=>if qs.length<64/\qs.all okPB=Cm then Ci (.list ((Vf qs).map Zw))else Ck
  |none=>Ck)
 |_=>Ck
theorem EQ{xs:Co}{d:D}(h:V1 xs=Ci d):∃qs:LP,xs=[.list (qs.map Zw)]/\qs.length<64/\(∀q∈qs,okP q)/\d=.list ((Vf qs).map Zw):=by
 unfold V1 at h;split at h
 .rename_i ds
  cases z:W3 ds with
  |none=>rw[z]at h;cases h
  |some qs=>
   rw[z]at h;dsimp only at h;split at h
   .rename_i c
    cases h;exact⟨qs,by rw[NI z],c.1,λq hq=>(show -1000000<=q.2/\q.2<=1000000 from Qa (Q3.mp c.2 q hq)),rfl⟩
   .cases h
 .cases h
theorem Nd{K:Frag}{G:Hp}:∀{vs:List V}{qs:LP},Reps K G vs (qs.map Zw)->∃as:Ct,vs=as.map V.ref/\as.length=qs.length/\∀(i:Nat) a q,as[i]?=Ci a->qs[i]?=Ci q->SqT K G a [.int q.1,.int q.2]
 |_,[],.nil=>⟨[],rfl,rfl,λi a q h=>by simp at h⟩
 |_,q::qs,.cons r t=>by
  obtain⟨as,rfl,hl,h⟩:=Nd t;obtain⟨a,ws,rfl,h1,r1⟩:=r.tup_inv;cases r1 with
  |cons ra rb=>
   obtain⟨v,rfl,rb'⟩:=rb.one_inv;refine⟨a::as,rfl,by simp[hl],λi a' q' e1 e2=>?_⟩;cases i with
   |zero=>cases e1;cases e2;rw[ra.int_inv,rb'.int_inv]at h1;exact h1
   |succ i=>exact h i a' q' (by simpa using e1) (by simpa using e2)
theorem Fb{K:Frag}{G:Hp}{a:JV}{q:Int×Int}(h:SqT K G a [.int q.1,.int q.2]):Rep K G (.ref a) (Zw q):=.tup h (.cons (.int _) (.cons (.int _) .nil))
theorem Nc{K:Frag}{G:Hp}{as:Ct}{qs:LP}(hl:as.length=qs.length)(h:∀(i:Nat) a q,as[i]?=Ci a->qs[i]?=Ci q->SqT K G a [.int q.1,.int q.2]):∀π:Cz,(∀i∈π,i<qs.length)->Reps K G (π.map λi=>V.ref (as.getD i 0)) ((π.map λi=>qs.getD i (0,0)).map Zw)
 |[],_=>.nil
 |i::π,hb=>by
  refine .cons ?_ (Nc hl h π λj hj=>hb j (Qo _ hj));have hi:=hb i Ql;refine Fb (h i _ _ ?_ ?_)
  .rw[List.getElem?_eq_getElem (by omega)];simp[List.getD,List.getElem?_eq_getElem (show i<as.length by omega)]
  .rw[List.getElem?_eq_getElem hi];simp[List.getD,List.getElem?_eq_getElem hi]
theorem Gd:ZB X (.builtin "sorted") V1:=by refine⟨_,ES,λvs G H ds d Q s r e k=>?_⟩;obtain⟨qs,rfl,h64,ok,rfl⟩:=EQ e;obtain⟨v,rfl,q1⟩:=r.one_inv;obtain⟨l,ws,rfl,h1,r1⟩:=q1.lst_inv;obtain⟨as,rfl,hl,ht⟩:=Nd r1;refine⟨l,as,qs,rfl,s.seq h1,hl,λi a q e1 e2=>Zn s (ht i a q e1 e2),ok,h64,λπ p hπ hp=>?_⟩;have hb:∀i∈π,i<qs.length:=λi hi=>Je.mp (hπ.1.mem_iff.mp hi);have rr:=(Nc hl ht π hb).mono (KD (s.free hp):Same G (upd G p (.lst (π.map λi=>V.ref (as.getD i 0)))));rw[Fc ok hπ]at rr;exact k _ _ _ (Ext.new s hp) (.lst (SqL.of Kk) rr)
theorem ZB.or{f:JS}{p q:Co->Cs}(h1:ZB X f p)(h2:ZB X f q):ZB X f (λxs=>(p xs).orElse λ_=>q xs):=by
 obtain⟨r1,c1,k1⟩:=h1;obtain⟨r2,c2,k2⟩:=h2;refine⟨λxs H Q=>r1 xs H Q∨r2 xs H Q,λpins s σ H xs us Q I rx h=>?_,λvs G H ds d Q s r e k=>?_⟩
 .rcases h with h|h
  .exact c1 pins s σ H xs us Q I rx h
  .exact c2 pins s σ H xs us Q I rx h
 .dsimp only at e
  cases z:p ds with
  |some d'=>rw[z]at e;cases e;exact .inl (k1 vs G H ds _ Q s r z k)
  |none=>rw[z]at e;exact .inr (k2 vs G H ds _ Q s r e k)
def VQ(xs:Co):Cs:=(WM xs).orElse λ_=>V1 xs
theorem MN:ZB X (.builtin "sorted") VQ:=Gm.or Gd
theorem EO{ns:Cp}(h:ns.length<64):VQ [.list (ns.map .int)]=Ci (.list ((Ze ns).map .int)):=by unfold VQ;rw[Ey h];rfl
end
section
variable{X:Cx}
theorem EN:bootBuiltins "repr" = Ci (.builtin "repr"):=by decide +kernel
end
section
variable{X:Cx}{B G0:Hp}{e o a b c tg:JX}{pos p2:Pos}{es rest:Cr}{te to ti:TE}
def WF{β:Type}(p:D->D->Option β)(f:M D)(j:Nat):M β:=UD f λx=>λZ=>match Z[j]? with
 |some (Ci (.pub d))=>Ux (p x d) Z
 |some (Ci (.own ds))=>Ux (p x (.list ds)) Z
 |_=>.bad
theorem N9{K:Frag}{σ:St}{H:Hp}{p:D->D->Cy}{r:R2}{j:Nat}{f:M D}{Q:Bool->Hp->Prop}{QV:VK}(hq:∀t H3,Q t H3->QV (.bl t) H3)
  (hr:∀v u G H x y d Q,Same G H->Rep K G v x->Rep K G u y->p x y=Ci d->Q (.bl d) H->r v u H Q)
  (q:tBo K B G0 (WF p f j) σ H Q):tD K B G0 f σ H λx H1=>U7 j σ H1 λy H2=>r x y H2 QV:=by
 refine tM.one (R:=Rep K) q λv H2 G Z x k rx a=>?_
 cases z:Z[j]? with
 |none=>rw[z]at a;exact a.elim
 |some o=>
  cases o with
  |none=>rw[z]at a;exact a.elim
  |some sl=>
   cases sl with
   |deep _ _=>rw[z]at a;exact a.elim
   |pub d=>rw[z]at a;dsimp only at a;obtain⟨d',e',a'⟩:=aft.opt a;obtain⟨u,h1,h2⟩:=k.pub j d z;exact⟨u,h1,hr v u G H2 x d d' _ k.gh rx h2 e' (hq _ _ (a' d' G H2 k (.refl _) Cj))⟩
   |own ds=>rw[z]at a;dsimp only at a;obtain⟨d',e',a'⟩:=aft.opt a;obtain⟨ad,vs,h1,h2,h3,h4,h5⟩:=k.own j ds z;exact⟨.ref ad,h1,hr v (.ref ad) H2 H2 x (.list ds) d' _ (.refl _) (rx.mono k.gh) (.lst (SqL.of h4) (h5.mono k.gh)) e' (hq _ _ (a' d' G H2 k (.refl _) Cj))⟩
theorem Gc{op:CmpOp}{p:D->D->Cy}{j:Nat}{f:M D}(o:OpB X (J4 op) p)(ha:PE X a (tD X.K B G0 f))(hb:PE X b (U7 j))(hm:behindInMarks op b=Cn) :
  PT X (.Compare a [op] [b] pos) (tBo X.K B G0 (WF p f j)):=by
 obtain⟨r,h,i⟩:=o;exact Zu (Ri h ha hb hm) λσ H Q q=>N9 (λt H3 z=>⟨t,rfl,z⟩) i q
theorem Ov{β:Type}{p:D->D->Option β}{f:M D}{j:Nat}{Z Z1:Ul}{x:D}{ds:Co}{r:β}(h1:f Z=.ok x Z1)(h2:Z1[j]?=Ci (Ci (.own ds)))(h3:p x (.list ds)=Ci r):WF p f j Z=.ok r Z1:=by unfold WF;exact Kb h1 (by rw[h2];exact K8 h3)
end
def Vr(Z:Ul)(j:Nat):Cs:=match Z[j]? with
 |some (Ci (.pub d))=>Ci d
 |some (Ci (.own ds))=>Ci (.list ds)
 |some (Ci (.deep _ d))=>Ci d
 |_=>Ck
theorem EOk.tree{K:Frag}{B G0 G H:Hp}{σ:St}{Z:Ul}{j:Nat}{d:D}(k:EOk K B G0 G H σ Z)(h:Vr Z j=Ci d):∃v,σ[j]?=Ci (Ci v)/\Rep K H v d:=by
 unfold Vr at h;split at h
 .rename_i d' e
  cases h;obtain⟨v,h1,h2⟩:=k.pub j _ e;exact⟨v,h1,h2.mono k.gh⟩
 .rename_i ds e
  cases h;obtain⟨a,vs,h1,h2,h3,h4,h5⟩:=k.own j ds e;exact⟨.ref a,h1,.lst (SqL.of h4) (h5.mono k.gh)⟩
 .rename_i p d' e
  cases h;obtain⟨ω,k1,k2⟩:=k.dp;obtain⟨v,fp,s,r,_⟩:=k1 j p _ e;exact⟨v,s,r.rep k.gh⟩
 .cases h
end DL
namespace HT
open PySem PyProof.Rows
end HT
namespace DL
open PySem PySem.Spec L2
open PyProof.Rows hiding St
end DL
namespace DL
open PySem
theorem lz0{P:Cq->Prop}{us:Cq}(hl:us.length=0)(h:P []):P us:=by
 cases us with
 |nil=>exact h
 |cons a r=>cases hl
theorem lzS{P:Cq->Prop}{us:Cq}{n:Nat}(hl:us.length=n+1)(h:∀a r,r.length=n->P (a::r)):P us:=by
 cases us with
 |nil=>cases hl
 |cons a r=>exact h a r (Nat.succ.inj hl)
theorem lz1{P:Cq->Prop}{us:Cq}(hl:us.length=1)(h:∀a,P [a]):P us:=lzS hl λa r e=>lz0 (P:=λr=>P (a::r)) e (h a)
theorem lz2{P:Cq->Prop}{us:Cq}(hl:us.length=2)(h:∀a b,P [a,b]):P us:=lzS hl λa r e=>lz1 (P:=λr=>P (a::r)) e (h a)
theorem lz3{P:Cq->Prop}{us:Cq}(hl:us.length=3)(h:∀a b c,P [a,b,c]):P us:=lzS hl λa r e=>lz2 (P:=λr=>P (a::r)) e (h a)
theorem lz4{P:Cq->Prop}{us:Cq}(hl:us.length=4)(h:∀a b c d,P [a,b,c,d]):P us:=lzS hl λa r e=>lz3 (P:=λr=>P (a::r)) e (h a)
theorem lz5{P:Cq->Prop}{us:Cq}(hl:us.length=5)(h:∀a b c d e,P [a,b,c,d,e]):P us:=lzS hl λa r e=>lz4 (P:=λr=>P (a::r)) e (h a)
theorem bz1{fd:JW}{ps:List Str}{us:Cq}(hl:us.length=1)(h:∀a,bindArgs fd {pos:=[a]}=pure (ps.zip [a])):bindArgs fd {pos:=us}=pure (ps.zip us):=lz1 (P:=λus=>bindArgs fd {pos:=us}=pure (ps.zip us)) hl h
theorem bz2{fd:JW}{ps:List Str}{us:Cq}(hl:us.length=2)(h:∀a b,bindArgs fd {pos:=[a,b]}=pure (ps.zip [a,b])):bindArgs fd {pos:=us}=pure (ps.zip us):=lz2 (P:=λus=>bindArgs fd {pos:=us}=pure (ps.zip us)) hl h
theorem bz3{fd:JW}{ps:List Str}{us:Cq}(hl:us.length=3)(h:∀a b c,bindArgs fd {pos:=[a,b,c]}=pure (ps.zip [a,b,c])):bindArgs fd {pos:=us}=pure (ps.zip us):=lz3 (P:=λus=>bindArgs fd {pos:=us}=pure (ps.zip us)) hl h
theorem bz4{fd:JW}{ps:List Str}{us:Cq}(hl:us.length=4)(h:∀a b c d,bindArgs fd {pos:=[a,b,c,d]}=pure (ps.zip [a,b,c,d])):bindArgs fd {pos:=us}=pure (ps.zip us):=lz4 (P:=λus=>bindArgs fd {pos:=us}=pure (ps.zip us)) hl h
theorem bz5{fd:JW}{ps:List Str}{us:Cq}(hl:us.length=5)(h:∀a b c d e,bindArgs fd {pos:=[a,b,c,d,e]}=pure (ps.zip [a,b,c,d,e])):bindArgs fd {pos:=us}=pure (ps.zip us):=lz5 (P:=λus=>bindArgs fd {pos:=us}=pure (ps.zip us)) hl h
end DL
namespace DL
open PySem PySem.Spec L2
open PyProof.Rows hiding St
def whole(h:Heap):Frag:=(J5 h.objs.size).filterMap λa=>(h.get? a).map λo=>(a,o)
theorem Nb{g:JV->Option Obj}{x:JV}:∀l:Ct,(l.filterMap λa=>(g a).map λo=>(a,o)).lookup x=if x∈l then g x else Ck
 |[]=>rfl
 |y::l=>by
  have ih:=Nb (g:=g) (x:=x) l;by_cases e:x=y
  .subst e
   rw[Qs Ql];cases z:g x with
   |none=>rw[List.filterMap_cons_none (by rw[z];rfl),ih,z];split<;>rfl
   |some o=>rw[List.filterMap_cons_some (by rw[z];rfl),QQ,beq_self_eq_true]
  .have m:(x∈y::l)=(x∈l):=by simp[List.mem_cons,e]
   have b:(x==y)=Cn:=by simpa using e
   have ih':(if x∈y::l then g x else Ck)=_:=(by simp only[m];exact ih.symm)
   rw[ih'];cases z:g y with
   |none=>rw[List.filterMap_cons_none (by rw[z];rfl)]
   |some o=>rw[List.filterMap_cons_some (by rw[z];rfl),QQ,b]
theorem VH{h:Heap}{a:JV}:(whole h).lookup a=h.get? a:=by
 unfold whole;rw[Nb];split
 .rfl
 .rename_i n
  cases z:h.get? a with
  |none=>rfl
  |some o=>exact absurd (Je.mpr (Qh z)) n
theorem Fa(h:Heap):(whole h).In h:=λa o e=>by rw[VH]at e;exact e
def N8(st:Stmt):Option DefRec:=match st with
 |.FunctionDef name a b _ _ _ sc _ _ pos=>Ci ⟨name,a,b,sc,pos⟩
 |_=>Ck
def Vq(st:Stmt):Option Str:=match st with
 |.FunctionDef name _ _ _ _ _ _ _ _ _=>Ci name
 |_=>Ck
def N7(st:Stmt):Pos:=match st with
 |.FunctionDef _ _ _ _ _ _ _ _ _ pos=>pos
 |_=>⟨0,0,0,0⟩
abbrev UZ(p:JU)(i:Nat):Stmt:=p.main.body.getD i (.Pass ⟨0,0,0,0⟩)
def XU(p:JU)(ix:Cz):List DefRec:=ix.filterMap λi=>N8 (UZ p i)
section
variable{p q:JU}{loose:List Str}{mean:ExcName->Cw}{mg mb:Str->Cw}{h:Heap}{w:World}
theorem V0{ix:Cz}(T:Top q loose mean mg mb h)(e:recsOf q=XU p ix)(i:Nat)(x:Str)(hi:ix.contains i=Cm)(hn:Vq (UZ p i)=Ci x):∃f fd,mg x=Ci (.ref f)/\Fun (whole h) x x (UZ p i) f fd:=by
 cases hs:UZ p i with
 |FunctionDef name a b _ _ _ sc _ _ pos=>
  rw[hs]at hn;cases hn;have hd:(⟨x,a,b,sc,pos⟩:DefRec)∈recsOf q:=by rw[e];exact List.mem_filterMap.mpr ⟨i,by simpa using hi,by rw[hs];rfl⟩
  obtain⟨f,⟨oc,od,dt,osl⟩,pm,cd,doc,h1,h2,h3,h4⟩:=T.fn _ hd;have h3:dt=_:=h3;subst h3;refine⟨f,_,h1,⟨⟨oc,od,.none,doc,pm,_,cd,_,osl,rfl,by rw[VH];exact h2,?_⟩,?_⟩⟩
  .obtain⟨c,⟨_,_,dc,_⟩,vs,t,rfl,g1,g2,g3⟩:=h4
   have g2:dc=_:=g2;subst g2;unfold PySem.W.codeIn;dsimp only;rw[VH,g1];dsimp only;have g4:vs.toList[1]?=Ci (.str x t):=by rw[Array.getElem?_toList];exact g3
   cases hv:vs.toList with
   |nil=>rw[hv]at g4;cases g4
   |cons v0 r=>
    rw[hv]at g4;cases r with
    |nil=>cases g4
    |cons v1 r=>cases g4;exact beq_self_eq_true _
  .unfold PySem.W.keepIn
   dsimp only;rw[VH,h2]
 |_=>rw[hs]at hn;cases hn
theorem Es{K:Frag}{x qual y:Str}{st:Stmt}{f:JV}{fd:JW}(F:Fun K x qual st f fd)
  (hb:∀(kV doc pm:JS)(an:CA)(cdv ct v:JS),bindArgs (PySem.W.fnOf x qual (XG st) (Yk st) (Kj st) .none kV doc pm an cdv ct) ⟨[v],[]⟩=pure [(y,v)]) (s:JT) (v:JS):BindsTo s fd ⟨[v],[]⟩ [(y,v)]:=by
 obtain⟨oc,od,kV,doc,pm,an,cdv,ct,osl,rfl,lk,hcd⟩:=F.ex;exact .of_eq (hb kV doc pm an cdv ct v)
def VP(q:JU)(loose:List Str)(x:Str):Bool:=
 !startupNames.contains x && !loose.contains x && !((recsOf q).map (·.name)).contains x && !((litsOf q).map (·.1)).contains x && !((clssOf q loose).map (·.name)).contains x
theorem ZH(T:Top q loose mean mg mb h){xs:List Str}(e:xs.all (VP q loose)=Cm){x:Str}(hx:x∈xs):mg x=Ck:=by have:=Q3.mp e x hx;unfold VP at this;simp only[Qw,Bool.not_eq_true',List.contains_eq_mem,decide_eq_false_iff_not]at this;exact T.free x this.1.1.1.1 this.1.1.1.2 this.1.1.2 this.1.2 this.2
theorem TN(T:Top q loose mean mg mb h){x:Str}{i:Int}(e:valOf q x=Ci (.int i)):∃t,mg x=Ci (.int i t):=by obtain⟨v,h1,h2⟩:=T.const x _ e;have:=h2 h;cases this;exact⟨_,h1⟩
end
def scOk(sc:Scope)(N gl:List Str):Bool:=(N.all λx=>match sc.names.lookup x with|some .local=>Cm|some .cell=>Cm|_=>Cn)&&gl.all λx=>match sc.names.lookup x with|some .globalImplicit=>Cm|_=>Cn
def fnB(sc:Scope)(N gl:List Str):Bool:=decide (sc.kind=.function) && !sc.isCoroutine && !sc.isGenerator&&decide N.Nodup&&(sc.names.all λy=>match y.2 with | .free=>Cn|_=>Cm)&&scOk sc N gl
structure FnNm(sc:Scope)(N gl:List Str):Prop where
 kind:sc.kind=.function
 co:sc.isCoroutine=Cn
 gen:sc.isGenerator=Cn
 nd:N.Nodup
 nofree:∀y∈sc.names,y.2≠.free
 nm:∀x∈N,sc.names.lookup x=Ci .local∨sc.names.lookup x=Ci .cell
 gl:∀x∈gl,sc.names.lookup x=Ci .globalImplicit
theorem KO{sc:Scope}{N gl:List Str}(H:fnB sc N gl=Cm):FnNm sc N gl:=by
 unfold fnB scOk at H;simp only[Qw,QX,Bool.not_eq_true',Q3]at H;obtain⟨⟨⟨⟨⟨h1,h2⟩,h3⟩,h4⟩,h5⟩,h6,h7⟩:=H;refine⟨h1,h2,h3,h4,λy hy e=>?_,λx hx=>?_,λx hx=>?_⟩
 .have:=h5 y hy;rw[e]at this;cases this
 .have:=h6 x hx
  split at this
  .rename_i e;exact .inl e
  .rename_i e;exact .inr e
  .cases this
 .have:=h7 x hx
  split at this
  .rename_i e;exact e
  .cases this
section
variable{sc:Scope}{N gl:List Str}{x:Str}
theorem nq(H:FnNm sc N gl):N.Nodup:=H.nd
theorem fq(H:FnNm sc N gl)(n:Nat):X7 N (N.take n) sc:=⟨H.kind,H.co,H.gen,H.nd,by rw[Ji,List.take_eq_take_iff];omega,λx hx=>H.nm x (Jz hx),H.nofree⟩
theorem lq(H:FnNm sc N gl)(i:Nat)(h:N[i]?=Ci x:=by rfl):L2.Loc sc x:=H.nm x (QH h)
theorem gq(H:FnNm sc N gl)(i:Nat)(h:gl[i]?=Ci x:=by rfl):sc.names.lookup x=Ci .globalImplicit:=H.gl x (QH h)
theorem pq{X:Cx}{pos:Pos}(H:FnNm X.env.scope X.N gl)(i:Nat)(h:X.N[i]?=Ci x:=by rfl)(hd:(x==("__debug__" : Str))=Cn:=by decide)(hc:(x==("__classdict__" : Str))=Cn:=by decide):PE X (.Name x pos) (U7 i):=
 Pq h ((H.nm x (QH h)).elim .inl λz=>.inr (.inl z)) hd hc
end
theorem Zd{q p:JU}{loose:List Str}{mean:ExcName->Cw}{mg mb:Str->Cw}{h:Heap}{ix:Cz}(P:JU)(w:World)(base:Heap){ps:List Str}{k n:Nat}{F:Co->Cs}(T:Top q loose mean mg mb h)(e:recsOf q=XU p ix)(i:Nat)(x:Str)(hi:ix.contains i=Cm)(hn:Vq (UZ p i)=Ci x)
  (ok:∀{f:JV}{fd:JW},Fun (whole h) x x (UZ p i) f fd->FnOk P w (whole h) mg base CX0 k f fd ps (spD (whole h) n F))
  (hb:∀(kV doc pm:JS)(an:CA)(cdv ct:JS)(us:Cq),us.length=ps.length->bindArgs (PySem.W.fnOf x x (XG (UZ p i)) (Yk (UZ p i)) (Kj (UZ p i)) .none kV doc pm an cdv ct) ⟨us,[]⟩=pure (ps.zip us)):Def P w (whole h) mg base x k n F:=by
 obtain⟨f,fd,m,FU⟩:=V0 T e i x hi hn;exact Def.mk m FU (FU.binds hb) (ok FU)
section
variable{X:Cx}{B G0:Hp}{e:JX}{pos:Pos}{es:Cr}
theorem pdf{k kk n:Nat}{F:Co->Cs}{g:M Co}{x:Str}{p2:Pos}(d:Def X.prog X.w X.K X.mg X.base x k n F)(hr:Room kk X.A)(hg:Gl X x)(ha:PA X (e::es) (tDs X.K B G0 g))(hk:k<=kk:=by decide)(hn:(e::es).length=n:=by rfl)
  (hdb:(x==("__debug__" : Str))=Cn:=by decide) (he:J0 (e::es) X.env=(Cn,eval e X.env)::J0 es X.env:=by rfl) (hpl:(backTo pos (J0 es X.env)).any (·.1)=Cn:=by rfl) :
  PE X (.Call (.Name x p2) (e::es) [] pos) (tD X.K B G0 (UF n F g)):=Gs d (hr.mono hk) hg ha hn hdb he hpl
end
theorem N6{q p:JU}{loose:List Str}{mean:ExcName->Cw}{mg mb:Str->Cw}{h:Heap}{ix:Cz}{P:JU}{w:World}{k:Nat}{F:Co->Cs}{y:Str}{fa:JV}(T:Top q loose mean mg mb h)(e:recsOf q=XU p ix)(i:Nat)(x:Str)(hi:ix.contains i=Cm)(hn:Vq (UZ p i)=Ci x)(hfa:mg x=Ci (.ref fa))
  (hb:∀(kV doc pm:JS)(an:CA)(cdv ct v:JS),bindArgs (PySem.W.fnOf x x (XG (UZ p i)) (Yk (UZ p i)) (Kj (UZ p i)) .none kV doc pm an cdv ct) ⟨[v],[]⟩=pure [(y,v)])
  (ok:∀(base:Heap){f:JV}{fd:JW},Fun (whole h) x x (UZ p i) f fd->FnOk P w (whole h) mg base CX0 k f fd [y] (spD (whole h) 1 F)) :
  ∃fd:JW,(∀(s:JT)(v:JS),BindsTo s fd ⟨[v],[]⟩ [(y,v)])/\∀base:Heap,FnOk P w (whole h) mg base CX0 k fa fd [y] (spD (whole h) 1 F):=by
 obtain⟨f,fd,m,FU⟩:=V0 T e i x hi hn;cases hfa.symm.trans m;exact⟨fd,Es FU hb,λbase=>ok base FU⟩
theorem GZ{l:PySem.W.OpenLaw}{n k:Nat}{q:JU}{loose:List Str}{XP:(Str->Cw)->Heap->Prop}{YP:World->Heap->Prop}{d:DefRec}{F:Co->Cs}{x:Str}
  (hn:l.most=Ci n) (hn2:n<=JY) (hdf:d.params.defaults=[]) (hr:Room k callerA)
  (hF:∀(w:World)(s₀:JT)(mg mb:Str->Cw)(fa:JV)(h:Heap),PySem.W.Ground q loose [] XP w s₀ mg mb h->mg d.name=Ci (.ref fa) ->
   ∃fd:JW,(∀(s:JT)(u:JS),BindsTo s fd ⟨[u],[]⟩ [(x,u)])/\∀base:Heap,FnOk l.prog w (whole h) mg base CX0 k fa fd [x] (spD (whole h) 1 F))
  (hl:∀ns:Cp,ns.length<=n->F [.list (ns.map int)]=Ci (.bool Cm)) :
  PySem.W.WalkO q loose XP YP l.row.toRowW d [] (λf vs=>PySem.call f vs):=by
 refine Att.attach_call hn hdf λw s₀ s₁ mg mb fa o pm cd doc a vs ns G Y ho hd hcd hmg hobj hints hlen hg=>?_
 obtain⟨fd,hb,hF⟩:=hF w s₀ mg mb fa _ G hmg;exact FO (Fa _) G.T.g G.T.b G.T.builtins G.T.nolimit hg hobj hints (QJ hlen hn2) hr (λbase _ _=>hF base) hb (λH hO hS=>Ht hS (hl ns hlen)) λH e s' z=>z
section
variable{α β:Type}{Z Z1 Z2 Z3 Z':Ul}{f:M D}{s t:SM}{Q:Out->Prop}{d:D}{ds fs:Co}{nm x:Str}{o:Out}
theorem GY{c:String}{t:Bool}(h:f Z=.ok d Z1)(ht:UR d c=t):UA (λd=>J8 (UR d c)) f Z=.ok (J8 t) Z1:=by subst ht;exact Kw (k:=λd=>J8 (UR d c)) h
theorem Pb{c:String}{kvs:List (D×D)}(h:f Z=.ok (.dict kvs) Z1)(hc:(("dict" == c) || ("" == c))=Cn:=by decide):UA (λd=>J8 (UR d c)) f Z=.ok (J8 Cn) Z1:=GY h (nty hc)
theorem Tu{c:String}{kvs:List (D×D)}(h:f Z=.ok (.dict kvs) Z1)(hc:(("dict" == c) || ("" == c))=Cn:=by decide):UP (KG (UA (λd=>.bool (UR d c)) f)) Z=.ok Cm Z1:=K3 h (by rw[nty hc];rfl)
end
section
variable{X:Cx}{B G0:Hp}{KX:XW}{e o a b c:JX}{pos p2:Pos}{es rest:Cr}
def T9:Co->Cs
 |[.list xs]=>Ci (.tuple xs)
 |[.tuple xs]=>Ci (.tuple xs)
 |_=>Ck
theorem N5:ZB X (.type "tuple") T9:=by
 refine⟨_,Ca,λvs G H ds d Q s r e k=>?_⟩;unfold T9 at e;split at e
 .cases e
  obtain⟨v,rfl,q⟩:=r.one_inv;obtain⟨l,ws,rfl,h1,r1⟩:=q.lst_inv;exact⟨l,ws,rfl,.inl ⟨s.seq h1,λp hp=>k _ _ _ (Ext.new s hp) (.tup (SqT.of Kk) (r1.mono (KD (s.free hp))))⟩⟩
 .cases e
  obtain⟨v,rfl,q⟩:=r.one_inv;obtain⟨l,ws,rfl,h1,r1⟩:=q.tup_inv;exact⟨l,ws,rfl,.inr ⟨Zn s h1,k _ G H (.refl s) (.tup h1 r1)⟩⟩
 .cases e
end
end DL
namespace L2
open PySem PySem.Spec PyProof.Rows
end L2
namespace DL
open PySem PySem.Spec L2
open PyProof.Rows hiding St
end DL
namespace DL
open PySem PySem.Spec L2 PySem.SeqAt PySem.AutoSeq1
open PyProof.Rows hiding St
section
variable{X:Cx}{pins:List (JV×Obj)}{s:JT}{σ:L2.St}{G H:Hp}{A:Around}
theorem PZ(I:Inv X pins σ H s){a:JV}{kvs:List (Key×V)}(h:H a=Ci (.dK kvs)):(a==sysModules)=Cn/\∃o es n vs,s.heap.get? a=Ci o/\o.cls=.type "dict" /\ o.data=.dict es n/\KV kvs vs/\Pairs (W2 X.prog X.w) es.toList vs:=by
 obtain⟨_,h0,vs,kv,o,es,ep,e1,e2,e3,_,e5,_⟩:=(show kvs.length<=JY/\(a==sysModules)=Cn/\∃vs,KV kvs vs/\s.heap.DictOf (W2 X.prog X.w) a vs from I.hok a _ h)
 exact⟨h0,o,es,ep,vs,e1,e2.1,e3,kv,e5⟩
end
end DL
namespace DL
open PySem PySem.Spec L2
open PyProof.Rows hiding St
def Z7:D->Bool
 |.int _=>Cm
 |.str _=>Cm
 |_=>Cn
mutual
def Kg:D->Bool
 |.none | .bool _ | .int _=>Cm
 |.str x=>Ua x
 |.list xs | .tuple xs=>Yl xs
 |.dict kvs=>layKv kvs
def Yl:Co->Bool
 |[]=>Cm
 |x::xs=>Kg x&&Yl xs
def layKv:List (D×D)->Bool
 |[]=>Cm
 |(k,v)::r=>Z7 k&&Kg v&&layKv r
end
theorem Ou:∀{ks:CB}{ds:Co},ks.length=ds.length->layKv ((ks.map kD).zip ds)=Cm->Yl ds=Cm
 |[],[],_,_=>rfl
 |[],_::_,h,_=>by simp at h
 |_::_,[],h,_=>by simp at h
 |k::ks,d::ds,h,c=>by rw[QG,List.zip_cons_cons,layKv,Qw,Qw]at c;rw[Yl,c.1.2,Ou (by simpa using h) c.2];rfl
theorem NA{P:JU}{w:World}:∀{es:List DictEntry}{vs:List (Key×JS)},Pairs (W2 P w) es vs->es.map (·.val)=vs.map (·.2)
 |_,_,.nil=>rfl
 |_,_,.cons _ h t=>by rw[QG,QG,h,NA t]
theorem EM{P:JU}{w:World}{h:Heap}{es:List DictEntry}{vs:List (Key×JS)}(p:Pairs (W2 P w) es vs):ReadsAll h (es.map (·.key)) ((vs.map (·.1)).map kD) []:=by
 induction p with
 |nil=>exact .nil
 |@cons e kv es kvs hk _ t ih=>
  have hk:Sg kv.1 e.key=Cm:=hk;rw[QG,QG,QG];rcases YW hk with ⟨i,t,e1,e2⟩|⟨x,t,e1,e2⟩
  .rw[e1,e2];exact .cons (as:=[]) (.int i t) ih
  .rw[e1,e2];exact .cons (as:=[]) (.str x t) ih
theorem Ot:∀{ks:CB}{vs:List V}{ws:List (Key×JS)},ks.length=vs.length->KV (ks.zip vs) ws->ws.map (·.1)=ks/\Vals vs (ws.map (·.2))
 |[],[],_,_,h=>by cases h;exact⟨rfl,.nil⟩
 |[],_::_,_,h,_=>by simp at h
 |_::_,[],_,h,_=>by simp at h
 |k::ks,v::vs,_,hl,h=>by
  rw[List.zip_cons_cons]at h;cases h with
  |cons a b=>obtain⟨e1,e2⟩:=Ot (by simpa using hl) b;exact⟨by rw[QG,e1,←a.1],.cons a.2 e2⟩
def SmK(K:Frag):Prop:=∃o es n,K.lookup sysModules=Ci o/\o.data=.dict es n
theorem MM{h:Heap}(x:h.NoSeer):SmK (whole h):=by obtain⟨mm,⟨o',es,ep,e',d,_⟩,_⟩:=x.mods;exact⟨o',es,ep,by rw[VH];exact e',d⟩
section
variable{X:Cx}{pins:List (JV×Obj)}{s:JT}{σ:L2.St}{G H:Hp}
theorem Os(I:Inv X pins σ H s)(hK:SmK X.K):H sysModules=Ck:=by obtain⟨o,es,n,e,_⟩:=hK;exact(I.bs _ _ (I.mod.kin _ _ e)).2
theorem Ga(I:Inv X pins σ H s)(hK:SmK X.K){a:JV}{xs:List V}(h:SqL X.K H a xs):a≠sysModules:=by
 intro e;subst e;rcases h with h|⟨o,its,n,hk,_,_,hs,_⟩
 .rcases h with h|⟨o,h⟩
  .rw[Os I hK]at h;cases h
  .rw[Os I hK]at h;cases h
 .obtain⟨o',es,m,e,d⟩:=hK
  rw[hk]at e;cases e;rw[hs]at d;cases d
mutual
theorem PY(I:Inv X pins σ H s)(sg:Same G H)(hK:SmK X.K):∀{v:V}{d:D}{u:JS},Rep X.K G v d->RelV v u->Kg d=Cm->∃as,Reads s.heap u d as/\sysModules∉as
 |_,_,_,.non,r,_=>by cases r;exact⟨_,.none,by simp⟩
 |_,_,_,.bl b,r,_=>by cases r;exact⟨_,.bool b,by simp⟩
 |_,_,_,.int i,r,_=>by obtain⟨t,rfl⟩:=r;exact⟨_,.int i t,by simp⟩
 |_,_,_,.str x,r,_=>by obtain⟨t,rfl⟩:=r;exact⟨_,.str x t,by simp⟩
 |_,_,_,.lst h q,r,c=>by cases r;obtain⟨its,rv,⟨o,n,e,hc,_,hd⟩,hz⟩:=I.list (sg.seq h);obtain⟨as,ra,hn⟩:=readsAll_z I sg hK q rv (show Yl _=Cm by simpa[Kg]using c);refine⟨_,.list e hc hd (by simpa using ra),?_⟩;simp only[Qu,not_or];exact⟨λz=>Ga I hK (sg.seq h) z.symm,hn⟩
 |_,_,_,.tup h q,r,c=>by cases r;obtain⟨its,rv,p,hz⟩:=I.tuple (Zn sg h);obtain⟨o,e,hc,n,hd⟩:=p;obtain⟨as,ra,hn⟩:=readsAll_z I sg hK q rv (show Yl _=Cm by simpa[Kg]using c);exact⟨_,.tuple e hc hd (by simpa using ra),hn⟩
 |_,_,_,.dic h,r,c=>by
  cases r;obtain⟨p0,o,es,n,vs,e1,e2,e3,kv,ps⟩:=PZ I (sg _ _ h);cases kv
  have z1:es.toList=[]:=by
   cases hz:es.toList with
   |nil=>rfl
   |cons c r=>rw[hz]at ps;cases ps
  refine⟨_,.dict (kvs:=[]) e1 e2 e3 (by rw[z1];exact .nil) (by rw[z1];exact .nil),?_⟩;simp only[QY,Qp];intro z;rw[←z]at p0;simp at p0
 |_,_,_,.exc _ _ _ _,r,c=>by simp[Kg,layKv,Z7]at c
 |_,_,_,@Rep.dct _ _ ad ks vs ds kvs e hne hl h q,r,c=>by
  cases r;obtain⟨p0,o,es,n,ws,e1,e2,e3,kv,ps⟩:=PZ I (sg _ _ h);obtain⟨k1,k2⟩:=Ot (by rw[hl,q.length]) kv;have cd:Yl ds=Cm:=Ou hl (by rw[←e];simpa[Kg]using c);obtain⟨bs,rb,hn⟩:=readsAll_z I sg hK q k2 cd;have hkeys:=EM (h:=s.heap) ps;rw[k1]at hkeys;have f1:kvs.map (·.1)=ks.map kD:=by rw[e];exact List.map_fst_zip (by rw[Qd];omega)
  have f2:kvs.map (·.2)=ds:=by rw[e];exact List.map_snd_zip (by rw[Qd];omega)
  refine⟨_,.dict (kvs:=kvs) e1 e2 e3 (by rw[f1];exact hkeys) (by rw[f2,NA ps];exact rb),?_⟩;simp only[List.cons_append,Jk,Qu,not_or];refine⟨?_,hn⟩;intro z;rw[←z]at p0;simp at p0
 |_,_,_,.dtt e _ _ _,r,c=>by subst e;simp[Kg,layKv,Z7,pdD]at c
theorem readsAll_z(I:Inv X pins σ H s)(sg:Same G H)(hK:SmK X.K):∀{vs:List V}{ds:Co}{us:Cq},Reps X.K G vs ds->Vals vs us->Yl ds=Cm->∃as,ReadsAll s.heap us ds as/\sysModules∉as
 |_,_,_,.nil,r,_=>by cases r;exact⟨_,.nil,by simp⟩
 |_,_,_,.cons h t,r,c=>by
  cases r with
  |cons r1 r2=>have c':=c;rw[Yl,Qw]at c';obtain⟨as,ra,n1⟩:=PY I sg hK h r1 c'.1;obtain⟨bs,rb,n2⟩:=readsAll_z I sg hK t r2 c'.2;exact⟨_,.cons ra rb,by simp[n1,n2]⟩
end
end
section
variable{X:Cx}
def YR:Co->Cs
 |[d]=>if Kg d=Cm/\d.showable=Cm/\d.depth<=50/\d.shown.length<=1000000 then Ci (.str d.shown)else Ck
 |_=>Ck
theorem EL(hu:X.A.units+64<cLine)(hg:X.A.guards=Ci [])(hK:SmK X.K):Zo X (.builtin "repr") (λxs H Q=>∃G v d,xs=[v]/\Same G H/\Rep X.K G v d/\Kg d=Cm/\d.showable=Cm/\d.depth<=50/\d.shown.length<=1000000/\Q (.str d.shown) H):=by
 intro pins s σ H xs us Q I rx h;obtain⟨G,v,d,rfl,sg,r,c1,c2,c4,c5,q⟩:=h;obtain⟨u,rfl,ru⟩:=rx.one;obtain⟨as,ra,hn⟩:=PY I sg hK r ru c1;have fin:∀h'(t:Tok) tk,(∀b o,s.heap.get? b=Ci o->h'.get? b=Ci o)->EP X pins σ Q (.str d.shown t) {s with heap:=h',toks:=tk}:=λh' t tk hk=>⟨.str d.shown,H,I.kept hk,⟨t,rfl⟩,q⟩
 cases r with
 |non=>cases ru;exact P.repr_of_none (fin s.heap _ _ λ_ _ e=>e)
 |bl b=>cases ru;exact P.repr_of_bool (fin s.heap _ _ λ_ _ e=>e)
 |int i=>obtain⟨t,rfl⟩:=ru;exact P.repr_of_int (by have:(int i).showable=Cm:=c2;simpa[PyData.showable]using this) (fin s.heap _ _ λ_ _ e=>e)
 |str x=>obtain⟨t,rfl⟩:=ru;exact P.repr_of_str (fin s.heap _ _ λ_ _ e=>e) (QJ c5 lim)
 |lst h r=>cases ru;exact repr_of_reads' ra c2 (λ_=>hn) hg (by omega) (λ_ _ e=>e) (λh' t tk hk=>fin h' t tk hk) (QJ c5 lim)
 |tup h r=>cases ru;exact repr_of_reads' ra c2 (λ_=>hn) hg (by omega) (λ_ _ e=>e) (λh' t tk hk=>fin h' t tk hk) (QJ c5 lim)
 |dic h=>cases ru;exact repr_of_reads' ra c2 (λ_=>hn) hg (by omega) (λ_ _ e=>e) (λh' t tk hk=>fin h' t tk hk) (QJ c5 lim)
 |exc _ _ _ _=>simp[Kg,layKv,Z7]at c1
 |dct _ _ _ _ _=>cases ru;exact repr_of_reads' ra c2 (λ_=>hn) hg (by omega) (λ_ _ e=>e) (λh' t tk hk=>fin h' t tk hk) (QJ c5 lim)
 |dtt e _ _ _=>subst e;simp[Kg,layKv,Z7,pdD]at c1
theorem HZ(hu:X.A.units+64<cLine)(hg:X.A.guards=Ci [])(hK:SmK X.K):ZB X (.builtin "repr") YR:=by
 refine⟨_,EL hu hg hK,λvs G H ds d Q s r e k=>?_⟩;unfold YR at e;split at e
 .split at e
  .rename_i x c
   cases e;obtain⟨v,rfl,q1⟩:=r.one_inv;exact⟨G,v,_,rfl,s,q1,c.1,c.2.1,c.2.2.1,c.2.2.2,k _ G H (.refl s) (.str _)⟩
  .cases e
 .cases e
theorem Er{d:D}(c:Kg d=Cm/\d.showable=Cm/\d.depth<=50/\d.shown.length<=1000000):YR [d]=Ci (.str d.shown):=by unfold YR;exact Qs c
end
end DL
namespace L2
open PySem PySem.Spec PyProof.Rows
end L2
namespace DL
open PySem PySem.Spec L2
open PyProof.Rows hiding St
end DL
namespace L2
open PySem PySem.Spec PyProof.Rows
end L2
namespace DL
open PySem PySem.Spec L2
open PyProof.Rows hiding St
def spO(K:Frag)(n:Nat)(F:Co->Option Co):Sp:=λvs H Q _=>∃G ds r,vs.length=n/\Same G H/\Reps K G vs ds/\F ds=Ci r/\∀a ws G' H',Ext G H G' H'->H a=Ck->G' a=Ck->H' a=Ci (.lst ws)->Reps K G' ws r->Q (.ref a) H'
def tSO(K:Frag)(B G0:Hp)(g:SM)(f:M Co):TS:=λDn σ H=>∃G Z,EOk K B G0 G H σ Z/\match g Z with
 |.nx Z1=>(match f Z1 with
  |.ok ds _=>∀a vs G' H',Ext G0 B G' H'->B a=Ck->G' a=Ck->H' a=Ci (.lst vs)->Reps K G' vs ds->Dn.rt (.ref a) H'
  |.bad=>False)
 |.ro ds=>∀a vs G' H',Ext G0 B G' H'->B a=Ck->G' a=Ck->H' a=Ci (.lst vs)->Reps K G' vs ds->Dn.rt (.ref a) H'
 |_=>False
section
variable{X:Cx}{B G0:Hp}{e:JX}{pos:Pos}{es:Cr}{st:Stmt}{sts:List Stmt}
theorem ML{f:M Co}(h:PE X e (tL X.K B G0 f)):PSs X [.Return (Ci e) pos] (tSO X.K B G0 sNx f):=XS (Rj (Ta h)) λD σ H ⟨G,Z,k,a⟩=>by
 refine⟨G,Z,k,?_⟩;dsimp only[sNx]at a;cases z:f Z with
 |bad=>rw[z]at a;exact a.elim
 |ok ds Z'=>rw[z]at a;exact λad vs G' H' k' s' n=>a ad vs G' H' k'.exit n.b n.g n.h n.r
def WE(f:M Co):SM:=λZ=>match f Z with | .ok ds _=>.ro ds | .bad=>.bad
theorem HY{KX:XW}{f:M Co}(h:PE X e (tL X.K B G0 f)):PS X (.Return (Ci e) pos) (tS X.K B G0 KX (WE f)):=Ky (Ta h) λD σ H ⟨G,Z,k,a⟩=>by
 refine⟨G,Z,k,?_⟩;unfold WE at a;cases z:f Z with
 |bad=>rw[z]at a;exact a.elim
 |ok ds Z'=>rw[z]at a;exact λad vs G' H' k' s' n=>a ad vs G' H' k'.exit n.b n.g n.h n.r
theorem HX{g h:SM}{f:M Co}(h1:PS X st (tS X.K B G0 KX0 g))(h2:PSs X sts (tSO X.K B G0 h f)):PSs X (st::sts) (tSO X.K B G0 (Ut g h) f):=XS (VM h1 h2) λD σ H ⟨G,Z,k,a⟩=>by
 refine⟨G,Z,k,?_⟩;unfold Ut at a;cases z:g Z with
 |nx Z1=>rw[z]at a;exact λσ' G' H' k' s'=>⟨G',Z1,k',a⟩
 |rt d=>rw[z]at a;exact a.elim
 |ro ds=>rw[z]at a;exact a
 |bk Z1=>rw[z]at a;exact a.elim
 |ct Z1=>rw[z]at a;exact a.elim
 |ex Z1 d=>rw[z]at a;exact a.elim
 |bad=>rw[z]at a;exact a.elim
def KS(N:List Str)(g:SM)(f:M Co)(ds:Co):Option Co:=match g (KJ N ds)with
 |.nx Z=>(match f Z with
  |.ok r _=>Ci r
  |.bad=>Ck)
 |.ro ds=>Ci ds
 |_=>Ck
theorem okO{P:JU}{w:World}{K:Frag}{mg:Str->Cw}{base:Heap}{x qual:Str}{st:Stmt}{f:JV}{fd:JW}{N ps:List Str}{k n:Nat}{g:SM}{q:M Co}(F:Fun K x qual st f fd)(S:X7 N ps (Kj st))(hn:ps.length=n)
  (der:∀(cdv:JS)(A:Around)(outer:List Env)(s:JT)(H:Hp)(E:XK)(B G0:Hp),Room k (A.deeper (envOfC qual (Kj st) s.heap.objs.size f cdv)) ->
   PSs (Zk CX0 P w K mg base N qual (Kj st) f cdv A outer s H E).nox (Yk st) (tSO K B G0 g q)):FnOk P w K mg base CX0 (k+1) f fd ps (spO K n (KS N g q)):=by
 refine F.ok S (λvs H Q E h=>?_) (λcdv A outer s H vs Q E hr h=>?_)
 .obtain⟨_,_,_,hl,_⟩:=h
  rw[hl,hn]
 .obtain⟨G,ds,d,hl,sg,r,hF,qq⟩:=h
  refine⟨_,der cdv A outer s H E H G hr,G,KJ N ds,Rl sg r,?_⟩;unfold KS at hF;cases z:g (KJ N ds)with
  |nx Z=>
   rw[z]at hF;dsimp only at hF⊢;cases z2:q Z with
   |bad=>rw[z2]at hF;cases hF
   |ok d' Z'=>rw[z2]at hF;cases hF;exact λa vs G' H' ex hb hg hh rr=>qq a vs G' H' ex hb hg hh rr
  |rt d'=>rw[z]at hF;cases hF
  |ro d'=>rw[z]at hF;cases hF;exact λa vs G' H' ex hb hg hh rr=>qq a vs G' H' ex hb hg hh rr
  |bk Z=>rw[z]at hF;cases hF
  |ct Z=>rw[z]at hF;cases hF
  |ex Z d=>rw[z]at hF;cases hF
  |bad=>rw[z]at hF;cases hF
def Xq(P:JU)(w:World)(K:Frag)(mg:Str->Cw)(base:Heap)(x:Str)(k n:Nat)(F:Co->Option Co):Prop:=
 ∃(f:JV)(fd:JW)(ps:List Str),mg x=Ci (.ref f)/\PySem.W.keepIn K (.ref f)=Cm/\YN K fd ps []/\FnOk P w K mg base CX0 k f fd ps (spO K n F)
def YZ(n:Nat)(F:Co->Option Co)(g:M Co):M Co:=UD g λxs=>if xs.length=n then Ux (F xs)else λ_=>.bad
theorem TM{k kk n:Nat}{F:Co->Option Co}{g:M Co}{x:Str}{p2:Pos}(d:Xq X.prog X.w X.K X.mg X.base x k n F)(hr:Room kk X.A)(hg:Gl X x)(ha:PA X (e::es) (tDs X.K B G0 g))(hk:k<=kk:=by decide)(hn:(e::es).length=n:=by rfl)
  (hdb:(x==("__debug__" : Str))=Cn:=by decide) (he:J0 (e::es) X.env=(Cn,eval e X.env)::J0 es X.env:=by rfl) (hpl:(backTo pos (J0 es X.env)).any (·.1)=Cn:=by rfl) :
  PE X (.Call (.Name x p2) (e::es) [] pos) (tL X.K B G0 (YZ n F g)):=by
 obtain⟨f,fd,ps,h1,h2,h3,h4⟩:=d;refine UI (SO h4 (hr.mono hk) hg h1 h2 h3 .nil T6 ha hdb he hpl) λσ H Q ⟨G,Z,kk0,a⟩=>?_
 refine⟨G,Z,kk0,?_⟩;unfold YZ UD at a;cases z:g Z with
 |bad=>rw[z]at a;exact a.elim
 |ok xs Z1=>
  rw[z]at a;dsimp only at a⊢;intro vs G1 H1 k1 s1 r1;by_cases hl:xs.length=n
  .rw[Qs hl]at a
   unfold Ux at a;cases zf:F xs with
   |none=>rw[zf]at a;exact a.elim
   |some r=>
    rw[zf]at a;dsimp only at a;refine⟨G1,xs,r,by rw[QY,r1.length];exact hl,k1.gh,by rw[QY];exact r1,zf,λad ws G' H' ex hh hg' hH rr=>?_⟩;refine a ad ws G' H' (k1.ext ex) (s1.trans ex.g) ⟨?_,hg',hH,rr,λj es q w=>?_,λj pt d v fp q s r=>k1.freshD ex.h hh q s r⟩
    .cases q:B ad with
     |none=>rfl
     |some u=>have:=k1.bh ad u q;rw[hh]at this;cases this
    .obtain⟨b,us,g1,g2,g3,g4,g5⟩:=k1.own j es q
     rw[g1]at w;cases w;rw[hh]at g4;cases g4
  .rw[QM hl]at a
   exact a.elim
end
theorem Pa{q p:JU}{loose:List Str}{mean:ExcName->Cw}{mg mb:Str->Cw}{h:Heap}{ix:Cz}(P:JU)(w:World)(base:Heap){ps:List Str}{k n:Nat}{F:Co->Option Co}(T:PyProof.Rows.Top q loose mean mg mb h)(e:recsOf q=XU p ix)(i:Nat)(x:Str)(hi:ix.contains i=Cm)(hn:Vq (UZ p i)=Ci x)
  (ok:∀{f:JV}{fd:JW},Fun (whole h) x x (UZ p i) f fd->FnOk P w (whole h) mg base CX0 k f fd ps (spO (whole h) n F))
  (hb:∀(kV doc pm:JS)(an:CA)(cdv ct:JS)(us:Cq),us.length=ps.length->bindArgs (PySem.W.fnOf x x (XG (UZ p i)) (Yk (UZ p i)) (Kj (UZ p i)) .none kV doc pm an cdv ct) ⟨us,[]⟩=pure (ps.zip us)):Xq P w (whole h) mg base x k n F:=by
 obtain⟨f,fd,m,FU⟩:=V0 T e i x hi hn;exact⟨f,fd,ps,m,FU.kp,FU.binds hb,ok FU⟩
theorem SB{n:Nat}{F:Co->Option Co}{g:M Co}{Z Z1:Ul}{xs r:Co}(h1:g Z=.ok xs Z1)(h2:xs.length=n)(h3:F xs=Ci r):YZ n F g Z=.ok r Z1:=by unfold YZ UD;rw[h1];dsimp only;rw[Qs h2,h3];rfl
theorem N4{N:List Str}{g:SM}{f:M Co}{ds r:Co}{Z Z1 Z2:Ul}(h0:KJ N ds=Z)(h1:g Z=.nx Z1)(h2:f Z1=.ok r Z2):KS N g f ds=Ci r:=by subst h0;unfold KS;rw[h1];dsimp only;rw[h2]
theorem MK{N:List Str}{g:SM}{f:M Co}{ds r:Co}{Z:Ul}(h0:KJ N ds=Z)(h1:g Z=.ro r):KS N g f ds=Ci r:=by subst h0;unfold KS;rw[h1]
theorem GF{f:M Co}{Z Z1:Ul}{ds:Co}{Q:Out->Prop}(h1:f Z=.ok ds Z1)(h2:Q (.ro ds)):Ho (WE f) Z Q:=by constructor;unfold WE;rw[h1];exact h2
end DL
namespace L2
open PySem PySem.Spec PyProof.Rows
end L2
namespace DL
open PySem PySem.Spec L2
open PyProof.Rows hiding St
theorem EOk.lent{K:Frag}{B G0 G H:Hp}{σ:St}{Z:Ul}(k:EOk K B G0 G H σ Z):EOk K H H H H σ (UY Z) where
 bh:=.refl _
 gh:=.refl _
 g0:=.refl _
 np:=λ_ _ e n=>by rw[n]at e;cases e
 len:=by unfold UY;rw[Qd];exact k.len
 pub:=λi d e=>by
  rcases OZ e with e2|⟨ds,rfl,e2⟩|⟨p,e2⟩
  .exact k.tree (by unfold Vr;rw[e2])
  .exact k.tree (by unfold Vr;rw[e2])
  .exact k.tree (by unfold Vr;rw[e2])
 own:=λi ds e=>(W9 e).elim
 sep:=λi j a ds es e=>(W9 e).elim
 dp:=.of (λ_ _ _ q=>Nr q) λ_ _ q=>W9 q
theorem EOk.back{K:Frag}{B G0 G H H':Hp}{σ:St}{Z:Ul}(k:EOk K B G0 G H σ Z)(e:Same H H'):EOk K B G0 G H' σ Z:=k.ext ⟨e,.refl _,k.gh.trans e,λ_ _ _ n=>n⟩
end DL
namespace L2
open PySem PySem.Spec PyProof.Rows
end L2
namespace DL
open PySem PySem.Spec L2
open PyProof.Rows hiding St
end DL
namespace L2
open PySem PySem.Spec PyProof.Rows
end L2
namespace DL
open PySem PySem.Spec L2
open PyProof.Rows hiding St
theorem Sn{α:Type}(a:α):[a].Nodup:=by simp
section
variable{K:Frag}{B G0 G H:Hp}{σ:St}{Z:Ul}
structure NewT(K:Frag)(B G H:Hp)(σ:St)(Z:Ul)(pt:Pat)(v:V)(d:D)(fp:Ct):Prop where
 r:RepO K G H pt v d fp
 nd:fp.Nodup
 b:∀a∈fp,B a=Ck/\G a=Ck
 f:∀a∈fp,∀(j:Nat) es,Z[j]?=Ci (Ci (.own es))->σ[j]?≠Ci (Ci (.ref a))
 dp:∀a∈fp,∀(j:Nat) p d v fp',Z[j]?=Ci (Ci (.deep p d))->σ[j]?=Ci (Ci v)->RepO K G H p v d fp'->a∉fp'
theorem EOk.setDeep{i:Nat}{pt:Pat}{v:V}{d:D}{fp:Ct}(k:EOk K B G0 G H σ Z)(n:NewT K B G H σ Z pt v d fp)(hi:i<Z.length):EOk K B G0 G H (σ.set i (Ci v)) (Z.set i (Ci (.deep pt d))) where
 bh:=k.bh
 gh:=k.gh
 g0:=k.g0
 np:=k.np
 len:=by rw[QZ,QZ];exact k.len
 pub:=λj d' q=>by
  by_cases z:i=j
  .subst z;have:=Kr q;cases this
  .rw[Qk z]at q⊢
   exact k.pub j d' q
 own:=λj es q=>by
  by_cases z:i=j
  .subst z;have:=Kr q;cases this
  .rw[Qk z]at q⊢
   exact k.own j es q
 sep:=λj l c es fs q1 q2 s1 s2=>by
  have z1:i≠j:=λz=>by subst z;have:=Kr q1;cases this
  have z2:i≠l:=λz=>by subst z;have:=Kr q2;cases this
  rw[Qk z1]at q1 s1;rw[Qk z2]at q2 s2;exact k.sep j l c es fs q1 q2 s1 s2
 dp:=by
  obtain⟨ω,k1,k2⟩:=k.dp;have hs:i<σ.length:=by rw[←k.len];exact hi
  refine⟨λb=>if b∈fp then i else ω b,λj p d' q=>?_,λj es b q s=>?_⟩
  .by_cases z:i=j
   .subst z
    have:=Kr q;cases this;exact⟨v,fp,QL hs,n.r,n.nd,λa m=>⟨(n.b a m).1,(n.b a m).2,Qs m⟩⟩
   .rw[Qk z]at q⊢
    obtain⟨v',fp',s,r,nn,w⟩:=k1 j p d' q;refine⟨v',fp',s,r,nn,λb m=>⟨(w b m).1,(w b m).2.1,?_⟩⟩;dsimp only;rw[QM (λz=>n.dp b z j p d' v' fp' q s r m)];exact(w b m).2.2
  .by_cases z:i=j
   .subst z;have:=Kr q;cases this
   .rw[Qk z]at q s
    dsimp only;rw[QM (λz=>n.f b z j es q s)];exact k2 j es b q s
theorem EOk.newT{G' H':Hp}{pt:Pat}{v:V}{d:D}{fp:Ct}(k1:EOk K B G0 G H σ Z)(sh:Same H H')(r:RepO K G' H' pt v d fp)(nd:fp.Nodup)(fr:∀a∈fp,H a=Ck/\G' a=Ck):NewT K B G' H' σ Z pt v d fp where
 r:=r
 nd:=nd
 b:=λa m=>⟨k1.bh.free (fr a m).1,(fr a m).2⟩
 f:=λa m j es q w=>by obtain⟨b,us,g1,g2,g3,g4,g5⟩:=k1.own j es q;rw[g1]at w;cases w;rw[(fr a m).1]at g4;cases g4
 dp:=λa m j p d v fp' q s r=>k1.freshD sh (fr a m).1 q s r
theorem EOk.forget{i:Nat}(k:EOk K B G0 G H σ Z):EOk K B G0 G H σ (Z.set i Ck):=by
 have nz:∀{m:Nat}{s:Sl},(Z.set i Ck)[m]?=Ci (Ci s)->Z[m]?=Ci (Ci s):=λ{m s} q=>by
  by_cases z:i=m
  .subst z;have:=Kr q;cases this
  .rw[Qk z]at q;exact q
 exact⟨k.bh,k.gh,k.g0,k.np,by rw[QZ];exact k.len,λj d q=>k.pub j d (nz q),λj ds q=>k.own j ds (nz q),λj l c es fs q1 q2 s1 s2=>k.sep j l c es fs (nz q1) (nz q2) s1 s2,
  k.dp.map (λm p d q=>⟨nz q,rfl⟩) (λm es q=>⟨es,nz q,rfl⟩) λm p d v fp q s r w n=>⟨r,w⟩⟩
theorem RepOl.leaf:∀{vs:List V}{ds:Co},Reps K G vs ds->RepOl K G H .leaf vs ds []
 |_,_,.nil=>.nil
 |_,_,.cons h t=>.cons (f1:=[]) (f2:=[]) (.leaf h) (RepOl.leaf t)
theorem RepOl.append{p:Pat}:∀{vs ws:List V}{ds es:Co}{f1 f2:Ct},RepOl K G H p vs ds f1->RepOl K G H p ws es f2->RepOl K G H p (vs++ws) (ds++es) (f1++f2)
 |_,_,_,_,_,_,.nil,s=>s
 |_,_,_,_,_,_,.cons r t,s=>by rw[Jx];exact .cons r (RepOl.append t s)
theorem RepOl.length{p:Pat}:∀{vs:List V}{ds:Co}{fp:Ct},RepOl K G H p vs ds fp->vs.length=ds.length
 |_,_,_,.nil=>rfl
 |_,_,_,.cons _ t=>by rw[QI,QI,RepOl.length t]
def K9(Z:Ul)(i:Nat):Option (Pat×D):=match Z[i]? with
 |some (Ci (.own ds))=>Ci (.lst .leaf,.list ds)
 |some (Ci (.deep p d))=>Ci (p,d)
 |_=>Ck
theorem EOk.slots(k:EOk K B G0 G H σ Z):∃ω:JV->Nat,∀(i:Nat) p d,K9 Z i=Ci (p,d)->∃v fp,σ[i]?=Ci (Ci v)/\RepO K G H p v d fp/\fp.Nodup/\∀a∈fp,B a=Ck/\G a=Ck/\ω a=i:=by
 obtain⟨ω,k1,k2⟩:=k.dp;refine⟨ω,λi p d h=>?_⟩;unfold K9 at h;split at h
 .rename_i ds q
  cases h;obtain⟨a,vs,h1,h2,h3,h4,h5⟩:=k.own i ds q;refine⟨.ref a,[a],h1,.lst h4 (.leaf h5),Sn a,λb m=>?_⟩;rw[Qp.mp m];exact⟨h2,h3,k2 i ds a q h1⟩
 .rename_i p' d' q
  cases h;exact k1 i p d q
 .cases h
theorem EOk.mutD{j:Nat}{p:Pat}{d d':D}{v:V}{fp fp':Ct}{a:JV}{o:HO}(k:EOk K B G0 G H σ Z)(hd:Z[j]?=Ci (Ci (.deep p d)))(hv:σ[j]?=Ci (Ci v))(r:RepO K G H p v d fp)(ha:a∈fp)
  (r':RepO K G (upd H a o) p v d' fp') (Bd:fp'.Nodup) (sub:∀b∈fp',b∈fp):EOk K B G0 G (upd H a o) σ (Z.set j (Ci (.deep p d'))):=by
 obtain⟨ω,k1,k2⟩:=k.dp;obtain⟨v0,fp0,s0,r0,n0,w0⟩:=k1 j p d hd;rw[hv]at s0;cases s0;have e0:=r0.uniq (.refl _) r;subst e0;obtain⟨hb,hg,hw⟩:=w0 a ha;obtain⟨ws,hl⟩:=r.isl a ha;have nt:∀vs,H a≠Ci (.tup vs):=λvs z=>by rw[hl]at z;cases ws<;>cases z
 have Bp:j<Z.length:=(Qm.mp hd).1;have nz:∀{m:Nat}{s:Sl},j≠m->(Z.set j (Ci (.deep p d')))[m]?=Ci (Ci s)->Z[m]?=Ci (Ci s):=λ{m s} z q=>by rw[Qk z]at q;exact q
 refine⟨λb u e=>?_,λb u e=>?_,k.g0,k.np,by rw[QZ];exact k.len,λm dm e=>?_,λm es e=>?_,λm l c es fs q1 q2 s1 s2=>?_,ω,λm pm dm e=>?_,λm es b e s=>?_⟩
 .rw[US (Zm e hb)];exact k.bh b u e
 .rw[US (Zm e hg)];exact k.gh b u e
 .by_cases z:j=m
  .subst z;have:=Kr e;cases this
  .exact k.pub m dm (nz z e)
 .by_cases z:j=m
  .subst z;have:=Kr e;cases this
  .have e:=nz z e
   obtain⟨c,us,g1,g2,g3,g4,g5⟩:=k.own m es e;have zc:c≠a:=λw=>by subst w;exact z (hw.symm.trans (k2 m es c e g1))
   exact⟨c,us,g1,g2,g3,by rw[US zc];exact g4,g5⟩
 .have z1:j≠m:=λz=>by subst z;have:=Kr q1;cases this
  have z2:j≠l:=λz=>by subst z;have:=Kr q2;cases this
  exact k.sep m l c es fs (nz z1 q1) (nz z2 q2) s1 s2
 .by_cases z:j=m
  .subst z
   have:=Kr e;cases this;exact⟨v,fp',hv,r',Bd,λb mb=>w0 b (sub b mb)⟩
  .obtain⟨vm,fm,sm,rm,nm,wm⟩:=k1 m pm dm (nz z e)
   exact⟨vm,fm,sm,rm.upd nt (λmm=>z (hw.symm.trans (wm a mm).2.2)),nm,wm⟩
 .have z:j≠m:=λz=>by subst z;have:=Kr e;cases this
  exact k2 m es b (nz z e) s
theorem EOk.mutM{j i:Nat}{p:Pat}{d d':D}{v:V}{fp fp':Ct}{ds:Co}{a b0:JV}{o:HO}(k:EOk K B G0 G H σ Z)(hd:Z[j]?=Ci (Ci (.deep p d)))(hv:σ[j]?=Ci (Ci v))(r:RepO K G H p v d fp)(ha:a∈fp)
  (hi:Z[i]?=Ci (Ci (.own ds))) (hb0:σ[i]?=Ci (Ci (.ref b0))) (r':RepO K G (upd H a o) p v d' fp') (Bd:fp'.Nodup) (sub:∀b∈fp',b∈fp∨b=b0):EOk K B G0 G (upd H a o) σ ((Z.set j (Ci (.deep p d'))).set i Ck):=by
 obtain⟨ω,k1,k2⟩:=k.dp;have hij:i≠j:=λz=>by subst z;rw[hd]at hi;cases hi
 obtain⟨v0,fp0,s0,r0,n0,w0⟩:=k1 j p d hd;rw[hv]at s0;cases s0;have e0:=r0.uniq (.refl _) r;subst e0;obtain⟨hb,hg,hw⟩:=w0 a ha;obtain⟨ws,hl⟩:=r.isl a ha;obtain⟨b1,us1,i1,i2,i3,i4,i5⟩:=k.own i ds hi;rw[hb0]at i1;cases i1;have hwb:=k2 i ds b0 hi hb0;have nt:∀vs,H a≠Ci (.tup vs):=λvs z=>by rw[hl]at z;cases ws<;>cases z
 have nz:∀{m:Nat}{s:Sl},j≠m->((Z.set j (Ci (.deep p d'))).set i Ck)[m]?=Ci (Ci s)->Z[m]?=Ci (Ci s)/\i≠m:=λ{m s} z q=>by
  by_cases zi:i=m
  .subst zi;have:=Kr q;cases this
  .rw[Qk zi,Qk z]at q;exact⟨q,zi⟩
 have atj:∀{s:Sl},((Z.set j (Ci (.deep p d'))).set i Ck)[j]?=Ci (Ci s)->s=.deep p d':=λ{s} q=>by rw[Qk hij]at q;have:=Kr q;cases this;rfl
 refine⟨λb u e=>?_,λb u e=>?_,k.g0,k.np,by rw[QZ,QZ];exact k.len,λm dm e=>?_,λm es e=>?_,λm l c es fs q1 q2 s1 s2=>?_,λb=>if b=b0 then j else ω b,λm pm dm e=>?_,λm es b e s=>?_⟩
 .rw[US (Zm e hb)];exact k.bh b u e
 .rw[US (Zm e hg)];exact k.gh b u e
 .by_cases z:j=m
  .subst z;cases atj e
  .exact k.pub m dm (nz z e).1
 .by_cases z:j=m
  .subst z;cases atj e
  .have e:=(nz z e).1
   obtain⟨c,us,g1,g2,g3,g4,g5⟩:=k.own m es e;have zc:c≠a:=λw=>by subst w;exact z (hw.symm.trans (k2 m es c e g1))
   exact⟨c,us,g1,g2,g3,by rw[US zc];exact g4,g5⟩
 .have z1:j≠m:=λz=>by subst z;cases atj q1
  have z2:j≠l:=λz=>by subst z;cases atj q2
  exact k.sep m l c es fs (nz z1 q1).1 (nz z2 q2).1 s1 s2
 .by_cases z:j=m
  .subst z
   cases atj e;refine⟨v,fp',hv,r',Bd,λb mb=>?_⟩;dsimp only;rcases sub b mb with mb|rfl
   .refine⟨(w0 b mb).1,(w0 b mb).2.1,?_⟩
    split
    .rfl
    .exact(w0 b mb).2.2
   .exact⟨i2,i3,Qs Cj⟩
  .obtain⟨e,zi⟩:=nz z e
   obtain⟨vm,fm,sm,rm,nm,wm⟩:=k1 m pm dm e;refine⟨vm,fm,sm,rm.upd nt (λmm=>z (hw.symm.trans (wm a mm).2.2)),nm,λb mb=>⟨(wm b mb).1,(wm b mb).2.1,?_⟩⟩;dsimp only;rw[QM (λy=>by subst y;exact zi (hwb.symm.trans (wm b mb).2.2))];exact(wm b mb).2.2
 .have z:j≠m:=λz=>by subst z;cases atj e
  obtain⟨e,zi⟩:=nz z e;dsimp only;have:=k2 m es b e s;rw[QM (λy=>by subst y;exact zi (hwb.symm.trans this))];exact this
end
def tT(K:Frag)(B G0:Hp)(pt:Pat)(f:M D):TE:=λσ H Q=>∃G Z,EOk K B G0 G H σ Z/\match f Z with
 |.ok d Z'=>∀v fp G' H',EOk K B G0 G' H' σ Z'->Same G G'->NewT K B G' H' σ Z' pt v d fp->Q v H'
 |.bad=>False
def WD(i:Nat)(pt:Pat)(f:M D):SM:=sB f λd Z=>if i<Z.length then .nx (Z.set i (Ci (.deep pt d)))else .bad
def spT(K:Frag)(n:Nat)(pt:Pat)(F:Co->Cs):Sp:=λvs H Q _=>∃G ds d,vs.length=n/\Same G H/\Reps K G vs ds/\F ds=Ci d/\∀v fp G' H',Ext G H G' H'->RepO K G' H' pt v d fp->fp.Nodup->(∀a∈fp,H a=Ck/\G' a=Ck)->Q v H'
def tST(K:Frag)(B G0:Hp)(pt:Pat)(g:SM)(f:M D):TS:=λDn σ H=>∃G Z,EOk K B G0 G H σ Z/\match g Z with
 |.nx Z1=>(match f Z1 with
  |.ok d _=>∀v fp G' H',Ext G0 B G' H'->RepO K G' H' pt v d fp->fp.Nodup->(∀a∈fp,B a=Ck/\G' a=Ck)->Dn.rt v H'
  |.bad=>False)
 |_=>False
def Ve(N:List Str)(g:SM)(f:M D)(ds:Co):Cs:=match g (KJ N ds)with
 |.nx Z=>(match f Z with
  |.ok r _=>Ci r
  |.bad=>Ck)
 |_=>Ck
def WC(P:JU)(w:World)(K:Frag)(mg:Str->Cw)(base:Heap)(x:Str)(k n:Nat)(pt:Pat)(F:Co->Cs):Prop:=
 ∃(f:JV)(fd:JW)(ps:List Str),mg x=Ci (.ref f)/\PySem.W.keepIn K (.ref f)=Cm/\YN K fd ps []/\FnOk P w K mg base CX0 k f fd ps (spT K n pt F)
section
variable{X:Cx}{B G0:Hp}{KX:XW}{e o a b c:JX}{pos:Pos}{es:Cr}{st:Stmt}{sts:List Stmt}{pt:Pat}
theorem PX{i:Nat}{x:Str}{f:M D}{p2:Pos}(hN:X.N.Nodup)(hi:X.N[i]?=Ci x)(hx:Loc X.env.scope x)(he:PE X e (tT X.K B G0 pt f))(hs:swapsWith e (Ci (.Name x p2)) pos.line X.env=pure Cn:=by rfl)
  (hf:X.fn x=Cm∨X.env.scope.names.lookup x=Ci .local:=by first|exact .inl rfl|exact .inr rfl|assumption):PS X (.Assign [.Name x p2] e pos) (tS X.K B G0 KX (WD i pt f)):=
 Ky (V9 hN hi hx he hs hf) λD σ H ⟨G,Z,k,a⟩=>by
  refine⟨G,Z,k,?_⟩;unfold WD sB at a;cases z:f Z with
  |bad=>rw[z]at a;exact a.elim
  |ok ds Z1=>
   rw[z]at a;intro v fp G' H' k' s' n;dsimp only at a;split at a
   .rename_i hl
    exact a _ G' H' (k'.setDeep n hl) s'
   .exact a.elim
theorem NewL.tree{K:Frag}{G H:Hp}{σ:St}{Z:Ul}{ad:JV}{vs:List V}{ds:Co}(n:NewL K B G H σ Z ad vs ds){p:Pat}(r:RepOl K G H p vs ds []):NewT K B G H σ Z (.lst p) (.ref ad) (.list ds) [ad] where
 r:=.lst n.h r
 nd:=Sn ad
 b:=λb m=>by rw[Qp.mp m];exact⟨n.b,n.g⟩
 f:=λb m=>by rw[Qp.mp m];exact n.f
 dp:=λb m=>by rw[Qp.mp m];exact n.dp
theorem PV{p:Pat}:PE X (.List [] pos) (tT X.K B G0 (.lst p) (Uq (.list []))):=UI (SL (B:=B) (G0:=G0) Kq) λσ H Q ⟨G,Z,k,a⟩=>by
 refine⟨G,Z,k,?_⟩;intro ad vs G' H' k' s' n;have hv:vs=[]:=by have:=n.r;cases this;rfl
 subst hv;exact a _ _ G' H' k' s' (n.tree .nil)
theorem R9{f:M D}(h:PE X e (tT X.K B G0 pt f)):PSs X [.Return (Ci e) pos] (tST X.K B G0 pt sNx f):=XS (Rj (Ta h)) λD σ H ⟨G,Z,k,a⟩=>by
 refine⟨G,Z,k,?_⟩;dsimp only[sNx]at a;cases z:f Z with
 |bad=>rw[z]at a;exact a.elim
 |ok ds Z'=>rw[z]at a;exact λv fp G' H' k' s' n=>a v fp G' H' k'.exit n.r n.nd n.b
theorem VA{g h:SM}{f:M D}(h1:PS X st (tS X.K B G0 KX0 g))(h2:PSs X sts (tST X.K B G0 pt h f)):PSs X (st::sts) (tST X.K B G0 pt (Ut g h) f):=XS (VM h1 h2) λD σ H ⟨G,Z,k,a⟩=>by
 refine⟨G,Z,k,?_⟩;unfold Ut at a;cases z:g Z with
 |nx Z1=>rw[z]at a;exact λσ' G' H' k' s'=>⟨G',Z1,k',a⟩
 |rt d=>rw[z]at a;exact a.elim
 |ro ds=>rw[z]at a;exact a.elim
 |bk Z1=>rw[z]at a;exact a.elim
 |ct Z1=>rw[z]at a;exact a.elim
 |ex Z1 d=>rw[z]at a;exact a.elim
 |bad=>rw[z]at a;exact a.elim
theorem okT{P:JU}{w:World}{K:Frag}{mg:Str->Cw}{base:Heap}{x qual:Str}{st:Stmt}{f:JV}{fd:JW}{N ps:List Str}{k n:Nat}{g:SM}{q:M D}(F:Fun K x qual st f fd)(S:X7 N ps (Kj st))(hn:ps.length=n)
  (der:∀(cdv:JS)(A:Around)(outer:List Env)(s:JT)(H:Hp)(E:XK)(B G0:Hp),Room k (A.deeper (envOfC qual (Kj st) s.heap.objs.size f cdv)) ->
   PSs (Zk CX0 P w K mg base N qual (Kj st) f cdv A outer s H E).nox (Yk st) (tST K B G0 pt g q)):FnOk P w K mg base CX0 (k+1) f fd ps (spT K n pt (Ve N g q)):=by
 refine F.ok S (λvs H Q E h=>?_) (λcdv A outer s H vs Q E hr h=>?_)
 .obtain⟨_,_,_,hl,_⟩:=h
  rw[hl,hn]
 .obtain⟨G,ds,d,hl,sg,r,hF,qq⟩:=h
  refine⟨_,der cdv A outer s H E H G hr,G,KJ N ds,Rl sg r,?_⟩;unfold Ve at hF;cases z:g (KJ N ds)with
  |nx Z=>
   rw[z]at hF;dsimp only at hF⊢;cases z2:q Z with
   |bad=>rw[z2]at hF;cases hF
   |ok d' Z'=>rw[z2]at hF;cases hF;exact λv fp G' H' ex rr nd fr=>qq v fp G' H' ex rr nd fr
  |rt d'=>rw[z]at hF;cases hF
  |ro ds=>rw[z]at hF;cases hF
  |bk Z=>rw[z]at hF;cases hF
  |ct Z=>rw[z]at hF;cases hF
  |ex Z d=>rw[z]at hF;cases hF
  |bad=>rw[z]at hF;cases hF
theorem Oq{k kk n:Nat}{F:Co->Cs}{g:M Co}{x:Str}{p2:Pos}(d:WC X.prog X.w X.K X.mg X.base x k n pt F)(hr:Room kk X.A)(hg:Gl X x)(ha:PA X (e::es) (tDs X.K B G0 g))(hk:k<=kk:=by decide)(hn:(e::es).length=n:=by rfl)
  (hdb:(x==("__debug__" : Str))=Cn:=by decide) (he:J0 (e::es) X.env=(Cn,eval e X.env)::J0 es X.env:=by rfl) (hpl:(backTo pos (J0 es X.env)).any (·.1)=Cn:=by rfl) :
  PE X (.Call (.Name x p2) (e::es) [] pos) (tT X.K B G0 pt (UF n F g)):=by
 obtain⟨f,fd,ps,h1,h2,h3,h4⟩:=d;refine UI (SO h4 (hr.mono hk) hg h1 h2 h3 .nil T6 ha hdb he hpl) λσ H Q ⟨G,Z,kk0,a⟩=>?_
 refine⟨G,Z,kk0,?_⟩;unfold UF UD at a;cases z:g Z with
 |bad=>rw[z]at a;exact a.elim
 |ok xs Z1=>
  rw[z]at a;dsimp only at a⊢;intro vs G1 H1 k1 s1 r1;by_cases hl:xs.length=n
  .rw[Qs hl]at a
   unfold Ux at a;cases zf:F xs with
   |none=>rw[zf]at a;exact a.elim
   |some r=>rw[zf]at a;dsimp only at a;refine⟨G1,xs,r,by rw[QY,r1.length];exact hl,k1.gh,by rw[QY];exact r1,zf,λv fp G' H' ex rr nd fr=>?_⟩;exact a v fp G' H' (k1.ext ex) (s1.trans ex.g) (k1.newT ex.h rr nd fr)
  .rw[QM hl]at a
   exact a.elim
def Vd(j i:Nat):SM:=λZ=>match Z[j]?,Z[i]? with
 |some (Ci (.deep (.lst (.lst .leaf)) (.list dss))),Ci (Ci (.own ds))=>if dss.length<1000000 then .nx ((Z.set j (Ci (.deep (.lst (.lst .leaf)) (.list (dss++[.list ds]))))).set i Ck)else .bad
 |_,_=>.bad
theorem GE{j i:Nat}{apos cpos:Pos}(ho:PE X o (U7 j))(he:PE X e (U7 i))
  (hbase:attributeBase o "append" X.env (eval o X.env)=eval o X.env:=by rfl)
  (hfew:((backTo cpos (J0 [e] X.env)).all (λx=>!x.1)&&(backToKw cpos (keywordEach [] X.env)).all (λx=>x.1.isSome)
   && decide ([e].length+([]:List Keyword).length+(if([]:List Keyword).isEmpty then 0 else 1)<30))=Cm:=by rfl)
  (hline:(apos.endLine==cpos.line)=Cm:=by rfl) (hs:J0 [e] X.env=[(Cn,eval e X.env)]:=by rfl)
  (hsw:swapsWith (.Call (.Attribute o "append" apos) [e] [] cpos) Ck pos.line X.env=pure Cn:=by rfl) :
  PS X (.Expr (.Call (.Attribute o "append" apos) [e] [] cpos) pos) (tS X.K B G0 KX (Vd j i)):=
 Ky (Tt (T7 PySem.F.plainAttrs_list PySem.F.slot_list_append PySem.F.type_list_append TJ ho (Ys he Y3 (by rw[hs];rfl)) hbase hfew hline (by rw[hs];rfl) Cj) hsw) λD σ H ⟨G,Z,k,q⟩=>by
  unfold Vd at q;split at q
  case h_2=>exact q.elim
  case h_1 dss ds hj hi=>
  split at q
  case isFalse=>exact q.elim
  case isTrue hlim=>
  obtain⟨ω,ks⟩:=k.slots;obtain⟨v,fp,hv,r,nd,w⟩:=ks j _ _ (by unfold K9;rw[hj]);obtain⟨v2,fp2,hv2,r2,nd2,w2⟩:=ks i _ _ (by unfold K9;rw[hi]);cases r with
  |lst h rl=>
  rename_i ad vs fp;cases r2 with
  |lst h2 rl2=>
  rename_i bd us fp2;have hij:i≠j:=λz=>by subst z;rw[hj]at hi;cases hi
  have hne:bd≠ad:=λz=>by subst z;exact hij ((w2 bd Ql).2.2.symm.trans (w bd Ql).2.2)
  have hnb:bd∉ad::fp:=λm=>hij ((w2 bd Ql).2.2.symm.trans (w bd m).2.2)
  have hf2:fp2=[]:=by obtain⟨a',us',i1,i2,i3,i4,i5⟩:=k.own i ds hi;rw[hv2]at i1;cases i1;have u:RepO X.K G H (.lst .leaf) (.ref bd) (.list ds) [bd]:=.lst i4 (.leaf i5);have:=(RepO.lst h2 rl2).uniq (.refl _) u;injection this
  subst hf2;refine⟨.ref ad,hv,.inl ⟨rfl,_,SqL.of h⟩,.ref bd,hv2,ad,vs,.ref bd,rfl,rfl,h,by rw[rl.length];exact QD hlim lim,?_⟩;have nt:∀ws,H ad≠Ci (.tup ws):=λws z=>by rw[h]at z;cases z
  obtain⟨na,nf⟩:=Jj.mp nd;refine q σ G _ (k.mutM hj hv (.lst h rl) Ql hi hv2 (d':=.list (dss++[.list ds])) (fp':=ad::(fp++([bd]++[]))) (.lst Kk ((rl.upd nt na).append (.cons ((RepO.lst h2 rl2).upd nt (λm=>hne (Qp.mp m).symm)) .nil))) ?_ ?_) (.refl _)
  .rw[QY]
   refine Jj.mpr ⟨λm=>?_,Q6.mpr ⟨nf,Sn bd,λx hx y hy e=>?_⟩⟩
   .rcases QC.mp m with m|m
    .exact na m
    .exact hne (Qp.mp m).symm
   .rw[Qp.mp hy]at e
    subst e;exact hnb (Qo _ hx)
  .intro b mb
   rw[QY]at mb;rcases Qu.mp mb with rfl|mb
   .exact .inl Ql
   .rcases QC.mp mb with mb|mb
    .exact .inl (Qo _ mb)
    .exact .inr (Qp.mp mb)
end
section
variable{K:Frag}{B G0 G H:Hp}{σ:St}{Z:Ul}
inductive MOp where
 |rev|clr|app (d:D)|set (k:Nat) (d:D)
def MOp.dOf:MOp->Pat->Co->Option Co
 |.rev,_,ds=>Ci ds.reverse
 |.clr,_,_=>Ci []
 |.app d,.leaf,ds=>if ds.length<1000000 then Ci (ds++[d])else Ck
 |.set k d,.leaf,ds=>if k<ds.length then Ci (ds.set k d)else Ck
 |_,_,_=>Ck
def MOp.vOf:MOp->V->List V->List V
 |.rev,_,vs=>vs.reverse
 |.clr,_,_=>[]
 |.app _,u,vs=>vs++[u]
 |.set k _,u,vs=>vs.set k u
def MOp.arg(K:Frag)(G:Hp):MOp->V->Prop
 |.app d,u=>Rep K G u d
 |.set _ d,u=>Rep K G u d
 |_,_=>True
theorem MOp.app_inv{d:D}{p:Pat}{ds ds':Co}(e:(MOp.app d).dOf p ds=Ci ds'):p=.leaf/\ds.length<1000000/\ds'=ds++[d]:=by
 cases p with
 |leaf=>
  have e:(if ds.length<1000000 then Ci (ds++[d])else Ck)=Ci ds':=e;split at e
  .rename_i h;exact⟨rfl,h,(QA e).symm⟩
  .cases e
 |lst _=>cases e
 |tup _=>cases e
 |dic=>cases e
theorem MOp.set_inv{d:D}{k:Nat}{p:Pat}{ds ds':Co}(e:(MOp.set k d).dOf p ds=Ci ds'):p=.leaf/\k<ds.length/\ds'=ds.set k d:=by
 cases p with
 |leaf=>
  have e:(if k<ds.length then Ci (ds.set k d)else Ck)=Ci ds':=e;split at e
  .rename_i h;exact⟨rfl,h,(QA e).symm⟩
  .cases e
 |lst _=>cases e
 |tup _=>cases e
 |dic=>cases e
theorem RepOl.leaf_inv:∀{vs:List V}{ds:Co}{fp:Ct},RepOl K G H .leaf vs ds fp->Reps K G vs ds/\fp=[]
 |_,_,_,.nil=>⟨.nil,rfl⟩
 |_,_,_,.cons (.leaf r) t=>by obtain⟨r2,e⟩:=RepOl.leaf_inv t;subst e;exact⟨.cons r r2,rfl⟩
theorem RepOl.reverse{p:Pat}:∀{vs:List V}{ds:Co}{fp:Ct},RepOl K G H p vs ds fp->∃fp',RepOl K G H p vs.reverse ds.reverse fp'/\fp'.Perm fp
 |_,_,_,.nil=>⟨[],.nil,.refl _⟩
 |_,_,_,.cons (f1:=f1) (f2:=f2) r t=>by obtain⟨f,r2,e⟩:=RepOl.reverse t;refine⟨f++(f1++[]),by rw[Jw,Jw];exact r2.append (.cons r .nil),?_⟩;rw[QY];exact(e.append_right f1).trans List.perm_append_comm
theorem MOp.ok{op:MOp}{p:Pat}{vs:List V}{ds ds':Co}{fp:Ct}{u:V}(r:RepOl K G H p vs ds fp)(e:op.dOf p ds=Ci ds')(ha:op.arg K G u):∃fp',RepOl K G H p (op.vOf u vs) ds' fp'/\(∀b∈fp',b∈fp)/\(fp.Nodup->fp'.Nodup):=by
 cases op with
 |rev=>cases e;obtain⟨fp',r2,pm⟩:=r.reverse;exact⟨fp',r2,λb m=>pm.mem_iff.mp m,λn=>pm.nodup_iff.mpr n⟩
 |clr=>cases e;exact⟨[],.nil,(λb m=>by simp at m),λ_=>List.nodup_nil⟩
 |app d=>obtain⟨rfl,_,rfl⟩:=MOp.app_inv e;obtain⟨r2,rfl⟩:=r.leaf_inv;exact⟨[],.leaf (r2.append (.cons ha .nil)),λb m=>m,λn=>n⟩
 |set k d=>obtain⟨rfl,_,rfl⟩:=MOp.set_inv e;obtain⟨r2,rfl⟩:=r.leaf_inv;exact⟨[],.leaf (r2.set ha k),λb m=>m,λn=>n⟩
def ZT(op:MOp):Cz->Pat->D->Cs
 |[],.lst p,.list ds=>(op.dOf p ds).map .list
 |k::r,.lst p,.list ds=>(ds[k]?).bind λd=>(ZT op r p d).map λd'=>.list (ds.set k d')
 |k::r,.tup ps,.tuple ds=>(ps[k]?).bind λp=>(ds[k]?).bind λd=>(ZT op r p d).map λd'=>.tuple (ds.set k d')
 |_,_,_=>Ck
def Xy(H:Hp):Cz->V->Option V
 |[],v=>Ci v
 |k::r,.ref a=>match H a with
  |some (.lst vs)=>(vs[k]?).bind (Xy H r)
  |some (.tup vs)=>(vs[k]?).bind (Xy H r)
  |_=>Ck
 |_::_,_=>Ck
theorem RepOl.at{p:Pat}:∀{vs:List V}{ds:Co}{fp:Ct}{k:Nat}{d:D},RepOl K G H p vs ds fp->ds[k]?=Ci d->fp.Nodup->∃v f,vs[k]?=Ci v/\RepO K G H p v d f/\f.Nodup/\(∀b∈f,b∈fp) /\
  ∀a∈f,(∀ws,H a≠Ci (.tup ws))->∀o d' f',RepO K G (L2.upd H a o) p v d' f'->f'.Nodup->(∀b∈f',b∈f)->∃fp',RepOl K G (L2.upd H a o) p vs (ds.set k d') fp'/\fp'.Nodup/\∀b∈fp',b∈fp
 |_,_,_,_,_,.nil,e,_=>by cases e
 |_,_,_,0,_,.cons (f1:=f1) (f2:=f2) r t,e,n=>by
  cases e;obtain⟨n1,n2,nn⟩:=Q6.mp n;refine⟨_,f1,rfl,r,n1,λb m=>Q2 _ m,λa m nt o d' f' r' Bd sub=>⟨f'++f2,.cons r' (t.upd nt (λm2=>nn a m a m2 Cj)),Q6.mpr ⟨Bd,n2,λx hx y hy=>nn x (sub x hx) y hy⟩,λb m=>?_⟩⟩;rcases QC.mp m with m|m
  .exact Q2 _ (sub b m)
  .exact Qq _ m
 |_,_,_,k+1,d,.cons (f1:=f1) (f2:=f2) r t,e,n=>by
  obtain⟨n1,n2,nn⟩:=Q6.mp n;obtain⟨v,f,h1,h2,h3,h4,h5⟩:=RepOl.at (k:=k) (d:=d) t (by simpa using e) n2;refine⟨v,f,by simpa using h1,h2,h3,λb m=>List.mem_append_right _ (h4 b m),λa m nt o d' f' r' Bd sub=>?_⟩;obtain⟨fp',g1,g2,g3⟩:=h5 a m nt o d' f' r' Bd sub;refine⟨f1++fp',.cons (r.upd nt (λm2=>nn a m2 a (h4 a m) Cj)) g1,Q6.mpr ⟨n1,g2,λx hx y hy=>nn x hx y (g3 y hy)⟩,λb m=>?_⟩;rcases QC.mp m with m|m
  .exact Q2 _ m
  .exact Qq _ (g3 b m)
theorem RepOs.at:∀{ps:List Pat}{vs:List V}{ds:Co}{fp:Ct}{k:Nat}{p:Pat}{d:D},RepOs K G H ps vs ds fp->ps[k]?=Ci p->ds[k]?=Ci d->fp.Nodup->∃v f,vs[k]?=Ci v/\RepO K G H p v d f/\f.Nodup/\(∀b∈f,b∈fp) /\
  ∀a∈f,(∀ws,H a≠Ci (.tup ws))->∀o d' f',RepO K G (L2.upd H a o) p v d' f'->f'.Nodup->(∀b∈f',b∈f)->∃fp',RepOs K G (L2.upd H a o) ps vs (ds.set k d') fp'/\fp'.Nodup/\∀b∈fp',b∈fp
 |_,_,_,_,_,_,_,.nil,_,e,_=>by cases e
 |_,_,_,_,0,_,_,.cons (f1:=f1) (f2:=f2) r t,e0,e,n=>by
  cases e;cases e0;obtain⟨n1,n2,nn⟩:=Q6.mp n;refine⟨_,f1,rfl,r,n1,λb m=>Q2 _ m,λa m nt o d' f' r' Bd sub=>⟨f'++f2,.cons r' (t.upd nt (λm2=>nn a m a m2 Cj)),Q6.mpr ⟨Bd,n2,λx hx y hy=>nn x (sub x hx) y hy⟩,λb m=>?_⟩⟩;rcases QC.mp m with m|m
  .exact Q2 _ (sub b m)
  .exact Qq _ m
 |_,_,_,_,k+1,p,d,.cons (f1:=f1) (f2:=f2) r t,e0,e,n=>by
  obtain⟨n1,n2,nn⟩:=Q6.mp n;obtain⟨v,f,h1,h2,h3,h4,h5⟩:=RepOs.at (k:=k) (p:=p) (d:=d) t (by simpa using e0) (by simpa using e) n2;refine⟨v,f,by simpa using h1,h2,h3,λb m=>List.mem_append_right _ (h4 b m),λa m nt o d' f' r' Bd sub=>?_⟩;obtain⟨fp',g1,g2,g3⟩:=h5 a m nt o d' f' r' Bd sub;refine⟨f1++fp',.cons (r.upd nt (λm2=>nn a m2 a (h4 a m) Cj)) g1,Q6.mpr ⟨n1,g2,λx hx y hy=>nn x hx y (g3 y hy)⟩,λb m=>?_⟩;rcases QC.mp m with m|m
  .exact Q2 _ m
  .exact Qq _ (g3 b m)
theorem RepO.mut{op:MOp}{u:V}(ha:op.arg K G u):∀(path:Cz){p:Pat}{v:V}{d d':D}{fp:Ct},RepO K G H p v d fp->fp.Nodup->ZT op path p d=Ci d'->∃a vs,Xy H path v=Ci (.ref a)/\a∈fp/\H a=Ci (.lst vs) /\
  (∃q ds ds',vs.length=ds.length/\op.dOf q ds=Ci ds')/\∃fp',RepO K G (L2.upd H a (.lst (op.vOf u vs))) p v d' fp'/\fp'.Nodup/\∀b∈fp',b∈fp
 |[],p,v,d,d',fp,r,n,e=>by
  cases r with
  |leaf r=>cases e
  |tup h r=>cases e
  |dic _ _ h r=>cases e
  |lst h r=>
   rename_i p a vs ds fp;unfold ZT at e;cases z:op.dOf p ds with
   |none=>rw[z]at e;cases e
   |some ds'=>
   rw[z]at e;cases e;obtain⟨na,nf⟩:=Jj.mp n;obtain⟨fp',r',sub,nn⟩:=MOp.ok r z ha;refine⟨a,vs,rfl,Ql,h,⟨p,ds,ds',r.length,z⟩,a::fp',.lst Kk (r'.upd (λws y=>by rw[h]at y;cases y) (λm=>na (sub a m))),Jj.mpr ⟨λm=>na (sub a m),nn nf⟩,λb m=>?_⟩;rcases Qu.mp m with rfl|m
   .exact Ql
   .exact Qo _ (sub b m)
 |k::path,p,v,d,d',fp,r,n,e=>by
  cases r with
  |leaf r=>cases e
  |dic _ _ h r=>cases e
  |lst h r=>
   rename_i p a0 vs ds fp;unfold ZT at e;cases z:ds[k]? with
   |none=>rw[z]at e;cases e
   |some d0=>
   rw[z]at e;dsimp only[Option.bind_some]at e;cases z2:ZT op path p d0 with
   |none=>rw[z2]at e;cases e
   |some d1=>
   rw[z2]at e;cases e;obtain⟨na,nf⟩:=Jj.mp n;obtain⟨v0,f,h1,h2,h3,h4,h5⟩:=r.at z nf;obtain⟨a,ws,g1,g2,g3,g4,f',g5,g6,g7⟩:=RepO.mut ha path h2 h3 z2;have nt:∀us,H a≠Ci (.tup us):=λus y=>by rw[g3]at y;cases y
   obtain⟨fp',k1,k2,k3⟩:=h5 a g2 nt _ _ _ g5 g6 g7;have hne:a0≠a:=λy=>by subst y;exact na (h4 a0 g2)
   refine⟨a,ws,?_,Qo _ (h4 a g2),g3,g4,a0::fp',.lst (by rw[US hne];exact h) k1,Jj.mpr ⟨λm=>na (k3 a0 m),k2⟩,λb m=>?_⟩
   .unfold Xy
    rw[h];dsimp only;rw[h1];exact g1
   .rcases Qu.mp m with rfl|m
    .exact Ql
    .exact Qo _ (k3 b m)
  |tup h r=>
   rename_i ps a0 vs ds;unfold ZT at e;cases zp:ps[k]? with
   |none=>rw[zp]at e;cases e
   |some p0=>
   rw[zp]at e;dsimp only[Option.bind_some]at e;cases z:ds[k]? with
   |none=>rw[z]at e;cases e
   |some d0=>
   rw[z]at e;dsimp only[Option.bind_some]at e;cases z2:ZT op path p0 d0 with
   |none=>rw[z2]at e;cases e
   |some d1=>
   rw[z2]at e;cases e;obtain⟨v0,f,h1,h2,h3,h4,h5⟩:=r.at zp z n;obtain⟨a,ws,g1,g2,g3,g4,f',g5,g6,g7⟩:=RepO.mut ha path h2 h3 z2;have nt:∀us,H a≠Ci (.tup us):=λus y=>by rw[g3]at y;cases y
   obtain⟨fp',k1,k2,k3⟩:=h5 a g2 nt _ _ _ g5 g6 g7;have hne:a0≠a:=λy=>by subst y;rw[h]at g3;cases g3
   refine⟨a,ws,?_,h4 a g2,g3,g4,fp',.tup (by rw[US hne];exact h) k1,k2,k3⟩;unfold Xy;rw[h];dsimp only;rw[h1];exact g1
def YJ(K:Frag):Cz->V->Hp->VK->Prop
 |[],v,H,Q=>Q v H
 |k::r,v,H,Q=>rIx K v (.int k) H λu H'=>YJ K r u H' Q
def Yx(K:Frag)(i:Nat)(path:Cz):TE:=λσ H Q=>∃v,σ[i]?=Ci (Ci v)/\YJ K path v H Q
theorem GX{v u:V}{Q Q':VK}(h:rIx K v u H Q)(i:∀w H',Q w H'->Q' w H'):rIx K v u H Q':=by
 rcases h with ⟨p,xs,j,w,a,b,c,d,q⟩|⟨p,xs,j,w,a,b,c,d,q⟩|⟨z,j,w,a,b,c,d,q⟩
 .exact .inl ⟨p,xs,j,w,a,b,c,d,i _ _ q⟩
 .exact .inr (.inl ⟨p,xs,j,w,a,b,c,d,i _ _ q⟩)
 .exact .inr (.inr ⟨z,j,w,a,b,c,d,i _ _ q⟩)
theorem Nz{k:Nat}{Q:VK}:∀{path:Cz}{v:V}{H:Hp},YJ K (path++[k]) v H Q->YJ K path v H λx H1=>rIx K x (.int k) H1 Q
 |[],v,H,h=>h
 |j::r,v,H,h=>GX h λw H' q=>Nz q
theorem YJ.of{Q:VK}:∀{path:Cz}{v u:V},Xy H path v=Ci u->Q u H->YJ K path v H Q
 |[],v,u,e,q=>by cases e;exact q
 |k::r,v,u,e,q=>by
  cases v with
  |ref a=>
   unfold Xy at e;split at e
   .rename_i vs h
    cases z:vs[k]? with
    |none=>rw[z]at e;cases e
    |some w=>rw[z]at e;exact .inl ⟨a,vs,k,w,rfl,rfl,SqL.of h,Kh z,YJ.of e q⟩
   .rename_i vs h
    cases z:vs[k]? with
    |none=>rw[z]at e;cases e
    |some w=>rw[z]at e;exact .inr (.inl ⟨a,vs,k,w,rfl,rfl,SqT.of h,Kh z,YJ.of e q⟩)
   .cases e
  |_=>cases e
end
def Zt(i:Nat)(path:Cz)(op:MOp):SM:=λZ=>match K9 Z i with
 |some (p,d)=>(match ZT op path p d with
  |some d'=>(match Z[i]? with
   |some (Ci (.own _))=>(match d' with
    |.list ds'=>.nx (Z.set i (Ci (.own ds')))
    |_=>.bad)
   |_=>.nx (Z.set i (Ci (.deep p d'))))
  |none=>.bad)
 |none=>.bad
section
variable{X:Cx}{B G0:Hp}{KX:XW}{e o a b c:JX}{pos:Pos}{es:Cr}
theorem Op{i:Nat}{path:Cz}{op:MOp}{Dn:Ends}{σ:St}{H:Hp}{G:Hp}{Z:Ul}{u:V}(k:EOk X.K B G0 G H σ Z)(q:aftS X.K B G0 KX (Zt i path op Z) G Dn)(ha:op.arg X.K G u):∃v ad vs,σ[i]?=Ci (Ci v)/\Xy H path v=Ci (.ref ad)/\H ad=Ci (.lst vs) /\
  (∃q ds ds',vs.length=ds.length/\op.dOf q ds=Ci ds')/\Dn.nx σ (upd H ad (.lst (op.vOf u vs))):=by
 unfold Zt at q;cases z:K9 Z i with
 |none=>rw[z]at q;exact q.elim
 |some pd=>
 obtain⟨p,d⟩:=pd;rw[z]at q;dsimp only at q;cases z2:ZT op path p d with
 |none=>rw[z2]at q;exact q.elim
 |some d'=>
 rw[z2]at q;dsimp only at q;obtain⟨ω,ks⟩:=k.slots;obtain⟨v,fp,hv,r,nd,w⟩:=ks i p d z;obtain⟨ad,vs,g1,g2,g3,g4,fp',g5,g6,g7⟩:=r.mut ha path nd z2;refine⟨v,ad,vs,hv,g1,g3,g4,?_⟩;unfold K9 at z;split at z
 .rename_i ds hi
  cases z;rw[hi]at q;dsimp only at q;split at q
  .rename_i ds'
   obtain⟨a',us,i1,i2,i3,i4,i5⟩:=k.own i ds hi;rw[hv]at i1;cases i1;cases path with
   |nil=>
    cases g1;rw[i4]at g3;cases g3;cases g5 with
    |lst h rl=>
    rw[Kk]at h;cases h;exact q σ G _ (k.change hi hv rl.leaf_inv.1) (.refl _)
   |cons k0 r0=>
    unfold ZT at z2;cases zz:ds[k0]? with
    |none=>rw[zz]at z2;cases z2
    |some dd=>rw[zz]at z2;cases r0<;>cases z2
  .exact q.elim
 .rename_i p' d0 hi
  cases z;rw[hi]at q;exact q σ G _ (k.mutD hi hv r g2 g5 g6 g7) (.refl _)
 .cases z
theorem PU{i:Nat}(h:PE X e (U7 i)):PE X e (Yx X.K i []):=h
theorem Sz{i:Nat}{path:Cz}{k:Nat}{j}{p1:Pos}(h:PE X a (Yx X.K i path))(hs:Ts (.Constant (.int (k:Int)) j p1):=by exact λ_ _=>rfl):PE X (.Subscript a (.Constant (.int (k:Int)) j p1) pos) (Yx X.K i (path++[k])):=
 UI (T8 Ss h Tb hs) λσ H Q ⟨v,hv,q⟩=>⟨v,hv,Nz q⟩
theorem MJ{i:Nat}{path:Cz}{apos cpos:Pos}(ho:PE X o (Yx X.K i path))
  (hbase:attributeBase o "clear" X.env (eval o X.env)=eval o X.env:=by rfl) (hline:(apos.endLine==cpos.line)=Cm:=by rfl)
  (hsw:swapsWith (.Call (.Attribute o "clear" apos) [] [] cpos) Ck pos.line X.env=pure Cn:=by rfl) :
  PS X (.Expr (.Call (.Attribute o "clear" apos) [] [] cpos) pos) (tS X.K B G0 KX (Zt i path .clr)):=
 Ky (Tt (Hb PySem.F.plainAttrs_list PySem.F.slot_list_clear PySem.F.type_list_clear FP ho hbase hline) hsw) λD σ H ⟨G,Z,k,q⟩=>by obtain⟨v,ad,vs,h1,h2,h3,h4,h5⟩:=Op (u:=.non) k q trivial;exact⟨v,h1,YJ.of h2 ⟨.inl ⟨rfl,_,SqL.of h3⟩,ad,vs,rfl,rfl,h3,h5⟩⟩
theorem MI{i n:Nat}{path:Cz}{d:D}{u:V}{p2 p3:Pos}{j}(he:PE X e (tC u))(hd:∀G,Rep X.K G u d)(ho:PE X o (Yx X.K i path))(hs:swapsWith e (Ci (.Subscript o (.Constant (.int (n:Int)) j p3) p2)) pos.line X.env=pure Cn:=by rfl) :
  PS X (.Assign [.Subscript o (.Constant (.int (n:Int)) j p3) p2] e pos) (tS X.K B G0 KX (Zt i path (.set n d))):=
 Ky (OC he ho (Tb (i:=(n:Int)) (j:=j) (pos:=p3)) hs) λD σ H ⟨G,Z,k,q⟩=>by
  obtain⟨v,ad,vs,h1,h2,h3,⟨pp,ds,ds',h4,BN⟩,h5⟩:=Op (u:=u) k q (hd G);have hlen:n<vs.length:=by have:=(MOp.set_inv BN).2.1;omega
  exact⟨v,h1,YJ.of h2 ⟨ad,vs,n,rfl,h3,rfl,Int.natCast_nonneg _,by omega,by rw[Jb];exact h5⟩⟩
def Vp(f:M D):M D:=λZ=>match f (UY Z)with
 |.ok d _=>if flat d=Cm then .ok d Z else .bad
 |.bad=>.bad
theorem Oo{f:M D}(h:∀B' G',PE X e (tD X.K B' G' f)):PE X e (tD X.K B G0 (Vp f)):=by
 have h':PE X e (λσ H Q=>∃B' G',tD X.K B' G' f σ H Q):=λpins s σ H Q I ⟨B',G',q⟩=>h B' G' pins s σ H Q I q;refine UI h' λσ H Q ⟨G,Z,k,a⟩=>⟨H,H,H,UY Z,k.lent,?_⟩;unfold Vp at a
 cases z:f (UY Z)with
 |bad=>rw[z]at a;exact a.elim
 |ok d Z'=>
  rw[z]at a;dsimp only at a⊢;split at a
  .rename_i hf
   exact λv G' H' k' s' r=>a v G H' (k.back k'.bh) (.refl _) (r.flat hf)
  .exact a.elim
end
def Sd(j1 j2:Nat):M D:=λZ=>match K9 Z j1,K9 Z j2 with
 |some (_,d1),Ci (_,d2)=>if j1≠j2 then .ok (.tuple [d1,d2]) ((Z.set j1 Ck).set j2 Ck)else .bad
 |_,_=>.bad
section
variable{X:Cx}{B G0:Hp}{KX:XW}{e o a b c:JX}{pos:Pos}{es:Cr}
def N3(p1 p2:Pat)(j1 j2:Nat)(Z:Ul):Prop:=(∀p d,K9 Z j1=Ci (p,d)->p=p1)/\∀p d,K9 Z j2=Ci (p,d)->p=p2
def VZ(ok:Ul->Bool)(j1 j2:Nat):M D:=λZ=>if ok Z=Cm then Sd j1 j2 Z else .bad
theorem GW{p1 p2:Pat}{j1 j2:Nat}{ok:Ul->Bool}{k1}(hok:∀Z,ok Z=Cm->N3 p1 p2 j1 j2 Z)(ha:PE X a (U7 j1))(hb:PE X b (U7 j2))
  (hs1:J0 [a,b] X.env=(Cn,eval a X.env)::J0 [b] X.env:=by rfl) (hs2:J0 [b] X.env=[(Cn,eval b X.env)]:=by rfl) :
  PE X (.Tuple [a,b] k1 pos) (tT X.K B G0 (.tup [p1,p2]) (VZ ok j1 j2)):=
 UI (Pk (Ys ha (Ys hb Y3 hs2) hs1)) λσ H Q ⟨G,Z,k,q⟩=>by
  unfold VZ Sd at q;by_cases hc:ok Z=Cm
  case neg=>rw[QM hc]at q;exact q.elim
  rw[Qs hc]at q;obtain⟨c1,c2⟩:=hok Z hc;cases z1:K9 Z j1 with
  |none=>rw[z1]at q;exact q.elim
  |some s1=>
  cases z2:K9 Z j2 with
  |none=>rw[z1,z2]at q;exact q.elim
  |some s2=>
  obtain⟨q1,d1⟩:=s1;obtain⟨q2,d2⟩:=s2;rw[z1,z2]at q;dsimp only at q;by_cases hne:j1≠j2
  case neg=>rw[QM hne]at q;exact q.elim
  rw[Qs hne]at q;have e1:=c1 _ _ z1;have e2:=c2 _ _ z2;subst e1 e2;obtain⟨ω,ks⟩:=k.slots;obtain⟨v1,f1,hv1,r1,n1,w1⟩:=ks j1 _ _ z1;obtain⟨v2,f2,hv2,r2,n2,w2⟩:=ks j2 _ _ z2;refine⟨v1,hv1,v2,hv2,(show 2<=JY by decide),λp hp=>?_⟩;have sh:Same H (upd H p (.tup [v1,v2])):=KD hp;have kk:=((k.ext (Ext.hid (o:=.tup [v1,v2]) k.gh hp)).forget (i:=j1)).forget (i:=j2)
  have own:∀b∈f1++(f2++[]),B b=Ck/\G b=Ck/\(ω b=j1∨ω b=j2):=λb m=>by
   rw[QY]at m;rcases QC.mp m with m|m
   .exact⟨(w1 b m).1,(w1 b m).2.1,.inl (w1 b m).2.2⟩
   .exact⟨(w2 b m).1,(w2 b m).2.1,.inr (w2 b m).2.2⟩
  have nz:∀{m:Nat}{s:Sl},((Z.set j1 Ck).set j2 Ck)[m]?=Ci (Ci s)->Z[m]?=Ci (Ci s)/\j1≠m/\j2≠m:=λ{m s} q=>by
   by_cases y2:j2=m
   .subst y2;have:=Kr q;cases this
   .rw[Qk y2]at q
    by_cases y1:j1=m
    .subst y1;have:=Kr q;cases this
    .rw[Qk y1]at q;exact⟨q,y1,y2⟩
  refine q (.ref p) (f1++(f2++[])) G _ kk (.refl _) ⟨.tup Kk (.cons (r1.mono (.refl _) sh) (.cons (r2.mono (.refl _) sh) .nil)),?_,λb m=>⟨(own b m).1,(own b m).2.1⟩,λb m j es ho hs=>?_,λb m j p' d' v' fp' ho hs rr mm=>?_⟩
  .rw[QY]
   exact Q6.mpr ⟨n1,n2,λx hx y hy e=>by subst e;exact hne ((w1 x hx).2.2.symm.trans (w2 x hy).2.2)⟩
  .obtain⟨ho,y1,y2⟩:=nz ho
   obtain⟨v3,f3,BY,r3,n3,w3⟩:=ks j (.lst .leaf) (.list es) (by unfold K9;rw[ho]);rw[hs]at BY;cases BY
   have mb:b∈f3:=by
    cases r3 with
    |lst h rl=>exact Ql
   rcases(own b m).2.2 with z|z
   .exact y1 (z.symm.trans (w3 b mb).2.2)
   .exact y2 (z.symm.trans (w3 b mb).2.2)
  .obtain⟨ho,y1,y2⟩:=nz ho
   obtain⟨v3,f3,BY,r3,n3,w3⟩:=ks j p' d' (by unfold K9;rw[ho]);rw[hs]at BY;cases BY;have eu:=r3.uniq sh rr;subst eu
   rcases(own b m).2.2 with z|z
   .exact y1 (z.symm.trans (w3 b mm).2.2)
   .exact y2 (z.symm.trans (w3 b mm).2.2)
end
def isT:Option HO->Bool
 |some (.tup _)=>Cm
 |some (.frz _ (.tup _))=>Cm
 |_=>Cn
theorem MH{u:MO}:isT (Ci u.ho)=Cn:=by cases u<;>rfl
def Ko(fp:Ct)(G H:Hp):Hp:=λb=>if b∈fp∨isT (H b)=Cm then H b else G b
section
variable{K:Frag}{B G0 G H:Hp}{fp:Ct}
theorem Ep(gh:Same G H):Same G (Ko fp G H):=λb o e=>by
 unfold Ko;split
 .exact gh b o e
 .exact e
theorem GD(gh:Same G H):Same (Ko fp G H) H:=λb o e=>by
 unfold Ko at e;split at e
 .exact e
 .exact gh b o e
theorem Re{b:JV}(h:b∈fp∨isT (H b)=Cm):Ko fp G H b=H b:=by unfold Ko;rw[Qs h]
theorem Rc{b:JV}(h:b∉fp)(h2:isT (H b)=Cn):Ko fp G H b=G b:=by
 unfold Ko;rw[QM];rintro(z|z)
 .exact h z
 .rw[h2]at z;cases z
theorem Ext.pubT{G' H':Hp}(ex:Ext G H G' H')(fr:∀a∈fp,H a=Ck):Ext G H (Ko fp G' H') H':=
 ⟨ex.h,ex.g.trans (Ep ex.gh),GD ex.gh,λa u e n=>by rw[Rc (λm=>by rw[fr a m]at e;cases e) (by rw[ex.h a _ e];exact MH)];exact ex.np a u e n⟩
def nl0:D->Bool
 |.tuple ds=>ds.all flat
 |d=>flat d
theorem Rep.nl{G' G2 H':Hp}{v:V}{d:D}(r:Rep K G' v d)(h:nl0 d=Cm)(gh:Same G' H'):Rep K (Ko fp G2 H') v d:=by
 cases r with
 |tup hs rr=>
  refine .tup ?_ (rr.flat h);rcases hs with (hs|⟨o,hs⟩)|hs
  .have:=gh _ _ hs
   exact .inl (.inl ((Re (.inr (by rw[this];rfl))).trans this))
  .have:=gh _ _ hs
   exact .inl (.inr ⟨o,(Re (.inr (by rw[this];rfl))).trans this⟩)
  .exact .inr hs
 |non=>exact .non
 |bl b=>exact .bl b
 |int i=>exact .int i
 |str x=>exact .str x
 |lst _ _=>cases h
 |dic _=>cases h
 |exc _ _ _ _=>cases h
 |dct _ _ _ _ _=>cases h
 |dtt _ _ _ _=>cases h
theorem Reps.nl{G' G2 H':Hp}(gh:Same G' H'):∀{vs:List V}{ds:Co},Reps K G' vs ds->ds.all nl0=Cm->Reps K (Ko fp G2 H') vs ds
 |_,_,.nil,_=>.nil
 |_,_,.cons r t,h=>by rw[List.all_cons,Qw]at h;exact .cons (r.nl h.1 gh) (Reps.nl gh t h.2)
end
def X2(f:M Co):M Co:=λZ=>match f (UY Z)with
 |.ok ds _=>if ds.all nl0=Cm then .ok ds Z else .bad
 |.bad=>.bad
def Pat.is:Pat->Pat->Bool
 |.leaf,.leaf=>Cm
 |.lst p,.lst q=>p.is q
 |_,_=>Cn
theorem Pat.is_eq:∀{p q:Pat},p.is q=Cm->p=q
 |.leaf,.leaf,_=>rfl
 |.lst p,.lst q,h=>by rw[Pat.is_eq (p:=p) (q:=q) h]
 |.leaf,.lst _,h=>by cases h
 |.leaf,.tup _,h=>by cases h
 |.lst _,.leaf,h=>by cases h
 |.lst _,.tup _,h=>by cases h
 |.tup _,.leaf,h=>by cases h
 |.tup _,.lst _,h=>by cases h
 |.tup _,.tup _,h=>by cases h
def YQ(p:Pat)(j:Nat)(Z:Ul):Bool:=match K9 Z j with
 |some (q,_)=>q.is p
 |none=>Cn
def VO(p1 p2:Pat)(j1 j2:Nat):M D:=VZ (λZ=>YQ p1 j1 Z&&YQ p2 j2 Z) j1 j2
section
variable{X:Cx}{B G0:Hp}{KX:XW}{e o a b c:JX}{pos:Pos}{es:Cr}{pt:Pat}
theorem Ro{f:M Co}(h:∀B' G',PE X e (tL X.K B' G' f)):PE X e (tL X.K B G0 (X2 f)):=by
 have h':PE X e (λσ H Q=>∃B' G',tL X.K B' G' f σ H Q):=λpins s σ H Q I ⟨B',G',q⟩=>h B' G' pins s σ H Q I q;refine UI h' λσ H Q ⟨G,Z,k,a⟩=>⟨H,H,H,UY Z,k.lent,?_⟩;unfold X2 at a
 cases z:f (UY Z)with
 |bad=>rw[z]at a;exact a.elim
 |ok ds Z'=>
  rw[z]at a;dsimp only at a⊢;by_cases hf:ds.all nl0=Cm
  .rw[Qs hf]at a
   intro ad vs G' H' k' s' n;have ex:Ext G H G H':=⟨k'.bh,.refl _,k.gh.trans k'.bh,λ_ _ _ n=>n⟩;have ex2:Ext G H (Ko [] G H') H':=ex.pubT (λa m=>by cases m);refine a ad vs (Ko [] G H') H' (k.ext ex2) ex2.g ⟨k.bh.free n.b,?_,n.h,n.r.nl k'.gh hf,λj es q w=>?_,λj pt d v fp q s r=>k.freshD k'.bh n.b q s r⟩
   .rw[Rc (by simp) (by rw[n.h];rfl)]
    exact k.gh.free n.b
   .obtain⟨b,us,g1,g2,g3,g4,g5⟩:=k.own j es q
    rw[g1]at w;cases w;rw[n.b]at g4;cases g4
  .rw[QM hf]at a;exact a.elim
theorem On{p1 p2:Pat}{j1 j2:Nat}{k1}(ha:PE X a (U7 j1))(hb:PE X b (U7 j2))
  (hs1:J0 [a,b] X.env=(Cn,eval a X.env)::J0 [b] X.env:=by rfl) (hs2:J0 [b] X.env=[(Cn,eval b X.env)]:=by rfl) :
  PE X (.Tuple [a,b] k1 pos) (tT X.K B G0 (.tup [p1,p2]) (VO p1 p2 j1 j2)):=GW (λZ h=>by
 rw[Qw]at h;have key:∀{p:Pat}{j:Nat},YQ p j Z=Cm->∀q d,K9 Z j=Ci (q,d)->q=p:=λ{p j} h q d e=>by unfold YQ at h;rw[e]at h;exact Pat.is_eq h
 exact⟨key h.1,key h.2⟩) ha hb hs1 hs2
end
theorem MG{q p:JU}{loose:List Str}{mean:ExcName->Cw}{mg mb:Str->Cw}{h:Heap}{ix:Cz}(P:JU)(w:World)(base:Heap){ps:List Str}{k n:Nat}{pt:Pat}{F:Co->Cs}(T:PyProof.Rows.Top q loose mean mg mb h)(e:recsOf q=XU p ix)(i:Nat)(x:Str)(hi:ix.contains i=Cm)(hn:Vq (UZ p i)=Ci x)
  (ok:∀{f:JV}{fd:JW},Fun (whole h) x x (UZ p i) f fd->FnOk P w (whole h) mg base CX0 k f fd ps (spT (whole h) n pt F))
  (hb:∀(kV doc pm:JS)(an:CA)(cdv ct:JS)(us:Cq),us.length=ps.length->bindArgs (PySem.W.fnOf x x (XG (UZ p i)) (Yk (UZ p i)) (Kj (UZ p i)) .none kV doc pm an cdv ct) ⟨us,[]⟩=pure (ps.zip us)):WC P w (whole h) mg base x k n pt F:=by
 obtain⟨f,fd,m,FU⟩:=V0 T e i x hi hn;exact⟨f,fd,ps,m,FU.kp,FU.binds hb,ok FU⟩
section
variable{Z Z1 Z2 Z':Ul}{pt:Pat}
theorem PR{i:Nat}{f:M D}{d:D}(h1:f Z=.ok d Z1)(h2:i<Z1.length)(h3:Z1.set i (Ci (.deep pt d))=Z'):WD i pt f Z=.nx Z':=by unfold WD sB;rw[h1];dsimp only;rw[if_pos h2];subst h3;rfl
theorem GC{j i:Nat}{dss ds:Co}(h1:Z[j]?=Ci (Ci (.deep (.lst (.lst .leaf)) (.list dss))))(h2:Z[i]?=Ci (Ci (.own ds)))(h3:dss.length<1000000)(h4:(Z.set j (Ci (.deep (.lst (.lst .leaf)) (.list (dss++[.list ds]))))).set i Ck=Z'):Vd j i Z=.nx Z':=by unfold Vd;rw[h1,h2];dsimp only;rw[if_pos h3,h4]
theorem PQ{i:Nat}{path:Cz}{op:MOp}{p:Pat}{d d':D}(h1:Z[i]?=Ci (Ci (.deep p d)))(h2:ZT op path p d=Ci d')(h3:Z.set i (Ci (.deep p d'))=Z'):Zt i path op Z=.nx Z':=by unfold Zt K9;rw[h1];dsimp only;rw[h2];dsimp only;rw[h3]
theorem GV{f:M D}{d:D}(h:f (UY Z)=.ok d Z')(hf:flat d=Cm):Vp f Z=.ok d Z:=by unfold Vp;rw[h];dsimp only;rw[if_pos hf]
theorem Rn{f:M Co}{ds:Co}(h:f (UY Z)=.ok ds Z')(hf:ds.all nl0=Cm):X2 f Z=.ok ds Z:=by unfold X2;rw[h];dsimp only;rw[if_pos hf]
theorem GB{p1 p2:Pat}{j1 j2:Nat}{q1 q2:Pat}{d1 d2:D}(h1:K9 Z j1=Ci (q1,d1))(h2:K9 Z j2=Ci (q2,d2))(i1:q1.is p1=Cm)(i2:q2.is p2=Cm)(hj:j1≠j2):VO p1 p2 j1 j2 Z=.ok (.tuple [d1,d2]) ((Z.set j1 Ck).set j2 Ck):=by
 have a1:YQ p1 j1 Z=Cm:=by unfold YQ;rw[h1];exact i1
 have a2:YQ p2 j2 Z=Cm:=by unfold YQ;rw[h2];exact i2
 unfold VO VZ;rw[Qs (show(YQ p1 j1 Z&&YQ p2 j2 Z)=Cm by rw[a1,a2];rfl)];unfold Sd;rw[h1,h2];dsimp only;rw[Qs hj]
theorem N0{N:List Str}{g:SM}{f:M D}{ds:Co}{P:D->Prop}(h0:KJ N ds=Z)(h:Ho g Z λo=>∃Z1,o=.nx Z1/\∃d Z2,f Z1=.ok d Z2/\P d):∃d,Ve N g f ds=Ci d/\P d:=by subst h0;obtain⟨Z1,e,d,Z2,e2,p⟩:=h.out;refine⟨d,?_,p⟩;unfold Ve;rw[e];dsimp only;rw[e2]
end
def KT(i:Nat):M Co:=λZ=>match Z[i]? with
 |some (Ci (.own ds))=>.ok ds (Z.set i Ck)
 |_=>.bad
section
variable{X:Cx}{B G0:Hp}{e:JX}
theorem GA{i:Nat}(h:PE X e (U7 i)):PE X e (tL X.K B G0 (KT i)):=UI h λσ H Q ⟨G,Z,k,q⟩=>by
 cases ho:Z[i]? with
 |none=>unfold KT at q;rw[ho]at q;exact q.elim
 |some oo=>
 cases oo with
 |none=>unfold KT at q;rw[ho]at q;exact q.elim
 |some sl=>
 cases sl with
 |pub d=>unfold KT at q;rw[ho]at q;exact q.elim
 |deep p d=>unfold KT at q;rw[ho]at q;exact q.elim
 |own ds=>
 unfold KT at q;rw[ho]at q;dsimp only at q;obtain⟨ad,vs,h1,h2,h3,h4,h5⟩:=k.own i ds ho;obtain⟨ω,k1,k2⟩:=id k.dp;have hw:=k2 i ds ad ho h1
 have nz:∀{m:Nat}{s:Sl},(Z.set i Ck)[m]?=Ci (Ci s)->Z[m]?=Ci (Ci s)/\i≠m:=λ{m s} q=>by
  by_cases z:i=m
  .subst z;have:=Kr q;cases this
  .rw[Qk z]at q;exact⟨q,z⟩
 refine⟨.ref ad,h1,q ad vs G H k.forget (.refl _) ⟨h2,h3,h4,h5,λj es e w=>?_,λj p d v fp e w r m=>?_⟩⟩
 .obtain⟨e,z⟩:=nz e
  exact z (k.sep i j ad ds es ho e h1 w)
 .obtain⟨e,z⟩:=nz e
  obtain⟨v',fp',s',r',n',w'⟩:=k1 j p d e;rw[w]at s';cases s';have u:=r'.uniq (.refl _) r;subst u;exact z (hw.symm.trans (w' ad m).2.2)
theorem MF{i:Nat}{Z:Ul}{ds:Co}(h:Z[i]?=Ci (Ci (.own ds))):KT i Z=.ok ds (Z.set i Ck):=by unfold KT;rw[h]
end
end DL
namespace L2
open PySem PySem.Spec PyProof.Rows PySem.Calls PyProof.V
end L2
namespace DL
open PySem PySem.Spec L2
open PyProof.Rows hiding St
section
variable{X:Cx}
def Wd:D->D->Cy
 |.list xs,.list ys=>if xs.length=ys.length then Ck else Ci Cn
 |_,_=>Ck
theorem NZ(hu:X.A.units+64<cLine):OpB X (J4 .Eq) Wd:=by
 refine⟨λv u H Q=>∃l m xs ys,v=.ref l/\u=.ref m/\SqL X.K H l xs/\SqL X.K H m ys/\xs.length≠ys.length/\Q (.bl Cn) H,?_,λv u G H x y d Q s rx ry e k=>?_⟩
 .intro pins s σ H x y v u Q I rx ry h
  obtain⟨l,m,xs,ys,rfl,rfl,h1,h2,hne,q⟩:=h;cases rx;cases ry;obtain⟨its,r,p,z⟩:=I.list h1;obtain⟨its2,r2,p2,z2⟩:=I.list h2;refine SeqAt.eq_list_lengthsAt p.isList p2.isList ?_ (by omega) ⟨.bl Cn,H,I,rfl,q⟩;rw[QK,QK,←r.length,←r2.length];simpa using hne
 .unfold Wd at e
  split at e
  .split at e
   .cases e
   .rename_i hl
    cases e;obtain⟨l,vs,rfl,h1,r1⟩:=rx.lst_inv;obtain⟨m,ws,rfl,h2,r2⟩:=ry.lst_inv;exact⟨l,m,vs,ws,rfl,rfl,s.seq h1,s.seq h2,by rw[r1.length,r2.length];exact hl,k⟩
  .cases e
def We(x y:D):Cy:=(Wd x y).orElse λ_=>oEq x y
theorem My(hu:X.A.units+64<cLine):OpB X (J4 .Eq) We:=(NZ hu).or (Xr hu)
theorem Gz{xs:Co}:We (.list xs) (.list [])=Ci xs.isEmpty:=by
 cases xs with
 |nil=>kernel_rfl
 |cons x r=>rfl
end
def tgN:JX->List Str
 |.Name x _=>[x]
 |.Tuple [.Name x _] _ _=>[x]
 |.Tuple [.Name x _,.Name y _] _ _=>[x,y]
 |.Tuple [.Name x _,.Name y _,.Name z _] _ _=>[x,y,z]
 |.Tuple [.Name x _,.Name y _,.Name z _,.Name u _] _ _=>[x,y,z,u]
 |_=>[]
def adN(vs:List Str):List Str->List Str
 |[]=>vs
 |x::r=>adN (if vs.elem x then vs else vs++[x]) r
def Wg(vs:List Str):List Comprehension->List Str
 |[]=>vs
 |⟨tg,_,_,_⟩::r=>Wg (adN vs (tgN tg)) r
def dotN(x:Str):Str:=("." : Str)++x
def blN(N:List Str)(gs:List Comprehension):List Str:=N.map (λx=>if(Wg [] gs).elem x then dotN x else x)++Wg [] gs
def glN(sc:Scope):List Str:=sc.names.filterMap λy=>match y.2 with | .globalImplicit=>Ci y.1|_=>Ck
abbrev NmF(s:Stmt)(N:List Str):Prop:=FnNm (Kj s) N (glN (Kj s))
theorem mq{α:Type}{l:List α}{x:α}(n:Nat)(h:l[n]?=Ci x):x∈l:=QH h
section
variable{sc:Scope}{N gl:List Str}{x:Str}
theorem gA(H:FnNm sc N gl)(h:gl.elem x=Cm):sc.names.lookup x=Ci .globalImplicit:=H.gl x (by simpa using h)
end
section
variable{X:Cx}{B G0:Hp}{KX:XW}{e e1 e2 o a b c i:JX}{gl:List Str}{pos p2:Pos}{x:Str}{j:Nat}
theorem Mx(H:FnNm X.env.scope X.N gl)(hi:X.N[j]?=Ci x:=by rfl)(hf:X.fn x=Cm∨X.env.scope.names.lookup x=Ci .local:=by first|exact .inl rfl|exact .inr rfl|assumption):PG X (.Name x pos) (tG X.K B G0 (gN j)):=Yq (Yt H.nd hi (lq H j hi) hf)
theorem ME{N':List Str}{scope:Scope}{cl:List (Str×JV)}{C:JV}{s₀:JT}{H₀:Hp}{ex:Ct}(hN:N'.Nodup:=by decide +kernel)(hi:N'[j]?=Ci x:=by rfl)(hl:scope.names.lookup x=Ci .local:=by rfl):PG (X.blk N' scope cl C s₀ H₀ ex) (.Name x pos) (tG X.K B G0 (gN j)):=Yq (Yt hN hi (W1 hl) (.inr (WQ hl)))
theorem aSet{f:M D}(H:FnNm X.env.scope X.N gl)(he:PE X e (tD X.K B G0 f))(hi:X.N[j]?=Ci x:=by rfl)(hs:swapsWith e (Ci (.Name x p2)) pos.line X.env=pure Cn:=by rfl)
  (hf:X.fn x=Cm∨X.env.scope.names.lookup x=Ci .local:=by first|exact .inl rfl|exact .inr rfl|assumption):PS X (.Assign [.Name x p2] e pos) (tS X.K B G0 KX (UM j f)):=Td H.nd hi (lq H j hi) he hs hf
theorem Mw{f:M Co}(H:FnNm X.env.scope X.N gl)(he:PE X e (tL X.K B G0 f))(hi:X.N[j]?=Ci x:=by rfl)(hs:swapsWith e (Ci (.Name x p2)) pos.line X.env=pure Cn:=by rfl)
  (hf:X.fn x=Cm∨X.env.scope.names.lookup x=Ci .local:=by first|exact .inl rfl|exact .inr rfl|assumption):PS X (.Assign [.Name x p2] e pos) (tS X.K B G0 KX (Ku j f)):=Tp H.nd hi (lq H j hi) he hs hf
theorem Mv{l:Bool}{tg elt iter:JX}{ifs:Cr}{gs:List Comprehension}{scope:Scope}{f:M Co}{s:D->Ul->Cv}{t:M Bool}{rd:RdB}{F:M Co}{k:Nat}{SC:Scope}{N1:List Str}(H:FnNm SC N1 gl)(le:∀Z es Z',F Z=.ok es Z'->dCG l f k s t rd Z=.ok es Z')(hc:X.calm=Cm)
  (hi:PI X tg iter (iD X.K B G0 f)) (CD:Zx X (blN N1 (⟨tg,iter,ifs,0⟩::gs)) scope (.ListComp elt (⟨tg,iter,ifs,0⟩::gs) scope pos) tg ifs s t rd) (hb:Y1 XR SC scope N1 (blN N1 (⟨tg,iter,ifs,0⟩::gs)) k=Cm) (h1:X.env.scope=SC:=by rfl) (h2:X.N=N1:=by rfl) (hs:∀x,Uj iter X.env x=pure x:=by intro _;rfl) :
  PE X (.ListComp elt (⟨tg,iter,ifs,0⟩::gs) scope pos) (tL X.K B G0 F):=RZ _ _ _ k le hc hi CD h1 h2 hb hs
theorem Mu{l:Bool}{y:Str}{py spos:Pos}{tg elt iter:JX}{ifs:Cr}{gs:List Comprehension}{scope:Scope}{f:M Co}{s:D->Ul->Cv}{t:M Bool}{rd:RdB}{F:M Co}{k:Nat}{SC:Scope}{N1:List Str}(H:FnNm SC N1 gl)(le:∀Z es Z',F Z=.ok es Z'->dCG l f k s t rd Z=.ok es Z')(hc:X.calm=Cm)
  (hi:PI X tg iter (iD X.K B G0 f)) (CD:Zx X (blN N1 (⟨tg,iter,ifs,0⟩::gs)) scope (.ListComp elt (⟨tg,iter,ifs,0⟩::gs) scope pos) tg ifs s t rd) (hb:Y1 XR SC scope N1 (blN N1 (⟨tg,iter,ifs,0⟩::gs)) k=Cm) (hj:N1[j]?=Ci y:=by rfl) (hy:SC.names.lookup y=Ci .local:=by rfl) (h1:X.env.scope=SC:=by rfl) (h2:X.N=N1:=by rfl) (hs:∀x,Uj iter X.env x=pure x:=by intro _;rfl)
  (hsw:swapsWith (.ListComp elt (⟨tg,iter,ifs,0⟩::gs) scope pos) (Ci (.Name y py)) spos.line X.env=pure Cm:=by rfl) :
  PS X (.Assign [.Name y py] (.ListComp elt (⟨tg,iter,ifs,0⟩::gs) scope pos) spos) (tS X.K B G0 KX (Ku j F)):=Wc _ _ _ k le (h2 ▸ H.nd) (h2 ▸ hj) (h1 ▸ hy) hc hi CD h1 h2 hb hs hsw
end
end DL
namespace DL
open PySem PySem.Spec L2
open PyProof.Rows hiding St
open Builtin Builtin.Str
end DL
namespace DL
open PySem PySem.Spec L2
open PyProof.Rows hiding St
end DL
namespace DL
open PySem PySem.Spec L2
open PyProof.Rows hiding St
open PySem.SeqRoads2 PySem.SeqAt
end DL
namespace DL
open PySem PySem.Spec L2
open PyProof.Rows hiding St
end DL
namespace L2
open PySem PySem.Spec PyProof.Rows
section
variable{prog:JU}{w:World}{A:Around}{elt tg i:JX}{ifs:Cr}{gens:List Comprehension}{scope:Scope}{pos:Pos}{it acc:JS}{env:Env}{j:Nat}
theorem EK(hg:gens[j]?=Ci ⟨tg,i,ifs,0⟩)(hn:gens[j+1]?=Ck):XM prog w A tg ifs env it (.compLoop (.SetComp elt gens scope pos) j it acc env)
  (λQ s=>JZ (model prog w) A (eval elt env) (λx s₄=>JZ (model prog w) A (call (.builtin "set.add") [acc,x]) (λ_ s₅=>Q s₅) nox s₄) nox s):=by
 intro R I n s h turn;refine codeAny_loop Cj I (λn s hI=>?_) n h;show JZ _ A ((compTurn (.SetComp elt gens scope pos) j it acc env).onRaise (λx=>do noteFrame x env;theTreesLotGoes x)) _ _ s;refine wpAny_noted ?_;unfold compTurn;dsimp only;simp only[hg,hn];refine Qb (Q5 (Qb (Qv (turn n s hI) (λr s₁ h₁=>?_) λ_ _ h'=>h'.elim)));cases r with
 |none=>exact Qi h₁
 |some v=>
  refine Qb (Qv h₁ (λ_ s₁' h₁'=>?_) λ_ _ h'=>h'.elim);refine Qb (Qv h₁' (λ_ s₂ h₂=>Qb (Qv h₂ (λok s₃ h₃=>?_) λ_ _ h'=>h'.elim)) λ_ _ h'=>h'.elim);cases ok with
  |false=>exact Qi ⟨rfl,h₃⟩
  |true=>exact Qb (Qb (Qv h₃ (λx s₄ h₄=>Qb (Q5 (Qb (Qv h₄ (λ_ s₅ h₅=>Qi (Qi ⟨rfl,h₅⟩)) λ_ _ h'=>h'.elim)))) λ_ _ h'=>h'.elim))
theorem Ez{R:Result->JT->Prop}{s:JT}{target iter:JX}{rest:List Comprehension}
  (h0:codeAny (model prog w) A (.compLoop (.SetComp elt (⟨target,iter,ifs,0⟩::rest) scope pos) 0 it acc env) R s)
  (h:JZ (model prog w) A (pyIter it) (λit' s'=>codeAny (model prog w) A (.compLoop (.SetComp elt (⟨target,iter,ifs,0⟩::rest) scope pos) 0 it' acc env) R s')
   (notedBy (model prog w) A env λx s'=>R (.error x) s') s) :
  codeAny (model prog w) A (.compStart (.SetComp elt (⟨target,iter,ifs,0⟩::rest) scope pos) 0 it acc env) R s:=by
 refine codeAny_of_tree ?_;show JZ _ _ ((compStart (.SetComp elt (⟨target,iter,ifs,0⟩::rest) scope pos) 0 it acc env).onRaise (λx=>do noteFrame x env;standAt theWindowsPlace)) _ _ s;refine wpAny_notedAt ?_;unfold compStart;show JZ _ _ (ask >>= _) _ _ s;refine Qb (wpAny_askSetting (wpAny_ite ?_));split
 .first
   |exact Qi (And.intro rfl h0)
   |exact Qb (Qi (Qi (And.intro rfl h0)))
 .refine Qb (wpAny_rule ?_)
  show JZ _ _ (standAt iter.pos >>= _) _ _ s;exact Qb (Q5 (Qb (Qv h (λit' s' h'=>Qi (And.intro rfl h')) λ_ _ x=>x)))
end
end L2
namespace DL
open PySem PySem.Spec L2
open PyProof.Rows hiding St
theorem NP(ns:Cp):KP ns=(ns.foldl step_dedup []).length:=by
 unfold KP firstMet
 congr 2
 apply List.ext_getElem
 .simp
 .intro i h1 h2
  simp[List.getD_eq_getElem?_getD,h2]
theorem Om(z:Int):∀(ns σ:Cp),(ns.foldl step_dedup σ).any (· == z)=(σ.any (· == z) || ns.any (· == z))
 |[],σ=>by simp
 |x::r,σ=>by
  rw[List.foldl_cons,Om z r,step_any,List.any_cons,Bool.or_assoc]
  congr 2
  by_cases h:z=x
  .subst h;simp
  .have h':x≠z:=λq=>h q.symm
   simp[h,h']
theorem DM(ns:Cp)(i:Int):KP (ns++[i])=if ns.any (· == i)=Cm then KP ns else KP ns+1:=by rw[NP,NP,List.foldl_append,List.foldl_cons,List.foldl_nil,step_length,Om];simp
theorem RH:∀(ns:Cp),KP ns<=ns.length:=λns=>by unfold KP;exact firstMet_length_le _ _
def KH(ns:Cp):HO:=.set (λz=>ns.any (· == z)) (KP ns)
def cTS(s:D->Ul->Cv)(t:M Bool)(g:M D):Co->Ul->Cp->Option Cp
 |[],_,ns=>Ci ns
 |d::r,Z,ns=>match s d Z with
  |none=>Ck
  |some Z1=>match t Z1 with
   |.bad=>Ck
   |.ok b Z2=>if b=Cm then(match g Z2 with
     |.ok (.int i) Z3=>if ns.length+1<4096 then cTS s t g r (UL Z3) (ns++[i])else Ck
     |_=>Ck)
    else cTS s t g r (UL Z2) ns
def Vg(f:M Co)(k:Nat)(s:D->Ul->Cv)(t:M Bool)(g:M D):M Cp:=λZ=>match f Z with
 |.bad=>.bad
 |.ok ds Z1=>match cTS s t g ds (UL Z1++J6 k Ck) []with
  |none=>.bad
  |some ns=>.ok ns Z1
structure RR(Y:Cx)(D':JV)(pins:List (JV×Obj))(H G:Hp)(ns:Cp)(Z':Ul)(σ':St)(H' G':Hp)(s':JT):Prop where
 inv:Inv Y pins σ' H' s'
 eok:EOk Y.K H' G' G' H' σ' Z'
 hh:∀a o,a≠D'->H a=Ci o->H' a=Ci o
 gg:Same G G'
 np:∀a(u:MO),a≠D'->H a=Ci u.ho->G a=Ck->G' a=Ck
 hd:H' D'=Ci (KH ns)
 gd:G' D'=Ck
section
variable{Y:Cx}{D':JV}
theorem GU{pins:List (JV×Obj)}{σ:St}{H:Hp}{s:JT}{ns:Cp}{i:Int}{ev:JS}(I:Inv Y pins σ H s)(hD:H D'=Ci (KH ns))(hb:ns.length+1<4096)(rv:RelV (.int i) ev) :
  JZ (model Y.prog Y.w) Y.A (call (.builtin "set.add") [.ref D',ev]) (λ_ s'=>Inv Y pins σ (upd H D' (KH (ns++[i]))) s') nox s:=by
 obtain⟨tk,rfl⟩:=rv;have hS:s.heap.SetOf (intKind Y.prog Y.w) D' (λz=>ns.any (· == z)) (KP ns):=I.hok _ _ hD;refine call_set_add (knd:=intKind Y.prog Y.w) (k:=i) (by simp[intKind,Value.isInt]) Cj hS (by have:=RH ns;have hsb:scanBound=4096:=rfl;omega) λh' sb hS'=>?_
 refine I.write (x:=D') (e:=D') (o:=KH (ns++[i])) (t':=s.toks+1) (by rw[hD];exact trivial) (.inl Cj) (λb u hb' e=>(sb.2 b hb').trans e) ?_ ?_
 .obtain⟨o,_,_,_,e,_⟩:=hS';exact⟨o,e⟩
 .show h'.SetOf (intKind Y.prog Y.w) D' (λz=>(ns++[i]).any (· == z)) (KP (ns++[i]))
  rw[DM]
  have:(λz=>(ns++[i]).any (· == z))=λk'=>ns.any (· == k') || decide (k'=i):=by
   funext z;rw[List.any_append,List.any_cons,List.any_nil,Bool.or_false]
   congr 1
   by_cases h:z=i
   .subst h;simp
   .simp[h];exact λq=>h q.symm
  rw[this];exact hS'
theorem GT{tg elt:JX}{ifs:Cr}{code:Code}{s:D->Ul->Cv}{t:M Bool}{g:M D}{it:JV}(hx:Y.xe=nox)(hc:Y.calm=Cm)
  (rule:XM Y.prog Y.w Y.A tg ifs Y.env (.ref it) code (λQ s=>JZ (model Y.prog Y.w) Y.A (eval elt Y.env) (λx s₄=>JZ (model Y.prog Y.w) Y.A (call (.builtin "set.add") [.ref D',x]) (λ_ s₅=>Q s₅) nox s₄) nox s))
  (hg:∀B1 G1,PG Y tg (tG Y.K B1 G1 s)) (ht:∀B1 G1,KW Y ifs (tBo Y.K B1 G1 t)) (he:∀B1 G1,PE Y elt (tD Y.K B1 G1 g))
  {pins:List (JV×Obj)} {sh:JT} {σ:St} {H G:Hp} {Z:Ul} {fp:Ct} {tn:Nat->Heap->Prop} {J:It} {ds:Co} {ns nsF:Cp} {R:Result->JT->Prop}
  (I:Inv Y pins σ H sh) (T:Turn Y.prog Y.w Y.K tg J fp it tn) (st:tn 0 sh.heap) (hf:∀b∈fp,U8 Y pins H b)
  (k:EOk Y.K H G G H σ Z) (its:ZG Y.K J ds G) (hD:H D'=Ci (KH ns)) (gD:G D'=Ck) (zl:cTS s t g ds Z ns=Ci nsF)
  (CN:∀Z' σ' H' G' s',RR Y D' pins H G nsF Z' σ' H' G' s'->R (.ok .next) s'):codeAny (model Y.prog Y.w) Y.A code R sh:=by
 have stat:∀{H':Hp},(∀b∈fp,H' b=Ck)->∀b∈fp,U8 Y pins H' b:=λhn b hb=>⟨hn b hb,(hf b hb).2⟩
 refine rule R (λn s'=>∃i σ' H' G' Z' ns',n=ds.length-i/\tn i s'.heap/\(∀b∈fp,H' b=Ck)/\RR Y D' pins H G ns' Z' σ' H' G' s'/\cTS s t g (ds.drop i) Z' ns'=Ci nsF) ds.length sh
  ⟨0,σ,H,G,Z,ns,rfl,st,λb hb=>(hf b hb).1,⟨I,k,λ_ _ _ q=>q,.refl _,λ_ _ _ _ n=>n,hD,gD⟩,by rw[List.drop_zero];exact zl⟩ ?_
 rintro n s' ⟨i,σ',H',G',Z',ns',rfl,Bt,By,⟨I',k',CS,CL,BA,CO,gD'⟩,zc⟩;by_cases hlt:i<ds.length
 .rw[Jm hlt,cTS]at zc
  cases zs:s ds[i] Z' with
  |none=>rw[zs]at zc;cases zc
  |some Z2=>
  rw[zs]at zc;dsimp only at zc;cases zt:t Z2 with
  |bad=>rw[zt]at zc;cases zc
  |ok b Z3=>
  rw[zt]at zc;dsimp only at zc;refine thn (T.item Y Cj Cj Cj hc i pins s' σ' H' nox I' (stat By) Bt (its.go i G' H' CL k'.gh hlt)) λrr s4 ⟨u,hr,h4⟩=>?_;subst hr;refine thn h4 λ_ s5 ⟨x,H5,I5,r5,y5,CM,BO⟩=>?_
  obtain⟨G5,e5,rx⟩:=its.yld i G' H' x H5 ds[i] CL k'.gh (Qe hlt) y5;have h6:=hg H' G' _ s5 σ' H5 x u (λσ6 H6=>∃G6,EOk Y.K H' G' G6 H6 σ6 Z2) (I5.pinned (stat BO) (T.obj _ _ CM)) r5 ⟨G5,Z',ds[i],Z2,k'.ext e5,rx,zs,λσ6 G6 H6 k6 _=>⟨G6,k6⟩⟩;rw[hx]at h6;refine thn h6 λ_ s6 ⟨σ6,H6,I6,G6,k6⟩=>?_;have h7:=ht H' G' _ s6 σ6 H6 (λc H7=>c=b/\∃G7,EOk Y.K H' G' G7 H7 σ6 Z3) I6 ⟨G6,Z2,k6,by unfold aft;rw[zt];exact λc G7 H7 k7 _ q=>⟨q,G7,k7⟩⟩
  rw[hx]at h7;refine thn h7 λok s7 ⟨H7,I7,Aa,G7,k7⟩=>?_;subst Aa
  have again:∀{H9:Hp}{σ9:St}{s9:JT},Inv Y (pins++XZ fp s5.heap) σ9 H9 s9->Inv Y pins σ9 H9 s9/\tn (i+1) s9.heap/\∀b∈fp,H9 b=Ck:=λ{H9 σ9 s9} I9=>by refine⟨I9.unpinned,T.keep _ _ _ CM λb hb o e=>(I9.pin (b,o) (Qq _ (Qq _ (XI hb e)))).1,λb hb=>?_⟩;obtain⟨o,e,d⟩:=T.obj _ _ CM b hb;exact(I9.pin (b,o) (Qq _ (Qq _ (XI hb e)))).2.1
  have lt:ds.length-(i+1)<ds.length-i:=Nat.sub_lt_sub_left hlt (Nat.lt_succ_self i);cases ok with
  |false=>rw[QM (by decide)]at zc⊢;obtain⟨J1,J2,J3⟩:=again I7;exact⟨_,lt,i+1,σ6,H7,G7,UL Z3,ns',rfl,J2,J3,⟨J1,k7.rebase,λa o z q=>k7.bh a o (CS a o z q),CL.trans k7.g0,λa o z q w=>k7.np a o (CS a _ z q) (BA a o z q w),k7.bh _ _ CO,k7.np _ (.s _ _) CO gD'⟩,zc⟩
  |true=>
   rw[Qs Cj]at zc⊢;split at zc
   .rename_i z Z4 zg
    split at zc
    .rename_i hle
     have h8:=he H' G' _ s7 σ6 H7 (λv H8=>∃G8,EOk Y.K H' G' G8 H8 σ6 Z4/\Rep Y.K G8 v (.int z)) I7 ⟨G7,Z3,k7,by unfold aft;rw[zg];exact λv G8 H8 k8 _ q=>⟨G8,k8,q⟩⟩;rw[hx]at h8;refine thn h8 λev s8 ⟨v,H8,I8,rv,G8,k8,r8⟩=>?_
     have:v=.int z:=r8.int_inv;subst this;refine thn (GU I8 (k8.bh _ _ CO) hle rv) λ_ s9 I9=>?_
     obtain⟨J1,J2,J3⟩:=again I9;have g8:=k8.np _ (.s _ _) CO gD';exact⟨_,lt,i+1,σ6,_,G8,_,_,rfl,J2,J3,⟨J1,k8.beside g8,λa o z q=>by rw[US z];exact k8.bh a o (CS a o z q),CL.trans k8.g0,λa o z q w=>k8.np a o (CS a _ z q) (BA a o z q w),Kk,g8⟩,zc⟩
    .cases zc
   .cases zc
 .rw[JF (QP hlt),cTS]at zc
  cases zc;refine thn (T.done Y Cj Cj Cj hc i pins s' σ' H' nox I' (stat By) Bt (its.stop i G' H' CL k'.gh (QP hlt))) λrr s4 ⟨hr,I6⟩=>?_
  subst hr;exact CN Z' σ' H' G' s4 ⟨I6,k',CS,CL,BA,CO,gD'⟩
end
section
variable{X:Cx}{B G0:Hp}
def Sc(X:Cx)(N2:List Str)(scope:Scope)(elt tg:JX)(ifs:Cr)(s:D->Ul->Cv)(t:M Bool)(g:M D):Prop:=
 ∀(cl:List (Str×JV))(C:JV)(s₀:JT)(H₀:Hp)(ex:Ct),(∀B' G',PG (X.blk N2 scope cl C s₀ H₀ ex) tg (tG X.K B' G' s))/\(∀B' G',KW (X.blk N2 scope cl C s₀ H₀ ex) ifs (tBo X.K B' G' t))/\∀B' G',PE (X.blk N2 scope cl C s₀ H₀ ex) elt (tD X.K B' G' g)
def tSC(K:Frag)(B G0:Hp)(f:M Cp):TE:=λσ H Q=>∃G Z,EOk K B G0 G H σ Z/\match f Z with
 |.bad=>False
 |.ok ns Z1=>∀D G' H',EOk K B G0 G' H' σ Z1->Same G G'->H' D=Ci (KH ns)->Q (.ref D) H'
theorem Gy{tg elt iter:JX}{ifs:Cr}{scope:Scope}{pos:Pos}{N2:List Str}{k:Nat}{f:M Co}{s:D->Ul->Cv}{t:M Bool}{g:M D}(hc:X.calm=Cm)
  (hi:PI X tg iter (iD X.K B G0 f)) (CD:Sc X N2 scope elt tg ifs s t g) (hb:Xs X.env.scope scope X.N N2 k) (hs:∀x,Uj iter X.env x=pure x:=by intro _;rfl) :
  PE X (.SetComp elt [⟨tg,iter,ifs,0⟩] scope pos) (tSC X.K B G0 (Vg f k s t g)):=by
 intro pins s0 σ H Q I ⟨G,Z,k0,a⟩;unfold Vg at a;cases zf:f Z with
 |bad=>rw[zf]at a;exact a.elim
 |ok ds Z1=>
 rw[zf]at a;dsimp only at a;cases zl:cTS s t g ds (UL Z1++J6 k Ck) []with
 |none=>rw[zl]at a;exact a.elim
 |some nsF=>
 rw[zl]at a;dsimp only at a;show JZ _ X.A (comprehension (.SetComp elt [⟨tg,iter,ifs,0⟩] scope pos) scope X.env _ (newSet (.type "set")) Cn (eval iter X.env) Ck) _ _ s0;obtain⟨cl,hcl,CY,Bz⟩:=Rx (scope:=scope) (env:=X.env) λy hy hf=>I.ok.has y.1 (hb.free y hy hf)
 refine wpAny_comprehension_free Cj hs hcl hb.kind hb.names (thn (hi pins s0 σ H (λJ H1=>∃G1,EOk X.K B G0 G1 H1 σ Z1/\Same G G1/\ZG X.K J ds G1) I ⟨G,Z,k0,by rw[zf];exact λJ G1 H1 k1 s1 it=>⟨G1,k1,s1,it⟩⟩) λv s1 h1=>thn h1 λitv s2 h2=>?_);obtain⟨it,fp,tn,J,H2,rfl,I2,T,st2,f2,G1,k1,BW,its⟩:=h2;refine wpAny_newSet_of (knd:=intKind X.prog X.w) λled hS=>wpAny_newFunctionEnv hb.cell (by intro y hy;simp at hy) (λh₁ hns₁ hsb₁=>?_) hb.kind
 dsimp only at hns₁ hsb₁⊢;have hfr:H2 s2.heap.objs.size=Ck:=I2.hok.fresh (Qn _)
 have I3:Inv X pins σ (upd H2 s2.heap.objs.size (KH [])) {s2 with heap:=s2.heap.push {cls:=.type "set", dict:=Ck,data:=.set #[] 0 (.fresh 0 0 led)}}:=
  I2.laid (t':=s2.toks) (λb u e=>Qf _ e) (Qn _) (show Heap.SetOf _ _ _ _ _ from hS)
 generalize hP:s2.heap.push {cls:=.type "set", dict:=Ck,data:=.set #[] 0 (.fresh 0 0 led)}=P at I3 hns₁ hsb₁⊢;have old:∀b o,s2.heap.get? b=Ci o->P.get? b=Ci o:=λb o e=>hP ▸ Qf _ e;have kept:∀b o,P.get? b=Ci o->h₁.get? b=Ci o:=λb o e=>hsb₁.extBut b o (QE (Qh e)) (Qf _ e);have fpo:∀b∈fp,∃o,s2.heap.get? b=Ci o:=λb hb=>let ⟨o,e,_⟩:=T.obj _ _ st2 b hb;⟨o,e⟩
 have fpD:∀b∈fp,b≠s2.heap.objs.size:=λb hb=>let ⟨o,e⟩:=fpo b hb;QE (Qh e)
 have f3:∀b∈fp,U8 X pins (upd H2 s2.heap.objs.size (KH [])) b:=λb hb=>⟨by rw[US (fpD b hb)];exact(f2 b hb).1,(f2 b hb).2⟩
 have I4:=I3.enter (scope:=scope) (cl:=cl) (N2:=N2) (k:=k) (fp:=fp) (t':=s2.toks+([]:List (Str×JS)).length) hb.b hb.kind hb.cell hb.free CY Bz hns₁ kept f3 (λb hb=>let ⟨o,e⟩:=fpo b hb;⟨o,old b o e⟩);dsimp only at I4;have gD:G1 s2.heap.objs.size=Ck:=k1.gh.free hfr;have kb:EOk X.K _ G1 G1 _ _ _:=(k1.beside (o:=KH []) gD).more k;have sH:Same H2 (upd H2 s2.heap.objs.size (KH [])):=KD hfr;have Bx:upd H2 s2.heap.objs.size (KH []) s2.heap.objs.size=Ci (KH []):=Kk;generalize upd H2 s2.heap.objs.size (KH [])=H3 at I3 I4 f3 kb sH Bx;generalize s2.heap.objs.size=D at *;have Bs:tn 0 h₁:=T.keep 0 _ _ st2 λb hb o e=>kept b o (old b o e)
 have stat:∀b∈fp,U8 (X.blk N2 scope cl P.objs.size {s2 with heap:=P} H3 fp) pins H3 b:=λb hb=>by
  obtain⟨z0,z1,z2,z3,z4,z5⟩:=f3 b hb;obtain⟨o,e⟩:=fpo b hb;refine⟨z0,QE (Qh (old b o e)),λz=>?_,.inl hb,λx c q=>z4 x c (CY x c q),z5⟩;rcases Qu.mp (I3.stkSub b z)with q|q
  .exact z1 q
  .exact z2 q
 have neD:∀a o,H2 a=Ci o->a≠D:=λa o q z=>by subst z;rw[hfr]at q;cases q
 obtain⟨hg,ht,he⟩:=CD cl P.objs.size {s2 with heap:=P} H3 fp
 have loop:=GT (Y:=X.blk N2 scope cl P.objs.size {s2 with heap:=P} H3 fp) (D':=D) (R:=compPost (model X.prog X.w) X.A X.xe Ck (EP X pins σ Q) (.ref D) P.objs.size) Cj hc (EK (elt:=elt) (gens:=[⟨tg,iter,ifs,0⟩]) (scope:=scope) (pos:=pos) (j:=0) (i:=iter) Cj Cj) hg ht he I4 T Bs stat kb its Bx gD zl λZ' σ' H' G' s4 L=>by
   obtain⟨m,hm,_⟩:=id L.inv.loc;have I7:Inv X pins σ H' s4:=I3.call' (ch:=fp) L.inv.os L.inv.base L.inv.hok L.inv.bare λb hb=>⟨(f3 b hb).2.2.2.1,(f3 b hb).2.1,(f3 b hb).2.2.2.2.1,(f3 b hb).2.2.2.2.2⟩;have eF:Ext G1 H2 G' H':=⟨λa o q=>L.hh a o (neD a o q) (sH a o q),L.gg,L.eok.gh,λa o q z=>L.np a o (neD a _ q) (sH a _ q) z⟩
   refine⟨m,hm,λh' sb=>⟨.ref D,H',I7.turned (t':=s4.toks) (it:=P.objs.size) (λb o hb e=>(sb.2 b hb).trans e) L.inv.free (Js I3.lt) (.inr I3.sz) (λx c e z=>by obtain⟨_,q⟩:=I3.cell x c e;exact absurd q.lt (by rw[z];exact Q9 _)) (λp hp z=>by have:=Qh (I3.pin p hp).1;exact absurd this (by rw[z];exact Q9 _)),rfl,a D G' H' (k1.ext eF) (BW.trans eF.g) L.hd⟩⟩
 exact Ez loop (T.self X.A 0 _ _ _ Bs loop)
def Vo(f:M Co)(k:Nat)(s:D->Ul->Cv)(t:M Bool)(g:M D):M D:=λZ=>match Vg f k s t g Z with
 |.bad=>.bad
 |.ok ns Z1=>.ok (.int (KP ns)) Z1
theorem MD{tg elt iter:JX}{ifs:Cr}{scope:Scope}{pos p3 p4:Pos}{k:Nat}{f:M Co}{s:D->Ul->Cv}{t:M Bool}{g:M D}{SC:Scope}{N1 gl:List Str}(H:FnNm SC N1 gl)(hg:Gl X "len")(hm:X.mg "len" = Ck)(hc:X.calm=Cm)
  (hi:PI X tg iter (iD X.K B G0 f)) (CD:Sc X (blN N1 [⟨tg,iter,ifs,0⟩]) scope elt tg ifs s t g) (hb:Y1 XR SC scope N1 (blN N1 [⟨tg,iter,ifs,0⟩]) k=Cm) (h1:X.env.scope=SC:=by rfl) (h2:X.N=N1:=by rfl) (hs:∀x,Uj iter X.env x=pure x:=by intro _;rfl)
  (he:J0 [.SetComp elt [⟨tg,iter,ifs,0⟩] scope p3] X.env=(Cn,eval (.SetComp elt [⟨tg,iter,ifs,0⟩] scope p3) X.env)::J0 [] X.env:=by rfl) :
  PE X (.Call (.Name "len" p4) [.SetComp elt [⟨tg,iter,ifs,0⟩] scope p3] [] pos) (tD X.K B G0 (Vo f k s t g)):=
 UI (VL Nl hg hm boot_len (Ys (Gy hc hi CD (by rw[h1,h2];exact To hb) hs) Y3 he) (by decide) (by decide) he Cj) λσ Hh Q ⟨G,Z,k0,q⟩=>⟨G,Z,k0,by
  unfold Vo aft at q;cases z:Vg f k s t g Z with
  |bad=>rw[z]at q;exact q.elim
  |ok ns Z1=>rw[z]at q;exact λD G' H' k' sg hd=>⟨D,_,_,rfl,hd,q (.int (KP ns)) G' H' k' sg (.int _)⟩⟩
theorem RG{s:D->Ul->Cv}{t:M Bool}{g:M D}:∀{ds:Co}{Z:Ul}{es esF:Co},Ke s t g ds Z es=Ci esF->∃r,esF=es++r
 |[],Z,es,esF,h=>by rw[Ke]at h;cases h;exact⟨[],by simp⟩
 |d::r,Z,es,esF,h=>by
  rw[Ke]at h;cases zs:s d Z with
  |none=>rw[zs]at h;cases h
  |some Z1=>
  rw[zs]at h;dsimp only at h;cases zt:t Z1 with
  |bad=>rw[zt]at h;cases h
  |ok b Z2=>
  rw[zt]at h;dsimp only at h;cases b with
  |false=>exact RG (ds:=r) h
  |true=>
   rw[Qs Cj]at h;cases zg:g Z2 with
   |bad=>rw[zg]at h;cases h
   |ok e Z3=>
   rw[zg]at h;dsimp only at h;split at h
   .obtain⟨z,hz⟩:=RG (ds:=r) h
    exact⟨e::z,by rw[hz];simp⟩
   .cases h
theorem intI:∀{a b:Cp},a.map int=b.map int->a=b
 |[],[],_=>rfl
 |[],_::_,h=>by cases h
 |_::_,[],h=>by cases h
 |_::_,_::_,h=>by rw[QG,QG]at h;injection h with h1 h2;rw[PyData.int.inj h1,intI h2]
theorem Sr{s:D->Ul->Cv}{t:M Bool}{g:M D}:∀{ds:Co}{Z:Ul}{ns nsF:Cp},Ke s t g ds Z (ns.map int)=Ci (nsF.map int)->nsF.length<4096->cTS s t g ds Z ns=Ci nsF/\ns.length<=nsF.length
 |[],Z,ns,nsF,h,hl=>by rw[Ke]at h;have h:=QA h;have:ns=nsF:=intI h;subst this;exact⟨rfl,Qn _⟩
 |d::r,Z,ns,nsF,h,hl=>by
  rw[Ke]at h;rw[cTS];cases zs:s d Z with
  |none=>rw[zs]at h;cases h
  |some Z1=>
  rw[zs]at h;dsimp only at h⊢;cases zt:t Z1 with
  |bad=>rw[zt]at h;cases h
  |ok b Z2=>
  rw[zt]at h;dsimp only at h⊢;cases b with
  |false=>exact Sr (ds:=r) h hl
  |true=>
   rw[Qs Cj]at h⊢;cases zg:g Z2 with
   |bad=>rw[zg]at h;cases h
   |ok e Z3=>
   rw[zg]at h;dsimp only at h⊢;split at h
   .obtain⟨z,hz⟩:=RG h
    have:∃i,e=.int i:=by
     have m:e∈nsF.map int:=by rw[hz];simp
     obtain⟨i,_,rfl⟩:=QB.mp m;exact⟨i,rfl⟩
    obtain⟨i,rfl⟩:=this;rw[show ns.map int++[.int i]=(ns++[i]).map int by simp]at h;obtain⟨h1,h2⟩:=Sr (ds:=r) h hl;rw[Qj,QN]at h2;dsimp only;rw[Qs (by omega)];exact⟨h1,by omega⟩
   .cases h
theorem GS{f:M Co}{k:Nat}{s:D->Ul->Cv}{t:M Bool}{g:M D}{ns:Cp}{Z Z1:Ul}(h:ZA f k s t g Z=.ok (ns.map int) Z1)(hl:ns.length<4096):Vo f k s t g Z=.ok (.int (KP ns)) Z1:=by
 unfold ZA at h;unfold Vo Vg;cases zf:f Z with
 |bad=>rw[zf]at h;cases h
 |ok ds Z2=>
 rw[zf]at h;dsimp only at h⊢;cases zl:Ke s t g ds (UL Z2++J6 k Ck) []with
 |none=>rw[zl]at h;cases h
 |some esF=>
 rw[zl]at h;dsimp only at h;cases h;rw[(Sr (ns:=[]) zl hl).1]
end
def cTF(s:D->Ul->Cv)(t:M Bool)(g:M Co):Co->Ul->Co->Option Co
 |[],_,es=>Ci es
 |d::r,Z,es=>match s d Z with
  |none=>Ck
  |some Z1=>match t Z1 with
   |.bad=>Ck
   |.ok b Z2=>if b=Cm then(match g Z2 with
     |.ok ds Z3=>if ds.all nl0=Cm/\es.length<1000000 then cTF s t g r (UL Z3) (es++[.list ds])else Ck
     |.bad=>Ck)
    else cTF s t g r (UL Z2) es
def Xz(f:M Co)(k:Nat)(s:D->Ul->Cv)(t:M Bool)(g:M Co):M Co:=λZ=>match f Z with
 |.bad=>.bad
 |.ok ds Z1=>match cTF s t g ds (UY Z1++J6 k Ck) []with
  |none=>.bad
  |some es=>.ok es Z1
def FrI(K:Frag)(D':JV)(H0 H:Hp)(v:V)(d:D):Prop:=∃a us ds G,v=.ref a/\d=.list ds/\H0 a=Ck/\a≠D'/\H a=Ci (.lst us)/\G D'=Ck/\Same G H/\Reps K G us ds/\ds.all nl0=Cm
theorem FrI.go{K:Frag}{D':JV}{H0 H H':Hp}{v:V}{d:D}(h:FrI K D' H0 H v d)(e:∀b o,b≠D'->H b=Ci o->H' b=Ci o):FrI K D' H0 H' v d:=by obtain⟨a,us,ds,G,h1,h2,h3,h4,h5,h6,h7,h8,h9⟩:=h;exact⟨a,us,ds,G,h1,h2,h3,h4,e a _ h4 h5,h6,λb o q=>e b o (λz=>by subst z;rw[h6]at q;cases q) (h7 b o q),h8,h9⟩
theorem Oa{α β:Type}{F:α->β->Prop}{a:α}{b:β}(h:F a b):∀{l₁:List α}{l₂:List β},Paired F l₁ l₂->Paired F (l₁++[a]) (l₂++[b])
 |_,_,.nil=>.cons h .nil
 |_,_,.cons r t=>.cons r (Oa h t)
theorem R8{α β:Type}{F:α->β->Prop}:∀{l₁:List α}{l₂:List β},Paired F l₁ l₂->l₁.length=l₂.length
 |_,_,.nil=>rfl
 |_,_,.cons r t=>JQ Nat.succ (R8 t)
theorem P9{K:Frag}{D':JV}{H0 H G1:Hp}:∀{vs:List V}{es:Co},Paired (FrI K D' H0 H) vs es->∃fp:Ct,(∀a∈fp,H0 a=Ck/\a≠D')/\∀fp':Ct,(∀a∈fp,a∈fp')->Reps K (Ko fp' G1 H) vs es
 |_,_,.nil=>⟨[],λa m=>(by cases m),λ_ _=>.nil⟩
 |_,_,.cons ⟨a,us,ds,G,h1,h2,h3,h4,h5,h6,h7,h8,h9⟩ t=>by
  obtain⟨fp,f1,f2⟩:=P9 (G1:=G1) t;subst h1 h2;refine⟨a::fp,λb m=>?_,λfp' m=>.cons (.lst (SqL.of ((Re (.inl (m a Ql))).trans h5)) (h8.nl h7 h9)) (f2 fp' λb q=>m b (Qo _ q))⟩;rcases Qu.mp m with rfl|q
  .exact⟨h3,h4⟩
  .exact f1 b q
structure RQ(Y:Cx)(D':JV)(pins:List (JV×Obj))(H G:Hp)(es:Co)(Z':Ul)(σ':St)(H' G':Hp)(vs:List V)(s':JT):Prop where
 inv:Inv Y pins σ' H' s'
 eok:EOk Y.K H' G' G' H' σ' Z'
 hh:∀a o,a≠D'->H a=Ci o->H' a=Ci o
 gg:Same G G'
 hd:H' D'=Ci (.lst vs)
 gd:G' D'=Ck
 pr:Paired (FrI Y.K D' H H') vs es
section
variable{Y:Cx}{D':JV}
theorem GR{tg elt:JX}{ifs:Cr}{code:Code}{s:D->Ul->Cv}{t:M Bool}{g:M Co}{it:JV}(hx:Y.xe=nox)(hc:Y.calm=Cm)
  (rule:XM Y.prog Y.w Y.A tg ifs Y.env (.ref it) code (λQ s=>JZ (model Y.prog Y.w) Y.A (eval elt Y.env) (λx s₄=>JZ (model Y.prog Y.w) Y.A (call (.builtin "list.append") [.ref D',x]) (λ_ s₅=>Q s₅) nox s₄) nox s))
  (hg:∀B1 G1,PG Y tg (tG Y.K B1 G1 s)) (ht:∀B1 G1,KW Y ifs (tBo Y.K B1 G1 t)) (he:∀B1 G1,PE Y elt (tL Y.K B1 G1 g))
  {pins:List (JV×Obj)} {sh:JT} {σ:St} {H G:Hp} {Z:Ul} {fp:Ct} {tn:Nat->Heap->Prop} {J:It} {ds esF:Co} {R:Result->JT->Prop}
  (I:Inv Y pins σ H sh) (T:Turn Y.prog Y.w Y.K tg J fp it tn) (st:tn 0 sh.heap) (hf:∀b∈fp,U8 Y pins H b)
  (k:EOk Y.K H G G H σ Z) (its:ZG Y.K J ds G) (hD:H D'=Ci (.lst [])) (gD:G D'=Ck) (zl:cTF s t g ds Z []=Ci esF)
  (CN:∀Z' σ' H' G' vs' s',RQ Y D' pins H G esF Z' σ' H' G' vs' s'->R (.ok .next) s'):codeAny (model Y.prog Y.w) Y.A code R sh:=by
 have stat:∀{H':Hp},(∀b∈fp,H' b=Ck)->∀b∈fp,U8 Y pins H' b:=λhn b hb=>⟨hn b hb,(hf b hb).2⟩
 refine rule R (λn s'=>∃i σ' H' G' Z' vs' es',n=ds.length-i/\tn i s'.heap/\(∀b∈fp,H' b=Ck)/\RQ Y D' pins H G es' Z' σ' H' G' vs' s'/\cTF s t g (ds.drop i) Z' es'=Ci esF) ds.length sh
  ⟨0,σ,H,G,Z,[],[],rfl,st,λb hb=>(hf b hb).1,⟨I,k,λ_ _ _ q=>q,.refl _,hD,gD,.nil⟩,by rw[List.drop_zero];exact zl⟩ ?_
 rintro n s' ⟨i,σ',H',G',Z',vs',es',rfl,Bt,By,⟨I',k',CS,CL,CO,gD',pr'⟩,zc⟩;by_cases hlt:i<ds.length
 .rw[Jm hlt,cTF]at zc
  cases zs:s ds[i] Z' with
  |none=>rw[zs]at zc;cases zc
  |some Z2=>
  rw[zs]at zc;dsimp only at zc;cases zt:t Z2 with
  |bad=>rw[zt]at zc;cases zc
  |ok b Z3=>
  rw[zt]at zc;dsimp only at zc;refine thn (T.item Y Cj Cj Cj hc i pins s' σ' H' nox I' (stat By) Bt (its.go i G' H' CL k'.gh hlt)) λrr s4 ⟨u,hr,h4⟩=>?_;subst hr;refine thn h4 λ_ s5 ⟨x,H5,I5,r5,y5,CM,BO⟩=>?_
  obtain⟨G5,e5,rx⟩:=its.yld i G' H' x H5 ds[i] CL k'.gh (Qe hlt) y5;have h6:=hg H' G' _ s5 σ' H5 x u (λσ6 H6=>∃G6,EOk Y.K H' G' G6 H6 σ6 Z2) (I5.pinned (stat BO) (T.obj _ _ CM)) r5 ⟨G5,Z',ds[i],Z2,k'.ext e5,rx,zs,λσ6 G6 H6 k6 _=>⟨G6,k6⟩⟩;rw[hx]at h6;refine thn h6 λ_ s6 ⟨σ6,H6,I6,G6,k6⟩=>?_;have h7:=ht H' G' _ s6 σ6 H6 (λc H7=>c=b/\∃G7,EOk Y.K H' G' G7 H7 σ6 Z3) I6 ⟨G6,Z2,k6,by unfold aft;rw[zt];exact λc G7 H7 k7 _ q=>⟨q,G7,k7⟩⟩
  rw[hx]at h7;refine thn h7 λok s7 ⟨H7,I7,Aa,G7,k7⟩=>?_;subst Aa
  have again:∀{H9:Hp}{σ9:St}{s9:JT},Inv Y (pins++XZ fp s5.heap) σ9 H9 s9->Inv Y pins σ9 H9 s9/\tn (i+1) s9.heap/\∀b∈fp,H9 b=Ck:=λ{H9 σ9 s9} I9=>by refine⟨I9.unpinned,T.keep _ _ _ CM λb hb o e=>(I9.pin (b,o) (Qq _ (Qq _ (XI hb e)))).1,λb hb=>?_⟩;obtain⟨o,e,d⟩:=T.obj _ _ CM b hb;exact(I9.pin (b,o) (Qq _ (Qq _ (XI hb e)))).2.1
  have lt:ds.length-(i+1)<ds.length-i:=Nat.sub_lt_sub_left hlt (Nat.lt_succ_self i);cases ok with
  |false=>rw[QM (by decide)]at zc⊢;obtain⟨J1,J2,J3⟩:=again I7;exact⟨_,lt,i+1,σ6,H7,G7,UL Z3,vs',es',rfl,J2,J3,⟨J1,k7.rebase,λa o z q=>k7.bh a o (CS a o z q),CL.trans k7.g0,k7.bh _ _ CO,k7.np _ (.l _) CO gD',Paired.mapP pr' λ_ _ q=>q.go λb o _ z=>k7.bh b o z⟩,zc⟩
  |true=>
   rw[Qs Cj]at zc⊢;cases zg:g Z3 with
   |bad=>rw[zg]at zc;cases zc
   |ok dsE Z4=>
   rw[zg]at zc;dsimp only at zc;split at zc
   .rename_i hle
    have h8:=he H' G' _ s7 σ6 H7 (λv H8=>∃ad us G8,v=.ref ad/\EOk Y.K H' G' G8 H8 σ6 Z4/\NewL Y.K H' G8 H8 σ6 Z4 ad us dsE) I7 ⟨G7,Z3,k7,by rw[zg];exact λa vs G8 H8 k8 _ n=>⟨a,vs,G8,rfl,k8,n⟩⟩;rw[hx]at h8;refine thn h8 λev s8 ⟨v,H8,I8,rv,ad,us,G8,hv,k8,n8⟩=>?_;subst hv;have g8:=k8.np _ (.l _) CO gD';have h2:=TJ _ s8 σ6 H8 (.ref D') [.ref ad] (.ref D') [ev] (λ_ H9=>H9=upd H8 D' (.lst (vs'++[.ref ad]))) I8 Cj (.cons rv .nil) ⟨D',vs',.ref ad,rfl,rfl,k8.bh _ _ CO,by have:=lim1;rw[R8 pr'];omega,rfl⟩
    rw[hx]at h2;refine thn h2 λ_ s9 ⟨_,H9,I9,_,e9⟩=>?_;subst e9
    obtain⟨J1,J2,J3⟩:=again I9;have nD:ad≠D':=λz=>by have:=n8.b;rw[z,CO]at this;cases this
    have n0:H ad=Ck:=by
     cases q:H ad with
     |none=>rfl
     |some o=>have:=CS ad o nD q;rw[n8.b]at this;cases this
    have up:∀b o,b≠D'->H8 b=Ci o->upd H8 D' (.lst (vs'++[.ref ad])) b=Ci o:=λb o z q=>by rw[US z];exact q
    exact⟨_,lt,i+1,σ6,_,G8,_,_,_,rfl,J2,J3,⟨J1,k8.beside g8,λa o z q=>up a o z (k8.bh a o (CS a o z q)),CL.trans k8.g0,Kk,g8,
     Oa (FrI.go ⟨ad,us,dsE,G8,rfl,rfl,n0,nD,n8.h,g8,k8.gh,n8.r,hle.1⟩ up) (Paired.mapP pr' λ_ _ q=>q.go λb o z w=>up b o z (k8.bh b o w))⟩,zc⟩
   .cases zc
 .rw[JF (QP hlt),cTF]at zc
  cases zc;refine thn (T.done Y Cj Cj Cj hc i pins s' σ' H' nox I' (stat By) Bt (its.stop i G' H' CL k'.gh (QP hlt))) λrr s4 ⟨hr,I6⟩=>?_
  subst hr;exact CN Z' σ' H' G' vs' s4 ⟨I6,k',CS,CL,CO,gD',pr'⟩
end
section
variable{X:Cx}{B G0:Hp}{KX:XW}
def T5(X:Cx)(N2:List Str)(scope:Scope)(elt tg:JX)(ifs:Cr)(s:D->Ul->Cv)(t:M Bool)(g:M Co):Prop:=
 ∀(cl:List (Str×JV))(C:JV)(s₀:JT)(H₀:Hp)(ex:Ct),(∀B' G',PG (X.blk N2 scope cl C s₀ H₀ ex) tg (tG X.K B' G' s))/\(∀B' G',KW (X.blk N2 scope cl C s₀ H₀ ex) ifs (tBo X.K B' G' t))/\∀B' G',PE (X.blk N2 scope cl C s₀ H₀ ex) elt (tL X.K B' G' g)
theorem EJ{f:M Co}{k:Nat}{s:D->Ul->Cv}{t:M Bool}{g:M Co}{Z Z':Ul}{es:Co}(h:Xz f k s t g Z=.ok es Z'):∃ds,f Z=.ok ds Z'/\cTF s t g ds (UY Z'++J6 k Ck) []=Ci es:=by
 unfold Xz at h;cases zf:f Z with
 |bad=>rw[zf]at h;cases h
 |ok ds Z1=>
 rw[zf]at h;dsimp only at h;cases zl:cTF s t g ds (UY Z1++J6 k Ck) []with
 |none=>rw[zl]at h;cases h
 |some es'=>rw[zl]at h;cases h;exact⟨ds,rfl,zl⟩
theorem GQ{tg elt iter:JX}{ifs:Cr}{scope:Scope}{pos pos':Pos}{N2:List Str}{k:Nat}{f:M Co}{s:D->Ul->Cv}{t:M Bool}{g:M Co}{use:Option (JS->Sem Unit)}{Qc:JS->JT->Prop}(hc:X.calm=Cm)
  (hi:PI X tg iter (iD X.K B G0 f)) (CD:T5 X N2 scope elt tg ifs s t g) (hb:Xs X.env.scope scope X.N N2 k) (hs:∀x,Uj iter X.env x=pure x)
  {pins:List (JV×Obj)} {s0:JT} {σ:St} {G H:Hp} {Z Z1:Ul} {ds esF:Co} (I:Inv X pins σ H s0) (k0:EOk X.K B G0 G H σ Z) (zf:f Z=.ok ds Z1) (zl:cTF s t g ds (UY Z1++J6 k Ck) []=Ci esF)
  (CN:∀(C D:JV)(vs:List V)(G' H':Hp)(s4:JT)(m:Str->Cw),Inv X pins σ H' s4->s4.heap.Ns C m->H' C=Ck->C≠X.env.locals->X.s₀.heap.objs.size<=C->(∀x c,X.env.cells.lookup x=Ci c->c≠C)->(∀p∈X.pn++pins,p.1≠C) ->
   EOk X.K B G0 G' H' σ Z1->Same G G'->NewL X.K B G' H' σ Z1 D vs esF->compPost (model X.prog X.w) X.A X.xe use Qc (.ref D) C (.ok .next) s4) :
  JZ (model X.prog X.w) X.A (comprehension (.ListComp elt [⟨tg,iter,ifs,0⟩] scope pos) scope X.env pos' (newList []) Cn (eval iter X.env) use) Qc X.xe s0:=by
 obtain⟨cl,hcl,CY,Bz⟩:=Rx (scope:=scope) (env:=X.env) λy hy hf=>I.ok.has y.1 (hb.free y hy hf)
 refine wpAny_comprehension_free (use:=use) Cj hs hcl hb.kind hb.names (thn (hi pins s0 σ H (λJ H1=>∃G1,EOk X.K B G0 G1 H1 σ Z1/\Same G G1/\ZG X.K J ds G1) I ⟨G,Z,k0,by rw[zf];exact λJ G1 H1 k1 s1 it=>⟨G1,k1,s1,it⟩⟩) λv s1 h1=>thn h1 λitv s2 h2=>?_);obtain⟨it,fp,tn,J,H2,rfl,I2,T,st2,f2,G1,k1,BW,its⟩:=h2;refine wpAny_newObj_type (wpAny_newFunctionEnv hb.cell (by intro y hy;simp at hy) (λh₁ hns₁ hsb₁=>?_) hb.kind);dsimp only at hns₁ hsb₁⊢;have hfr:H2 s2.heap.objs.size=Ck:=I2.hok.fresh (Qn _)
 have I3:Inv X pins σ (upd H2 s2.heap.objs.size (.lst [])) {s2 with heap:=s2.heap.push {cls:=.type "list", dict:=Ck,data:=.seq ([]:Cq).toArray}}:=
  I2.laid (t':=s2.toks) (λb u e=>Qf _ e) (Qn _) ⟨JI _,[],0,.nil,Qx _ Cj⟩
 generalize hP:s2.heap.push {cls:=.type "list", dict:=Ck,data:=.seq ([]:Cq).toArray}=P at I3 hns₁ hsb₁⊢;have old:∀b o,s2.heap.get? b=Ci o->P.get? b=Ci o:=λb o e=>hP ▸ Qf _ e;have kept:∀b o,P.get? b=Ci o->h₁.get? b=Ci o:=λb o e=>hsb₁.extBut b o (QE (Qh e)) (Qf _ e);have fpo:∀b∈fp,∃o,s2.heap.get? b=Ci o:=λb hb=>let ⟨o,e,_⟩:=T.obj _ _ st2 b hb;⟨o,e⟩
 have fpD:∀b∈fp,b≠s2.heap.objs.size:=λb hb=>let ⟨o,e⟩:=fpo b hb;QE (Qh e)
 have f3:∀b∈fp,U8 X pins (upd H2 s2.heap.objs.size (.lst [])) b:=λb hb=>⟨by rw[US (fpD b hb)];exact(f2 b hb).1,(f2 b hb).2⟩
 have I4:=I3.enter (scope:=scope) (cl:=cl) (N2:=N2) (k:=k) (fp:=fp) (t':=s2.toks+([]:List (Str×JS)).length) hb.b hb.kind hb.cell hb.free CY Bz hns₁ kept f3 (λb hb=>let ⟨o,e⟩:=fpo b hb;⟨o,old b o e⟩);dsimp only at I4;have kb:=k1.lend (o:=.lst []) hfr k;have sH:Same H2 (upd H2 s2.heap.objs.size (.lst [])):=KD hfr;have Bx:upd H2 s2.heap.objs.size (.lst []) s2.heap.objs.size=Ci (.lst []):=Kk;generalize upd H2 s2.heap.objs.size (.lst [])=H3 at I3 I4 f3 kb sH Bx;generalize s2.heap.objs.size=D at *;have Bs:tn 0 h₁:=T.keep 0 _ _ st2 λb hb o e=>kept b o (old b o e)
 have stat:∀b∈fp,U8 (X.blk N2 scope cl P.objs.size {s2 with heap:=P} H3 fp) pins H3 b:=λb hb=>by
  obtain⟨z0,z1,z2,z3,z4,z5⟩:=f3 b hb;obtain⟨o,e⟩:=fpo b hb;refine⟨z0,QE (Qh (old b o e)),λz=>?_,.inl hb,λx c q=>z4 x c (CY x c q),z5⟩;rcases Qu.mp (I3.stkSub b z)with q|q
  .exact z1 q
  .exact z2 q
 have neD:∀a o,H2 a=Ci o->a≠D:=λa o q z=>by subst z;rw[hfr]at q;cases q
 obtain⟨hg,ht,he⟩:=CD cl P.objs.size {s2 with heap:=P} H3 fp
 have loop:=GR (Y:=X.blk N2 scope cl P.objs.size {s2 with heap:=P} H3 fp) (D':=D) (R:=compPost (model X.prog X.w) X.A X.xe use Qc (.ref D) P.objs.size) Cj hc (O0 (elt:=elt) (gens:=[⟨tg,iter,ifs,0⟩]) (scope:=scope) (pos:=pos) (j:=0) (i:=iter) Cj Cj) hg ht he I4 T Bs stat kb
  ⟨λi G H s1 s2 hi=>its.go i G H (k1.gh.trans s1) s2 hi,λi G H s1 s2 hi=>its.stop i G H (k1.gh.trans s1) s2 hi,λi G H x H' d s1 s2 e y=>its.yld i G H x H' d (k1.gh.trans s1) s2 e y⟩ Bx hfr zl λZ' σ' H' G' vs' s4 L=>by
   obtain⟨m,hm,_⟩:=id L.inv.loc;have I7:Inv X pins σ H' s4:=I3.call' (ch:=fp) L.inv.os L.inv.base L.inv.hok L.inv.bare λb hb=>⟨(f3 b hb).2.2.2.1,(f3 b hb).2.1,(f3 b hb).2.2.2.2.1,(f3 b hb).2.2.2.2.2⟩;have hH:Same H2 H':=λa o q=>L.hh a o (neD a o q) (sH a o q)
   obtain⟨fq,q1,q2⟩:=P9 (G1:=G1) L.pr
   have eF:Ext G1 H2 (Ko fq G1 H') H':=Ext.pubT ⟨hH,.refl _,k1.gh.trans hH,λ_ _ _ n=>n⟩ λa m=>by
    cases q:H2 a with
    |none=>rfl
    |some o=>have:=(q1 a m).1;rw[sH a o q]at this;cases this
   have dF:Ko fq G1 H' D=Ck:=by rw[Rc (λm=>(q1 D m).2 Cj) (by rw[L.hd];rfl)];exact k1.gh.free hfr
   refine CN P.objs.size D vs' (Ko fq G1 H') H' s4 m I7 hm L.inv.free (Js I3.lt) I3.sz (λx c e z=>by obtain⟨_,q⟩:=I3.cell x c e;exact absurd q.lt (by rw[z];exact Q9 _)) (λp hp z=>by have:=Qh (I3.pin p hp).1;exact absurd this (by rw[z];exact Q9 _))
    (k1.ext eF) (BW.trans eF.g) ⟨k1.bh.free hfr,dF,L.hd,q2 fq λ_ m=>m,λj es' q z=>?_,λj pt d v fp q s r=>k1.freshD eF.h hfr q s r⟩
   obtain⟨a',ws,Ac,h2',h3',BN,h5'⟩:=k1.own j es' q;rw[z]at Ac;cases Ac;rw[hfr]at BN;cases BN
 exact codeAny_compStart_list loop (T.self X.A 0 _ _ _ Bs loop)
theorem MC{y:Str}{j:Nat}{py:Pos}{spos:Pos}{tg elt iter:JX}{ifs:Cr}{scope:Scope}{pos:Pos}{N2:List Str}{k:Nat}{f:M Co}{s:D->Ul->Cv}{t:M Bool}{g:M Co}(hN:X.N.Nodup)(hj:X.N[j]?=Ci y)(hy:X.env.scope.names.lookup y=Ci .local)(hc:X.calm=Cm)
  (hi:PI X tg iter (iD X.K B G0 f)) (CD:T5 X N2 scope elt tg ifs s t g) (hb:Xs X.env.scope scope X.N N2 k) (hs:∀x,Uj iter X.env x=pure x:=by intro _;rfl)
  (hsw:swapsWith (.ListComp elt [⟨tg,iter,ifs,0⟩] scope pos) (Ci (.Name y py)) spos.line X.env=pure Cm:=by rfl) :
  PS X (.Assign [.Name y py] (.ListComp elt [⟨tg,iter,ifs,0⟩] scope pos) spos) (tS X.K B G0 KX (Ku j (Xz f k s t g))):=by
 intro pins s0 σ H Dn I ⟨G,Z,k0,a⟩;unfold Ku sB at a;cases z:Xz f k s t g Z with
 |bad=>rw[z]at a;exact a.elim
 |ok es Z1=>
 rw[z]at a;dsimp only at a;by_cases hl:j<Z1.length
 .rw[Qs hl]at a
  obtain⟨ds,zf,zl⟩:=EJ z;rw[exec_Assign_Name_used _ _ _ _ hsw];refine Qb (Q5 (Qb ?_));show JZ _ X.A (do let _ ←comprehension (.ListComp elt [⟨tg,iter,ifs,0⟩] scope pos) scope X.env _ (newList []) Cn (eval iter X.env) (Ci (assign (.Name y py) X.env))) _ _ s0;refine Qb (Qv (GQ (use:=Ci (assign (.Name y py) X.env)) (Qc:=λ_ s'=>SP X pins Dn .next s') hc hi CD hb hs I k0 zf zl λC D vs G' H' s4 m I7 hm hC hL hz hcl hp k' s' n=>?_) (λ_ s' hq=>Qi (Qi hq)) λ_ _ e=>e);show JZ _ X.A (assign (.Name y py) X.env (.ref D)) _ _ s4;refine wpAny_assign_Name (RD I7 hN hj (.inl hy) (v:=.ref D) Cj (λs5 I8 ⟨ad,sb,hx⟩=>?_) (.inr hy))
  have hCa:C≠ad:=by
   rcases hx with e|e
   .rw[e];exact hL
   .exact Ne.symm (hcl y ad e)
  refine⟨m,hm.sameBut sb hCa,λh' sb'=>⟨_,H',I8.turned (t':=s5.toks) (it:=C) (λb o hb e=>(sb'.2 b hb).trans e) hC hL (.inr hz) hcl hp,?_⟩⟩;exact a _ G' H' (k'.setOwn n hl) s'
 .rw[QM hl]at a;exact a.elim
end
section
variable{K:Frag}{B G0 G H:Hp}{σ:St}{Z:Ul}{KX:XW}
theorem EOk.hideAt{i:Nat}{x:Option V}(k:EOk K B G0 G H σ Z):EOk K B G0 G H (σ.set i x) (Z.set i Ck) where
 bh:=k.bh
 gh:=k.gh
 g0:=k.g0
 np:=k.np
 len:=by rw[QZ,QZ];exact k.len
 pub:=λj d' q=>by
  by_cases z:i=j
  .subst z
   have:=Kr q;cases this
  .rw[Qk z]at q⊢
   exact k.pub j d' q
 own:=λj ds q=>by
  by_cases z:i=j
  .subst z
   have:=Kr q;cases this
  .rw[Qk z]at q⊢
   exact k.own j ds q
 sep:=λj l c es fs q1 q2 s1 s2=>by
  have z1:i≠j:=λz=>by subst z;have:=Kr q1;cases this
  have z2:i≠l:=λz=>by subst z;have:=Kr q2;cases this
  rw[Qk z1]at q1 s1;rw[Qk z2]at q2 s2;exact k.sep j l c es fs q1 q2 s1 s2
 dp:=k.dp.setOther (λs e=>by cases e)
theorem OR{g h:SM}{Dn:Ends}(a:aftS K B G0 KX (Ut g h Z) G Dn):aftS K B G0 KX (g Z) G {Dn with nx:=tS K B G0 KX h Dn}:=by
 unfold Ut at a;cases z:g Z with
 |nx Z1=>rw[z]at a;exact λσ' G' H' k' s'=>⟨G',Z1,k',aftS.mono s' a⟩
 |rt d=>rw[z]at a;exact a
 |ro ds=>rw[z]at a;exact a
 |bk Z1=>rw[z]at a;exact a
 |ct Z1=>rw[z]at a;exact a
 |ex Z1 d=>rw[z]at a;exact a
 |bad=>rw[z]at a;exact a.elim
end
def Vn(i:Nat)(f:M D)(t:M Bool)(g h:SM):SM:=λZ=>match f (UY Z)with
 |.bad=>.bad
 |.ok d _=>if i<(UY Z).length then(match t ((UY Z).set i (Ci (.pub d)))with
   |.bad=>.bad
   |.ok b _=>if b=Cm then g (Z.set i Ck)else h (Z.set i Ck))else .bad
section
variable{X:Cx}{B G0:Hp}{KX:XW}{e c:JX}{pos p2 p3:Pos}{sts sts2 rest:List Stmt}{x:Str}{i:Nat}{gl:List Str}
theorem GP{f:M D}{t:M Bool}{g h r:SM}(H:FnNm X.env.scope X.N gl)(he:∀B' G',PE X e (tD X.K B' G' f))(hc:∀B' G',PT X c (tBo X.K B' G' t))(ha:PSs X sts (tS X.K B G0 KX g))(hb:PSs X sts2 (tS X.K B G0 KX h))(hr:PSs X rest (tS X.K B G0 KX r))
  (hi:X.N[i]?=Ci x:=by rfl) (hs:swapsWith e (Ci (.Name x p2)) pos.line X.env=pure Cn:=by rfl) (hf:X.fn x=Cm∨X.env.scope.names.lookup x=Ci .local:=by first|exact .inl rfl|exact .inr rfl|assumption) :
  PSs X (.Assign [.Name x p2] e pos::.If c sts sts2 p3::rest) (tS X.K B G0 KX (Ut (Vn i f t g h) r)):=by
 have he':PE X e (λσ H Q=>∃B' G',tD X.K B' G' f σ H Q):=λpins s σ H Q I ⟨B',G',q⟩=>he B' G' pins s σ H Q I q;have hc':PT X c (λσ H Q=>∃B' G',tBo X.K B' G' t σ H Q):=λpins s σ H Q I ⟨B',G',q⟩=>hc B' G' pins s σ H Q I q;refine XS (VM (V9 H.nd hi (lq H i hi) he' hs hf) (VM (RY hc' ha hb) hr)) λDn σ Hh ⟨G,Z,k,a⟩=>?_
 refine⟨Hh,Hh,Hh,UY Z,k.lent,?_⟩;unfold Ut Vn at a;cases zf:f (UY Z)with
 |bad=>rw[zf]at a;exact a.elim
 |ok d Z1=>
 rw[zf]at a;dsimp only at a;by_cases hl:i<(UY Z).length
 .rw[Qs hl]at a
  cases zt:t ((UY Z).set i (Ci (.pub d)))with
  |bad=>rw[zt]at a;exact a.elim
  |ok b Z2=>
  rw[zt]at a;dsimp only at a;intro v G' H1 k1 _ rv;refine⟨H1,H1,H1,_,((k.back k1.bh).lent).setPub (rv.mono k1.gh) hl,?_⟩;rw[zt];intro b' G2 H2 k2 _ hb';have hb':b'=b:=hb';subst hb';have kk:EOk X.K B G0 G H2 (σ.set i (Ci v)) (Z.set i Ck):=(k.back (k1.bh.trans k2.bh)).hideAt;cases b' with
  |true=>exact⟨G,_,kk,OR a⟩
  |false=>exact⟨G,_,kk,OR a⟩
 .rw[QM hl]at a;exact a.elim
theorem LZ{y:Str}{j:Nat}{py spos:Pos}{tg elt iter:JX}{ifs:Cr}{scope:Scope}{pos:Pos}{f:M Co}{s:D->Ul->Cv}{t:M Bool}{g:M Co}(SC:Scope)(N1 N2:List Str)(k:Nat)(hN:X.N.Nodup)(hj:X.N[j]?=Ci y)(hy:X.env.scope.names.lookup y=Ci .local)(hc:X.calm=Cm)
  (hi:PI X tg iter (iD X.K B G0 f)) (CD:T5 X N2 scope elt tg ifs s t g) (h1:X.env.scope=SC) (h2:X.N=N1) (hb:Y1 XR SC scope N1 N2 k=Cm) (hs:∀x,Uj iter X.env x=pure x:=by intro _;rfl)
  (hsw:swapsWith (.ListComp elt [⟨tg,iter,ifs,0⟩] scope pos) (Ci (.Name y py)) spos.line X.env=pure Cm:=by rfl) :
  PS X (.Assign [.Name y py] (.ListComp elt [⟨tg,iter,ifs,0⟩] scope pos) spos) (tS X.K B G0 KX (Ku j (Xz f k s t g))):=
 MC hN hj hy hc hi CD (by rw[h1,h2];exact To hb) hs hsw
end
theorem GO{i:Nat}{f:M D}{t:M Bool}{g h:SM}{Z Z1 Z2:Ul}{d:D}{b:Bool}{o:Out}(h1:f (UY Z)=.ok d Z1)(hl:i<Z.length)(h2:t ((UY Z).set i (Ci (.pub d)))=.ok b Z2)(h3:(if b=Cm then g (Z.set i Ck)else h (Z.set i Ck))=o):Vn i f t g h Z=o:=by
 have hl':i<(UY Z).length:=by unfold UY;rw[Qd];exact hl
 unfold Vn;rw[h1];dsimp only;rw[Qs hl',h2];exact h3
end DL
namespace DL
open PySem PySem.Spec L2
open PyProof.Rows hiding St
open PySem.SeqRoads2 PySem.SeqAt
end DL
namespace W
open PySem PySem.Spec L2 DL
open PyProof.Rows hiding St
def top(i:Nat):Stmt:=PySem.Challenge.pw_wishdeal_k27_ways_let_by.main.body.getD i (.Pass ⟨0,0,0,0⟩)
abbrev GG(s:Stmt)(x:Str):Prop:=(Kj s).names.lookup x=Ci NameKind.globalImplicit
abbrev VV(s:Stmt)(x:Str):Prop:=L2.Vis (Kj s) x
abbrev LL(s:Stmt)(x:Str):Prop:=L2.Loc (Kj s) x
theorem vk{s:Stmt}{x:Str}(h:(Kj s).names.lookup x=Ci .local∨(Kj s).names.lookup x=Ci .cell∨(Kj s).names.lookup x=Ci .free):VV s x:=h
theorem lk{s:Stmt}{x:Str}(h:(Kj s).names.lookup x=Ci .local∨(Kj s).names.lookup x=Ci .cell):LL s x:=h
structure Txt(K:Frag)(mg:Str->Cw):Prop where
 b_all:mg "all" = Ck
 b_bool:mg "bool" = Ck
 b_enumerate:mg "enumerate" = Ck
 b_int:mg "int" = Ck
 b_isinstance:mg "isinstance" = Ck
 b_len:mg "len" = Ck
 b_list:mg "list" = Ck
 b_max:mg "max" = Ck
 b_range:mg "range" = Ck
 b_repr:mg "repr" = Ck
 b_set:mg "set" = Ck
 b_sorted:mg "sorted" = Ck
 b_str:mg "str" = Ck
 b_sum:mg "sum" = Ck
 b_tuple:mg "tuple" = Ck
 c_MOST_ASKERS:∃t,mg "MOST_ASKERS" = Ci (Value.int 7 t)
 c_MOST_COPIES:∃t,mg "MOST_COPIES" = Ci (Value.int 7 t)
 c_MOST_RANKS:∃t,mg "MOST_RANKS" = Ci (Value.int 5 t)
 c_MOST_THINGS:∃t,mg "MOST_THINGS" = Ci (Value.int 6 t)
 sm:SmK K
abbrev Sap:Stmt:=top 27
abbrev N_ap:List Str:=["_law_wishes_here", "_law_asker"]
theorem Hap:NmF Sap N_ap:=KO (by decide +kernel)
def Wl:SM:=
 UH (Za VQ (Up (Za WL (Up (Uo oIx (Uz 0 (Uq (.int 1))) (Uk 1)) (Up (UJ (Um)) (Um)))) (Um)))
def Zy:Co->Cs:=UT N_ap Wl
abbrev Sas:Stmt:=top 30
abbrev N_as:List Str:=["_law_thing"]
theorem Has:NmF Sas N_as:=KO (by decide +kernel)
def g_as:SM:=
 UH (Xv (UA (λd=>.bool (UR d "int")) (Uk 0)) (Vh (UA (λd=>.bool (UR d "bool")) (Uk 0))))
def YE:Co->Cs:=UT N_as g_as
abbrev Sat:Stmt:=top 31
abbrev N_at:List Str:=["_law_wishes_here", "_law_dealing", "_law_thing", "_law_askers", "_law_step", "_law_asker", "_law_what", "_law_k", "_law_last"]
theorem Hat:NmF Sat N_at:=KO (by decide +kernel)
def P8:SM:=
 sIf (mOr (UA isNon (Uo oIx (Uz 2 (Uo Zh (Uk 7) (Uq (.int 1)))) (Uq (.int 1)))) (Uo oNe (Uz 1 (Uo oIx (Uz 2 (Uk 7)) (Uq (.int 0)))) (Uo oIx (Uz 2 (Uo Zh (Uk 7) (Uq (.int 1)))) (Uq (.int 1)))))
 (UH (Uq (.bool Cn)))
 (sNx)
def P7:SM:=
 Ut (sIf (mOr (UP (KG (UA (λd=>.bool (UR d "tuple")) (Uk 4)))) (mOr (Uo oNe (Kn 4) (Uq (.int 2))) (UP (KG (UF 1 YE (Up (Uz 4 (Uq (.int 0))) (Um)))))))
 (UH (Uq (.bool Cn)))
 (sNx))
 (Ut (Zg (Uk 4) (gT 2 (gNC (gN 5) (gNC (gN 6) (gN0)))))
 (Ut (sIf (mOr (Kz (oIB λi j=>decide (i<j)) 5 (Uq (.int 0))) (mOr (Kz (oIB λi j=>decide (j<=i)) 5 (Kn 1)) (mOr (WF oIn (Uk 5) 3) (Kz oEq 6 (Uz 1 (Uk 5))))))
 (UH (Uq (.bool Cn)))
 (sNx))
 (Ut (sIf (K5 (UA (λd=>!isNon d) (Uk 6)) (UP (KG (UF 1 YE (Up (Uk 6) (Um))))))
 (UH (Uq (.bool Cn)))
 (sNx))
 (Ut (sIf (K5 (UA (λd=>!isNon d) (Uk 6)) (Kz ZN 6 (UF 2 Zy (Up (Uk 0) (Up (Uk 5) (Um))))))
 (UH (Uq (.bool Cn)))
 (sNx))
 (K4 3 (Uk 5))))))
def Wk:SM:=
 Ut (sIf (mOr (UP (KG (UA (λd=>.bool (UR d "list")) (Uk 2)))) (Kz We 2 (UJ (Um))))
 (UH (Uq (.bool Cn)))
 (sNx))
 (Ut (Ku 3 (UD (Um) λxs=>if xs.length<=1000000 then Uq xs else λ_=>.bad))
 (Ut (Ks (KZ (Uk 2)) (gN 4) P7)
 (Ut (Ks (WH (Up (Uq (.int 1)) (Up (Kn 2) (Um)))) (gN 7) P8)
 (Ut (UM 8 (Uo oIx (Uz 2 (KU (Uq (.int 1)))) (Uq (.int 1))))
 (Ut (sIf (mOr (UA isNon (Uk 8)) (Kz oEq 8 (Uz 1 (Uo oIx (Uz 2 (Uq (.int 0))) (Uq (.int 0))))))
 (UH (Uq (.bool Cm)))
 (sNx))
 (UH (UA J8 (Uo (oIB λi j=>decide (i<j)) (WN (Uk 1) (Up (Uk 8) (Um))) (Uo oIx (Uz 0 (Uq (.int 0))) (Uk 8))))))))))
def YD:Co->Cs:=UT N_at Wk
abbrev Sak:Stmt:=top 21
abbrev N_ak:List Str:=["dealing", "takings", "place", "taken"]
theorem Hak:NmF Sak N_ak:=KO (by decide +kernel)
def P6:SM:=
 Ut (UM 3 (Uo oIx (Uz 1 (Uo Zh (Uk 2) (Uq (.int 1)))) (Uq (.int 1))))
 (sIf (mOr (UA isNon (Uk 3)) (Uo oNe (Uz 0 (Uo oIx (Uz 1 (Uk 2)) (Uq (.int 0)))) (Uk 3)))
 (UH (Uq (.bool Cn)))
 (sNx))
def Wo:SM:=
 Ut (Ks (WH (Up (Uq (.int 1)) (Up (Kn 1) (Um)))) (gN 2) P6)
 (UH (Uq (.bool Cm)))
def YG:Co->Cs:=UT N_ak Wo
abbrev Saa:Stmt:=top 1
abbrev N_aa:List Str:=["thing"]
theorem Haa:NmF Saa N_aa:=KO (by decide +kernel)
def Wx:SM:=
 UH (Xv (UA (λd=>.bool (UR d "int")) (Uk 0)) (Vh (UA (λd=>.bool (UR d "bool")) (Uk 0))))
def ZS:Co->Cs:=UT N_aa Wx
abbrev Sah:Stmt:=top 16
abbrev N_ah:List Str:=["ranks", "thing", "number", "rank"]
theorem Hah:NmF Sah N_ah:=KO (by decide +kernel)
def P5:SM:=
 sIf (Kz oIn 1 (Uk 3))
 (UH (Uk 2))
 (sNx)
def Wr:SM:=
 Ut (Ks (V6 (Up (Uk 0) (Um))) (gT 2 (gNC (gN 2) (gNC (gN 3) (gN0)))) P5)
 (UH (Uq (.int 0)))
def Xl:Co->Cs:=UT N_ah Wr
abbrev Sab:Stmt:=top 2
abbrev N_ab:List Str:=["thing", "many"]
theorem Hab:NmF Sab N_ab:=KO (by decide +kernel)
def Xd:SM:=
 UH (Xv (UF 1 ZS (Up (Uk 0) (Um))) (UA J8 (XY (oIB λi j=>decide (i<=j)) (oIB λi j=>decide (i<j)) (Uq (.int 0)) (Uk 0) (Uk 1))))
def K6:Co->Cs:=UT N_ab Xd
abbrev Saj:Stmt:=top 20
abbrev N_aj:List Str:=["lists", "dealing", "thing", "asker", "taken"]
theorem Haj:NmF Saj N_aj:=KO (by decide +kernel)
def Wp:SM:=
 Ut (sIf (mOr (UP (KG (UA (λd=>.bool (UR d "tuple")) (Uk 2)))) (Uo oNe (Kn 2) (Uq (.int 2))))
 (UH (Uq (.bool Cn)))
 (sNx))
 (Ut (Zg (Uk 2) (gT 2 (gNC (gN 3) (gNC (gN 4) (gN0)))))
 (Ut (sIf (UP (KG (UF 2 K6 (Up (Uk 3) (Up (Kn 0) (Um))))))
 (UH (Uq (.bool Cn)))
 (sNx))
 (Ut (sIf (UA isNon (Uk 4))
 (UH (UA (λd=>.bool (!isNon d)) (Uz 1 (Uk 3))))
 (sNx))
 (UH (Xv (UF 1 ZS (Up (Uk 4) (Um))) (Xv (UA J8 (Kz oNe 4 (Uz 1 (Uk 3)))) (UA J8 (Uo (oIB λi j=>decide (j<i)) (UF 2 Xl (Up (Uz 0 (Uk 3)) (Up (Uk 4) (Um)))) (Uq (.int 0))))))))))
def YH:Co->Cs:=UT N_aj Wp
abbrev Sad:Stmt:=top 12
abbrev N_ad:List Str:=["thing", "things"]
theorem Had:NmF Sad N_ad:=KO (by decide +kernel)
def Wv:SM:=
 Ut (sIf (mOr (UP (KG (UA (λd=>.bool (UR d "list")) (Uk 0)))) (Uo oEq (Kn 0) (Uq (.int 0))))
 (UH (Uq (.bool Cn)))
 (sNx))
 (UH (Za Zi (Up (UA J7 (ZA (KZ (Uk 0)) 1 (gN 2) (Uq Cm) (UF 2 K6 (Up (Uk 2) (Up (Uk 1) (Um)))))) (Um))))
def YI:Co->Cs:=UT N_ad Wv
abbrev Sae:Stmt:=top 13
abbrev N_ae:List Str:=["thing", "things", "wished"]
theorem Hae:NmF Sae N_ae:=KO (by decide +kernel)
def Wu:SM:=
 Ut (sIf (mOr (UP (KG (UA (λd=>.bool (UR d "list")) (Uk 0)))) (Uo (oIB λi j=>decide (j<i)) (Kn 0) (Uq (.int 5))))
 (UH (Uq (.bool Cn)))
 (sNx))
 (Ut (sIf (UP (KG (Za Zi (Up (UA J7 (ZA (KZ (Uk 0)) 1 (gN 3) (Uq Cm) (UF 2 YI (Up (Uk 3) (Up (Uk 1) (Um)))))) (Um)))))
 (UH (Uq (.bool Cn)))
 (sNx))
 (Ut (Ku 2 (Vm (KZ (Uk 0)) 2 (gN 3) (Uq Cm) (KZ (Uk 3)) (gN 4) (Uq Cm) (Uk 4)))
 (UH (UA J8 (Uo oEq (Za W0 (Up (Uk 2) (Um))) (Kn 2))))))
def Xo:Co->Cs:=UT N_ae Wu
abbrev Saf:Stmt:=top 14
abbrev N_af:List Str:=["lists", "things", "asker", "ranks"]
theorem Haf:NmF Saf N_af:=KO (by decide +kernel)
def P4:SM:=
 sIf (UP (KG (UF 2 Xo (Up (Uk 3) (Up (Uk 1) (Um))))))
 (WR)
 (sNx)
def Wt:SM:=
 Ut (sIf (mOr (UP (KG (UA (λd=>.bool (UR d "list")) (Uk 0)))) (UP (XY (oIB λi j=>decide (i<=j)) (oIB λi j=>decide (i<=j)) (Uq (.int 1)) (Kn 0) (Uq (.int 7)))))
 (WR)
 (sNx))
 (Ks (YM (Up (Uk 0) (Um))) (gT 2 (gNC (gN 2) (gNC (gN 3) (gN0)))) P4)
def Xn:Co->Cs:=UT N_af Wt
abbrev Sac:Stmt:=top 11
abbrev N_ac:List Str:=["copies", "number", "many"]
theorem Hac:NmF Sac N_ac:=KO (by decide +kernel)
def PH:SM:=
 sIf (UP (KG (UF 2 K6 (Up (Uk 2) (Up (Uo UC (Uq (.int 7)) (Uq (.int 1))) (Um))))))
 (WR)
 (sNx)
def Ww:SM:=
 Ut (sIf (mOr (UP (KG (UA (λd=>.bool (UR d "list")) (Uk 0)))) (UP (XY (oIB λi j=>decide (i<=j)) (oIB λi j=>decide (i<=j)) (Uq (.int 1)) (Kn 0) (Uq (.int 6)))))
 (WR)
 (sNx))
 (Ks (YM (Up (Uk 0) (Um))) (gT 2 (gNC (gN 1) (gNC (gN 2) (gN0)))) PH)
def Xp:Co->Cs:=UT N_ac Ww
abbrev Sag:Stmt:=top 15
abbrev N_ag:List Str:=["thing", "copies", "lists"]
theorem Hag:NmF Sag N_ag:=KO (by decide +kernel)
def Ws:SM:=
 Ut (sIf (mOr (UP (KG (UA (λd=>.bool (UR d "tuple")) (Uk 0)))) (Uo oNe (Kn 0) (Uq (.int 2))))
 (WR)
 (sNx))
 (Ut (Zg (Uk 0) (gT 2 (gNC (gN 1) (gNC (gN 2) (gN0)))))
 (Ut (WK (UF 1 Xp (Up (Uk 1) (Um))))
 (WK (UF 2 Xn (Up (Uk 2) (Up (Kn 1) (Um)))))))
def Xm:Co->Cs:=UT N_ag Ws
abbrev Sai:Stmt:=top 18
abbrev N_ai:List Str:=["wishes", "dealing"]
theorem Hai:NmF Sai N_ai:=KO (by decide +kernel)
def Wq:SM:=
 Ut (WK (UF 1 Xm (Up (Uk 0) (Um))))
 (UH (UA J7 (ZA (YM (Up (Uz 0 (Uq (.int 0))) (Um))) 2 (gT 2 (gNC (gN 2) (gNC (gN 3) (gN0)))) (Uq Cm) (Uo Zh (Uk 3) (WN (Uk 1) (Up (Uk 2) (Um)))))))
def Xk:Co->Cs:=UT N_ai Wq
abbrev Sal:Stmt:=top 22
abbrev N_al:List Str:=["wishes", "dealing", "thing", "left", "last"]
theorem Hal:NmF Sal N_al:=KO (by decide +kernel)
def Wn:SM:=
 Ut (UM 3 (UF 2 Xk (Up (Uk 0) (Up (Uk 1) (Um)))))
 (Ut (sIf (mOr (UP (KG (UA (λd=>.bool (UR d "list")) (Uk 2)))) (Uo oEq (Kn 2) (Uq (.int 0))))
 (UH (Uq (.bool Cn)))
 (sNx))
 (Ut (sIf (UP (KG (Za Zi (Up (UA J7 (ZA (KZ (Uk 2)) 1 (gN 5) (Uq Cm) (UF 3 YH (Up (Uz 0 (Uq (.int 1))) (Up (Uk 1) (Up (Uk 5) (Um))))))) (Um)))))
 (UH (Uq (.bool Cn)))
 (sNx))
 (Ut (sIf (mOr (Uo oNe (Vo (KZ (Uk 2)) 2 (gT 2 (gNC (gN 5) (gNC (gN 6) (gN0)))) (Uq Cm) (Uk 5)) (Kn 2)) (UP (KG (UF 2 YG (Up (Uk 1) (Up (Uk 2) (Um)))))))
 (UH (Uq (.bool Cn)))
 (sNx))
 (Ut (UM 4 (Uo oIx (Uz 2 (KU (Uq (.int 1)))) (Uq (.int 1))))
 (UH (YA (UA (λd=>.bool (isNon d)) (Uk 4)) (YA (UA J8 (Uo (oIB λi j=>decide (j<i)) (Uz 3 (Uk 4)) (Uq (.int 0)))) (UA J8 (Uo oEq (Uz 1 (Uo oIx (Uz 2 (Uq (.int 0))) (Uq (.int 0)))) (Uk 4))))))))))
def YF:Co->Cs:=UT N_al Wn
abbrev Sav:Stmt:=top 33
abbrev N_av:List Str:=["_law_wishes_here", "_law_dealing", "_law_thing", "_law_kept", "_law_found"]
theorem Hav:NmF Sav N_av:=KO (by decide +kernel)
def Wi:SM:=
 Ut (Ku 3 (UD (Up (Za YR (Up (Uk 0) (Um))) (Up (UA J7 (Vt 1)) (Up (Za YR (Up (Uk 2) (Um))) (Um)))) λxs=>if xs.length<=1000000 then Uq xs else λ_=>.bad))
 (Ut (UM 4 (UF 3 YF (Up (Uk 0) (Up (Uk 1) (Up (Uk 2) (Um))))))
 (Ut (sIf (mOr (UP (KG (UA (λd=>.bool (UR d "bool")) (Uk 4)))) (Kz oNe 4 (UF 3 YD (Up (Uk 0) (Up (Uk 1) (Up (Uk 2) (Um)))))))
 (UH (Uq (.bool Cn)))
 (sNx))
 (UH (UA J8 (Kz oEq 3 (UJ (Up (Za YR (Up (Uk 0) (Um))) (Up (Uk 1) (Up (Za YR (Up (Uk 2) (Um))) (Um))))))))))
def ZR:Co->Cs:=UT N_av Wi
abbrev Sam:Stmt:=top 24
abbrev N_am:List Str:=["_law_script", "_law_k"]
theorem Ham:NmF Sam N_am:=KO (by decide +kernel)
def Xc:SM:=
 Ut (sIf (Kz (oIB λi j=>decide (i<j)) 1 (Kn 0))
 (UH (Uz 0 (Uk 1)))
 (sNx))
 (UH (Uq (.int 0)))
def Zz:Co->Cs:=UT N_am Xc
abbrev San:Stmt:=top 25
abbrev N_an:List Str:=["_law_cell", "_law_salt", "_law_sizes", "_law_number", "_law_left", "_law_found", "_law_k", "_law_one"]
theorem Han:NmF San N_an:=KO (by decide +kernel)
def Rb:SM:=
 sIf (K5 (Kz (oIB λi j=>decide (j<=i)) 3 (Uo Yz (Uq (.int 10)) (Uq (.int 18)))) (Kz (oIB λi j=>decide (j<i)) 4 (Uq (.int 0))))
 (Ut (K4 5 (Uo Kd (Uk 4) (Uz 2 (Uk 6))))
 (UM 4 (Uo ZO (Uk 4) (Uz 2 (Uk 6)))))
 (Ut (UM 7 (Uo Kd (Uo UC (Uo UC (Uo UC (Uk 3) (Uo UN (Uq (.int 7919)) (Uk 1))) (Uo UN (Uo UN (Uq (.int 101)) (Uk 6)) (Uk 6))) (Uk 6)) (Uq (.int 2147483647))))
 (Ut (UM 7 (Uo Kd (Uo UN (Uk 7) (Uq (.int 48271))) (Uq (.int 2147483647))))
 (Ut (UM 7 (Uo Kd (Uo UN (Uo Kd (Uo UN (Uk 7) (Uk 7)) (Uq (.int 2147483629))) (Uq (.int 48271))) (Uq (.int 2147483647))))
 (K4 5 (Uo Kd (Uo ZO (Uk 7) (Uq (.int 16))) (Uz 2 (Uk 6)))))))
def Wm:SM:=
 Ut (UM 3 (Za VS (Up (Uk 0) (Up (Uo Zh (KU (Uq (.int 1))) (Uk 0)) (Um)))))
 (Ut (UM 4 (Uk 3))
 (Ut (Ku 5 (UD (Um) λxs=>if xs.length<=1000000 then Uq xs else λ_=>.bad))
 (Ut (Ks (YY (Up (Kn 2) (Um))) (gN 6) Rb)
 (UH (Uk 5)))))
def KY:Co->Cs:=UT N_an Wm
abbrev Sau:Stmt:=top 32
abbrev N_au:List Str:=["_law_way", "_law_dealing", "_law_number", "_law_at", "_law_asker", "_law_what", "_law_place", "_law_some", "_law_things"]
theorem Hau:NmF Sau N_au:=KO (by decide +kernel)
def Wj:SM:=
 Ut (UM 3 (Uo Kd (Uk 2) (Kn 0)))
 (Ut (Zg (Uz 0 (Uk 3)) (gT 2 (gNC (gN 4) (gNC (gN 5) (gN0)))))
 (Ut (UM 6 (Uo Kd (Uo ZO (Uk 2) (Uq (.int 7))) (Uq (.int 8))))
 (Ut (Ku 7 (UD (Up (U3 (Up (Uk 4) (Um))) (Up (U3 (Up (Uk 4) (Up (Uk 5) (Up (Uq (.int 0)) (Um))))) (Up (UJ (Up (Uk 4) (Up (Uk 5) (Um)))) (Up (U3 (Up (Uk 5) (Up (Uk 4) (Um)))) (Up (U3 (Up (Uq (.bool Cm)) (Up (Uk 5) (Um)))) (Up (U3 (Up (Uk 4) (Up (Uq (.bool Cn)) (Um)))) (Up (U3 (Up (Za Vk (Up (Uk 4) (Um))) (Up (Uk 5) (Um)))) (Um)))))))) λxs=>if xs.length<=1000000 then Uq xs else λ_=>.bad))
 (Ut (UM 7 (Uo UC (Uk 7) (UJ (Up (U3 (Up (KU (Uq (.int 1))) (Up (Uk 5) (Um)))) (Up (U3 (Up (Kn 1) (Up (Uk 5) (Um)))) (Up (U3 (Up (Uk 4) (Up (KU (Uq (.int 1))) (Um)))) (Up (U3 (Up (Uk 4) (Up (Uq (.int 6)) (Um)))) (Up (U3 (Up (Uk 4) (Up (Uq .none) (Um)))) (Up (U3 (Up (Uk 4) (Up (Uz 1 (Uk 4)) (Um)))) (Um))))))))))
 (Ut (UM 7 (Uo UC (Uk 7) (UJ (Up (U3 (Up (Uo Kd (Uk 6) (Kn 1)) (Up (Uk 5) (Um)))) (Up (U3 (Up (Uk 4) (Up (Uk 6) (Um)))) (Up (Uq .none) (Up (Uk 4) (Up (Uq (.str "")) (Up (U3 (Up (Uk 4) (Up (UJ (Up (Uk 5) (Um))) (Um)))) (Up (U3 (Up (Uo oIx (UJ (Up (U3 (Up (Uk 4) (Um))) (Up (UJ (Up (Uk 4) (Um))) (Um)))) (Uo Kd (Uk 6) (Uq (.int 2)))) (Up (Uk 5) (Um)))) (Um)))))))))))
 (Ut (Ku 8 (ZA (KZ (Uk 7)) 1 (gN 9) (Uq Cm) (Uo UC (Uo UC (U4 (Uk 0) (Uq Ck) (UD (Uk 3) λx=>Ux (KB x))) (UJ (Up (Uk 9) (Um)))) (U4 (Uk 0) (UD (Uo UC (Uk 3) (Uq (.int 1))) λx=>Ux (KB x)) (Uq Ck)))))
 (Ut (UM 8 (Uo UC (Uk 8) (UJ (Up (Uo UC (U4 (Uk 0) (Uq Ck) (UD (Uk 3) λx=>Ux (KB x))) (U4 (Uk 0) (UD (Uo UC (Uk 3) (Uq (.int 1))) λx=>Ux (KB x)) (Uq Ck))) (Up (Uo UC (U4 (Uk 0) (Uq Ck) (UD (Uo UC (Uk 3) (Uq (.int 1))) λx=>Ux (KB x))) (U4 (Uk 0) (UD (Uk 3) λx=>Ux (KB x)) (Uq Ck))) (Up (YC (Uk 0) (Uq Ck) (Uq Ck) (UD (KU (Uq (.int 1))) λx=>Ux (KB x))) (Up (Uo UC (U4 (Uk 0) (UD (Uk 3) λx=>Ux (KB x)) (Uq Ck)) (U4 (Uk 0) (Uq Ck) (UD (Uk 3) λx=>Ux (KB x)))) (Up (U4 (Uk 0) (Uq Ck) (UD (Uo UC (Uk 3) (Uq (.int 1))) λx=>Ux (KB x))) (Um)))))))))
 (Ut (UM 8 (Uo UC (Uk 8) (UJ (Up (Uo UC (Uk 0) (UJ (Up (U3 (Up (Uo Kd (Uk 6) (Kn 1)) (Up (Uq .none) (Um)))) (Um)))) (Up (Uo UC (UJ (Up (U3 (Up (Uo Kd (Uk 6) (Kn 1)) (Up (Uk 5) (Um)))) (Um))) (Uk 0)) (Up (Za T9 (Up (Uk 0) (Um))) (Up (Uq .none) (Um))))))))
 (UH (Uo oIx (Uo UC (Uk 8) (UJ (Up (UJ (Um)) (Up (Uq (.dict [])) (Um))))) (Uo Kd (Uo ZO (Uk 2) (Uq (.int 61))) (Uq (.int 31)))))))))))))
def Xj:Co->Cs:=UT N_au Wj
abbrev NX:Stmt:=top 29
abbrev NW:List Str:=["_law_wishes_here", "_law_dealing", "_law_cell", "_law_salt", "_law_digits", "_law_way", "_law_asker", "_law_k", "_law_some", "_law_what", "_law_used", "_law_holders"]
theorem NT:NmF NX NW:=KO (by decide +kernel)
def NQ:SM:=
 Ut (UM 8 (Uo UC (UA J7 (ZA (KZ (UF 2 Zy (Up (Uk 0) (Up (Uk 6) (Um))))) 1 (gN 12) (Kz oNe 12 (Uz 1 (Uk 6))) (Uk 12))) (UJ (Up (Uq .none) (Um)))))
 (Ut (UM 9 (Uz 8 (Uo Kd (Uz 4 (Uo UC (Uq (.int 1)) (Uo UN (Uq (.int 2)) (Uk 7)))) (Kn 8))))
 (Ut (K4 5 (U3 (Up (Uk 6) (Up (Uk 9) (Um)))))
 (Ut (Ku 10 (X2 (ZA (KZ (Uk 5)) 1 (gN 12) (Uq Cm) (Uz 12 (Uq (.int 0))))))
 (Ut (Ku 11 (WP (YY (Up (Kn 1) (Um))) 1 (gN 12) (K5 (Uo oEq (Uz 1 (Uk 12)) (Uk 9)) (Kz ZN 12 (Uk 10))) (Uk 12)))
 (Ut (sIf (mOr (UA isNon (Uk 9)) (mOr (Kz oEq 11 (UJ (Um))) (Uo (oIB λi j=>decide (i<j)) (Uz 4 (Uo UC (Uq (.int 2)) (Uo UN (Uq (.int 2)) (Uk 7)))) (Uq (.int 9)))))
 (WE (KT 5))
 (sNx))
 (UM 6 (Uz 11 (Uo Kd (Uz 4 (Uo UC (Uq (.int 2)) (Uo UN (Uq (.int 2)) (Uk 7)))) (Kn 11)))))))))
def RK:SM:=
 Ut (UM 4 (UF 3 KY (Up (Uk 2) (Up (Uk 3) (Up (Uo UC (UJ (Up (Kn 1) (Um))) (Uo UN (UJ (Up (Uq (.int 61)) (Up (Uq (.int 53)) (Um)))) (Uq (.int 7)))) (Um))))))
 (Ut (Ku 5 (UD (Um) λxs=>if xs.length<=1000000 then Uq xs else λ_=>.bad))
 (Ut (UM 6 (Uz 4 (Uq (.int 0))))
 (Ut (Ks (YY (Up (Uq (.int 7)) (Um))) (gN 7) NQ)
 (sNx))))
def Cd:M Co:=
 KT 5
def Wa:Co->Option Co:=KS NW RK Cd
abbrev NV:Stmt:=top 28
abbrev NU:List Str:=["_law_wishes_here", "_law_cell", "_law_salt", "_law_left", "_law_digits", "_law_found", "_law_asker", "_law_some", "_law_thing"]
theorem NS:NmF NV NU:=KO (by decide +kernel)
def RP:SM:=
 Ut (UM 7 (Uo UC (UA J7 (WP (KZ (UF 2 Zy (Up (Uk 0) (Up (Uk 6) (Um))))) 1 (gN 9) (Uo (oIB λi j=>decide (j<i)) (Uz 3 (Uk 9)) (Uq (.int 0))) (Uk 9))) (UJ (Up (Uq .none) (Um)))))
 (Ut (UM 8 (Uz 7 (Uo Kd (Uz 4 (Uk 6)) (Kn 7))))
 (Ut (sIf (UA (λd=>!isNon d) (Uk 8))
 (Vb 3 (Uk 8) (Uo Zh (Uz 3 (Uk 8)) (Uq (.int 1))))
 (sNx))
 (K4 5 (Uk 8))))
def RJ:SM:=
 Ut (Ku 3 (UD (Up (Uz 0 (Uq (.int 0))) (Um)) λxs=>Ux (YK xs)))
 (Ut (UM 4 (UF 3 KY (Up (Uk 1) (Up (Uk 2) (Up (Uo UN (UJ (Up (Uq (.int 61)) (Um))) (Za UU (Up (Uz 0 (Uq (.int 1))) (Um)))) (Um))))))
 (Ut (Ku 5 (UD (Um) λxs=>if xs.length<=1000000 then Uq xs else λ_=>.bad))
 (Ut (Ks (YY (Up (Za UU (Up (Uz 0 (Uq (.int 1))) (Um))) (Um))) (gN 6) RP)
 (sNx))))
def Cc:M Co:=
 KT 5
def TW:Co->Option Co:=KS NU RJ Cc
abbrev TU:Stmt:=top 26
abbrev TR:List Str:=["_law_script", "_law_at", "_law_most_things", "_law_most_askers", "_law_most_ranks", "_law_digits", "_law_copies", "_law_lists", "_law_asker", "_law_cell", "_law_places", "_law_ranks", "_law_rank", "_law_row"]
theorem UW:FnNm (Kj TU) TR ["range", "len", "_law_numbers", "_law_cell_at"]:=KO (by decide +kernel)
def RN:SM:=
 Ut (Ku 13 (ZA (YY (Up (Kn 6) (Um))) 1 (gN 14) (Uo oEq (Uz 10 (Uk 14)) (Uk 12)) (Uk 14)))
 (sIf (Kz oNe 13 (UJ (Um)))
 (K4 11 (Uo oIx (UJ (Up (Uk 13) (Up (YC (Uk 13) (Uq Ck) (Uq Ck) (UD (KU (Uq (.int 1))) λx=>Ux (KB x))) (Um)))) (Uz 10 (KU (Uq (.int 1))))))
 (sNx))
def RM:SM:=
 Ut (UM 9 (UF 2 Zz (Up (Uk 0) (Up (Uo UC (Uo UC (Uk 1) (Uq (.int 1))) (Uk 8)) (Um)))))
 (Ut (UM 10 (UF 3 KY (Up (Uk 9) (Up (Uo UC (Uo UC (Uo UN (Uq (.int 11)) (Uk 1)) (Uo UN (Uq (.int 3)) (Uk 8))) (Uq (.int 1))) (Up (Uo UC (Uo UN (UJ (Up (Uo UC (Uk 4) (Uq (.int 1))) (Um))) (Uk 2)) (UJ (Up (Uq (.int 2)) (Um)))) (Um))))))
 (Ut (Ku 11 (UD (Um) λxs=>if xs.length<=1000000 then Uq xs else λ_=>.bad))
 (Ut (Ks (WH (Up (Uq (.int 1)) (Up (Uo UC (Uk 4) (Uq (.int 1))) (Um)))) (gN 12) RN)
 (Vd 7 11))))
def RO:SM:=
 Ut (UM 5 (UF 3 KY (Up (UF 2 Zz (Up (Uk 0) (Up (Uk 1) (Um)))) (Up (Uk 1) (Up (Uo UC (UJ (Up (Uk 2) (Up (Uk 3) (Um)))) (Uo UN (UJ (Up (Uq (.int 11)) (Um))) (Uk 2))) (Um))))))
 (Ut (Ku 6 (ZA (KZ (U4 (Uk 5) (UD (Uq (.int 2)) λx=>Ux (KB x)) (UD (Uo UC (Uq (.int 3)) (Uz 5 (Uq (.int 0)))) λx=>Ux (KB x)))) 1 (gN 14) (Uq Cm) (Uo oIx (UJ (Up (Uq (.int 1)) (Up (Uq (.int 1)) (Up (Uq (.int 2)) (Up (Uq (.int 0)) (Up (Uq (.int 3)) (Up (Uq (.int 7)) (Up (Uq (.int 1)) (Up (Uq (.int 4)) (Up (Uq (.int 5)) (Up (Uq (.int 6)) (Up (Uq (.int 1)) (Um))))))))))))) (Uk 14))))
 (Ut (WD 7 (.lst (.lst .leaf)) (Uq (.list [])))
 (Ut (Ks (YY (Up (Uo UC (Uq (.int 1)) (Uz 5 (Uq (.int 1)))) (Um))) (gN 8) RM)
 (sNx))))
def D8:M D:=
 VO (.lst .leaf) (.lst (.lst .leaf)) 6 7
def TX:Co->Cs:=Ve TR RO D8
abbrev Saw:Stmt:=top 34
abbrev Xh:List Str:=["_law_script", "_law_wishes_here", "_law_dealing", "_law_k", "_law_cell", "_law_way", "_law_bent_here", "_law_ways"]
theorem Haw:FnNm (Kj Saw) Xh ["enumerate", "_law_cell_at", "_law_numbers", "_law_bent", "_law_right", "_law_chain", "_law_dealt", "_law_wishes"]:=KO (by decide +kernel)
def PF:SM:=
 Ut (Ku 5 (X2 (YZ 4 Wa (Up (Uk 1) (Up (Uk 2) (Up (Uk 4) (Up (Uo UC (Uq (.int 20)) (Uk 3)) (Um))))))))
 (Ut (Vn 6 (UF 3 Xj (Up (Uk 5) (Up (Uk 2) (Up (Uo UC (Uo oIx (UF 3 KY (Up (Uk 4) (Up (Uo UC (Uq (.int 70)) (Uk 3)) (Up (UJ (Up (Uo UN (Uo UN (Uq (.int 61)) (Uq (.int 31))) (Uq (.int 8))) (Um))) (Um))))) (Uq (.int 0))) (Uo UN (Uq (.int 7)) (Uk 3))) (Um))))) (mOr (UP (KG (UF 3 ZR (Up (Uk 1) (Up (Uk 2) (Up (Uk 5) (Um))))))) (UP (KG (UF 3 ZR (Up (Uk 1) (Up (Uk 2) (Up (Uk 6) (Um)))))))) (UH (Uq (.bool Cn))) (sNx))
 (sNx))
def Wh:SM:=
 Ut (WD 1 (.tup [.lst .leaf,.lst (.lst .leaf)]) (UF 5 TX (Up (Uk 0) (Up (Uq (.int 0)) (Up (Uq (.int 6)) (Up (Uq (.int 7)) (Up (Uq (.int 5)) (Um))))))))
 (Ut (Ku 2 (X2 (YZ 3 TW (Up (Uk 1) (Up (UF 2 Zz (Up (Uk 0) (Up (Uq (.int 8)) (Um)))) (Up (Uq (.int 8)) (Um)))))))
 (Ut (Ks (YM (Up (Uo UC (UJ (Up (UF 2 Zz (Up (Uk 0) (Up (Uq (.int 0)) (Um)))) (Um))) (U4 (Uk 0) (UD (Uq (.int 9)) λx=>Ux (KB x)) (UD (Uq (.int 40)) λx=>Ux (KB x)))) (Um))) (gT 2 (gNC (gN 3) (gNC (gN 4) (gN0)))) PF)
 (Ut (Ku 7 (Xz (YM (Up (U4 (Uk 0) (UD (Uq (.int 9)) λx=>Ux (KB x)) (UD (Uq (.int 20)) λx=>Ux (KB x))) (Um))) 2 (gT 2 (gNC (gN 8) (gNC (gN 9) (gN0)))) (Uq Cm) (YZ 4 Wa (Up (Uk 1) (Up (Uk 2) (Up (Uk 9) (Up (Uo UC (Uq (.int 20)) (Uk 8)) (Um))))))))
 (Ut (Zt 1 [1,0] .clr)
 (Ut (Zt 1 [0] (.set 0 (.int 7)))
 (Ut (Vb 2 (Uq (.int 0)) (Uq .none))
 (UH (Vp (UA J8 (Uo oEq (UA J7 (ZA (KZ (Uk 7)) 1 (gN 8) (UP (KG (UF 3 ZR (Up (Uk 1) (Up (Uk 2) (Up (Uk 8) (Um))))))) (Uk 8))) (UJ (Um))))))))))))
def Xi:Co->Cs:=UT Xh Wh
set_option hygiene false in
local macro_rules | `(tactic| walk_at "g")=>`(tactic| first | exact gA nm rfl | exact Sv rfl)
set_option hygiene false in
local macro_rules | `(tactic| walk_at "v")=>`(tactic| first | exact pq nm _ | exact pvb _)
set_option hygiene false in
local macro_rules | `(tactic| walk_at "b")=>`(tactic| first | ((with_reducible show OpB _ (compareOp CmpOp.Eq) _);first | exact Xr hu | exact My hu) | ((with_reducible show OpB _ (compareOp CmpOp.NotEq) _);first | exact B_ne hu) | ((with_reducible show OpB _ (compareOp CmpOp.Lt) _);first | exact B_lt) | ((with_reducible show OpB _ (compareOp CmpOp.LtE) _);first | exact B_le) | ((with_reducible show OpB _ (compareOp CmpOp.Gt) _);first | exact B_gt) | ((with_reducible show OpB _ (compareOp CmpOp.GtE) _);first | exact B_ge) | ((with_reducible show OpB _ (compareOp CmpOp.In) _);first | exact B_in hu) | ((with_reducible show OpB _ (compareOp CmpOp.NotIn) _);first | exact Mc hu))
set_option hygiene false in
local macro_rules | `(tactic| walk_at "m")=>`(tactic| first | exact Ti _ | exact rfl)
set_option hygiene false in
local macro_rules | `(tactic| walk_at "k")=>`(tactic| first | exact Tx | exact El | exact Ek)
set_option hygiene false in
local macro_rules | `(tactic| walk_at "w")=>`(tactic| first | exact PassesOwn.never)
set_option hygiene false in
local macro_rules | `(tactic| walk_at "x")=>`(tactic| first | assumption | exact wants_cx)
set_option hygiene false in
local macro_rules | `(tactic| walk_at "c")=>`(tactic| first | exact T.c_MOST_ASKERS | exact T.c_MOST_COPIES | exact T.c_MOST_RANKS | exact T.c_MOST_THINGS)
set_option hygiene false in
local macro_rules | `(tactic| walk_at "ck")=>`(tactic| fail)
set_option hygiene false in
local macro_rules | `(tactic| walk_at "e")=>`(tactic| first | ((with_reducible show PE _ (Expr.Call (Expr.Name _ _) [Expr.SetComp _ _ _ _] _ _) _);first | refine MD nm (by walk_at "g") T.b_len rfl ?_ ?_ (by decide +kernel)) | ((with_reducible show PE _ (Expr.Name _ _) _);first | exact UV (pq nm _) | exact UV (pvb _) | exact Me (by walk_at "g") (by walk_at "c")) | ((with_reducible show PE _ (Expr.Constant _ _ _) _);first | exact U0 | exact Of | exact L8 | exact Og) | ((with_reducible show PE _ (Expr.Subscript _ _ _) _);first | refine VF (by walk_at "v") ?_ (fun _ _=>rfl) | refine TC ?_ ?_ ?_ | refine PK ?_ ?_ ?_ ?_ | refine Tf ?_ ?_ (fun _ _=>rfl)) | ((with_reducible show PE _ (Expr.BinOp _ Operator.Add _ _) _);first | refine KE ZC ?_ ?_) | ((with_reducible show PE _ (Expr.BinOp _ Operator.Sub _ _) _);first | refine KE Mn ?_ ?_) | ((with_reducible show PE _ (Expr.BinOp _ Operator.Mult _ _) _);first | refine KE Xw ?_ ?_) | ((with_reducible show PE _ (Expr.BinOp _ Operator.Mod _ _) _);first | refine KE Mm ?_ ?_) | ((with_reducible show PE _ (Expr.BinOp _ Operator.FloorDiv _ _) _);first | refine KE Ml ?_ ?_) | ((with_reducible show PE _ (Expr.BinOp _ Operator.Pow _ _) _);first | refine KE Mk ?_ ?_) | ((with_reducible show PE _ (Expr.Call (Expr.Name "len" _) _ _ _) _);first | refine OW (by walk_at "g") T.b_len (by walk_at "v") | refine Va R4 (by walk_at "g") T.b_len boot_len ?_ | refine Ds rfl (by walk_at "g") T.b_len (by walk_at "g") T.b_set ?_) | ((with_reducible show PE _ (Expr.Call (Expr.Name "max" _) _ _ _) _);first | refine Va (Hw rfl) (by walk_at "g") T.b_max boot_max ?_) | ((with_reducible show PE _ (Expr.Call (Expr.Name "sorted" _) _ _ _) _);first | refine Va MN (by walk_at "g") T.b_sorted PyProof.Rows.boot_sorted ?_) | ((with_reducible show PE _ (Expr.Call (Expr.Name "sum" _) _ _ _) _);first | refine Va (MQ rfl) (by walk_at "g") T.b_sum PyProof.Rows.boot_sum ?_) | ((with_reducible show PE _ (Expr.Call (Expr.Name "all" _) _ _ _) _);first | refine Va (Mg rfl) (by walk_at "g") T.b_all PyProof.Rows.boot_all ?_) | ((with_reducible show PE _ (Expr.Call (Expr.Name "repr" _) _ _ _) _);first | refine Va (HZ hu hgd T.sm) (by walk_at "g") T.b_repr EN ?_) | ((with_reducible show PE _ (Expr.Call (Expr.Name "str" _) _ _ _) _);first | refine Nu Hv (by walk_at "g") T.b_str PyProof.Rows.boot_str ?_) | ((with_reducible show PE _ (Expr.Call (Expr.Name "tuple" _) _ _ _) _);first | refine Nu N5 (by walk_at "g") T.b_tuple Dt ?_) | ((with_reducible show PE _ (Expr.Call (Expr.Name "isinstance" _) [_,Expr.Name "int" _] _ _) _);first | refine TD (c := "int") (by decide) (by walk_at "g") T.b_isinstance (by walk_at "g") T.b_int (by decide +kernel) ?_ (by decide) (by decide)) | ((with_reducible show PE _ (Expr.Call (Expr.Name "isinstance" _) [_,Expr.Name "list" _] _ _) _);first | refine TD (c := "list") (by decide) (by walk_at "g") T.b_isinstance (by walk_at "g") T.b_list (by decide +kernel) ?_ (by decide) (by decide)) | ((with_reducible show PE _ (Expr.Call (Expr.Name "isinstance" _) [_,Expr.Name "tuple" _] _ _) _);first | refine TD (c := "tuple") (by decide) (by walk_at "g") T.b_isinstance (by walk_at "g") T.b_tuple (by decide +kernel) ?_ (by decide) (by decide)) | ((with_reducible show PE _ (Expr.Call (Expr.Name "isinstance" _) [_,Expr.Name "bool" _] _ _) _);first | refine TD (c := "bool") (by decide) (by walk_at "g") T.b_isinstance (by walk_at "g") T.b_bool (by decide +kernel) ?_ (by decide) (by decide)) | ((with_reducible show PE _ (Expr.Call (Expr.Name _ _) _ _ _) _);first | refine pdf (by assumption) hr (by walk_at "g") ?_) | ((with_reducible show PE _ (Expr.Call _ _ _ _) _);first | refine Ec hu ?_ ?_) | refine Yr ?_ | refine Hy ?_ | ((with_reducible show PE _ (Expr.Compare _ _ _ _) _);first | refine Hz ?_ | refine FI ?_ | refine Go (by walk_at "b") (by walk_at "v") ?_ (by walk_at "m") | refine Oc (by walk_at "b") ?_ ?_ (by walk_at "m") | refine EW (by walk_at "b") (by walk_at "b") ?_ ?_ ?_) | refine PN ?_ | refine SJ ?_ | refine HB ?_ | refine HD ?_ ?_ | refine Hx ?_ ?_ | refine HC ?_ | exact Gp | refine Oo fun B' G'=>?_)
set_option hygiene false in
local macro_rules | `(tactic| walk_at "t")=>`(tactic| first | ((with_reducible show PT _ (Expr.Compare _ _ _ _) _);first | refine HA ?_ | refine FJ ?_ | refine PL (by walk_at "b") (by walk_at "v") ?_ (by walk_at "m") | refine Gc (by walk_at "b") ?_ (by walk_at "v") (by walk_at "m") | refine Od (by walk_at "b") ?_ ?_ (by walk_at "m") | refine EX (by walk_at "b") (by walk_at "b") ?_ ?_ ?_) | ((with_reducible show PT _ (Expr.BoolOp _ _ _) _);refine PW.pt ?_) | refine Tr ?_ | refine Tq ?_)
set_option hygiene false in
local macro_rules | `(tactic| walk_at "l")=>`(tactic| first | refine Mv nm (by walk_at "k") rfl ?_ ?_ (by decide +kernel) | refine Eh (by walk_at "g") T.b_list (by walk_at "v") | refine F7 (by walk_at "g") T.b_list ?_ | refine SL ?_ | refine TM (by assumption) hr (by walk_at "g") ?_ | refine Ro fun B' G'=>?_ | refine GA (by walk_at "v"))
set_option hygiene false in
local macro_rules | `(tactic| walk_at "i")=>`(tactic| first | refine RC (by walk_at "g") T.b_range ?_ | refine O1 (by walk_at "g") T.b_range ?_ | refine SK (by walk_at "g") T.b_enumerate ?_ | refine F4 (by walk_at "g") T.b_enumerate ?_ | refine Sm ?_)
set_option hygiene false in
local macro_rules | `(tactic| walk_at "s")=>`(tactic| first | ((with_reducible show PS _ (Stmt.Assign [Expr.Name _ _] _ _) _);first | refine aSet nm ?_ | refine Mu nm (by walk_at "k") rfl ?_ ?_ (by decide +kernel) | refine Mw nm ?_ | refine aSetT nm ?_) | ((with_reducible show PS _ (Stmt.Assign _ _ _) _);first | refine Hu ?_ ?_ | refine PM ?_ (by walk_at "v") ?_) | ((with_reducible show PS _ _ (tS _ _ _ _ (WE _)));refine HY ?_) | refine R3 ?_ ?_ ?_ | refine Sy ?_ | refine Tc (by walk_at "w") rfl ?_ ?_ ?_ | ((with_reducible show PS _ (Stmt.Expr _ _) _);first | refine Pe (by walk_at "v") ?_ | refine Gu ?_) | exact FG)
set_option hygiene false in
local macro_rules | `(tactic| walk_at "d")=>`(tactic| (have hu:=hr.units;have hgd:=hr.gd;repeat' (first | ((with_reducible show PE _ _ (tD _ _ _ _));first | walk_at "e") | ((with_reducible show PA _ _ (tDs _ _ _ _));first | refine UK ?_ ?_ | exact Kq) | ((with_reducible show PSs _ _ (tS _ _ _ _ _));first | refine ZU ?_ ?_ | refine WS ?_ | exact Te | exact sD_nevers) | ((with_reducible show PS _ _ _);walk_at "s") | ((with_reducible show PT _ _ _);walk_at "t") | ((with_reducible show PW _ _ _);first | refine HE ?_ ?_ | refine Ph ?_ ?_ | refine FL ?_ | refine Ob ?_) | ((with_reducible show PE _ _ (tL _ _ _ _));walk_at "l") | ((with_reducible show PI _ _ _ _);walk_at "i") | ((with_reducible show PG _ _ _);first | exact Mx nm | exact ME | refine Sw rfl ?_) | ((with_reducible show PGs _ _ _);first | exact Sx | refine VE ?_ ?_) | ((with_reducible show PO _ _ _);first | exact Rm | refine XN ?_) | ((with_reducible show Sc _ _ _ _ _ _ _ _ _);refine fun cl C s0 H0 ex=>⟨fun B' G'=>?_,fun B' G'=>?_,fun B' G'=>?_⟩) | ((with_reducible show Zx _ _ _ _ _ _ _ _ _);refine fun cl C s0 H0 ex=>⟨fun B' G'=>?_,fun B' G'=>?_,?_⟩) | ((with_reducible show KW _ _ _);first | exact SI | refine SG ?_) | ((with_reducible show Vc _ _ _ _ _ _);first | refine TH rfl rfl rfl fun B' G'=>?_ | refine Em rfl rfl rfl rfl (fun _=>rfl) (fun B' G'=>?_) (fun B' G'=>?_) (fun B' G'=>?_) ?_) | ((with_reducible show PE _ _ (tT _ _ _ _ _));first | refine Oq (by assumption) hr (by walk_at "g") ?_ | exact PV) | ((with_reducible show PSs _ _ (tSO _ _ _ _ _));first | refine ML ?_ | refine HX ?_ ?_) | ((with_reducible show PSs _ _ (tST _ _ _ _ _ _));first | refine R9 (On (by walk_at "v") (by walk_at "v")) | refine VA ?_ ?_))))
section
variable{P:JU}{w:World}{K:Frag}{mg:Str->Cw}{base:Heap}{f:JV}{fd:JW}(T:Txt K mg)
include T
theorem Kap(F:Fun K "_law_wished" "_law_wished" Sap f fd):FnOk P w K mg base CX0 1 f fd ["_law_wishes_here", "_law_asker"] (spD K 2 Zy):=
 okD (k:=0) (g:=Wl) F (fq Hap 2) Cj λcdv A outer s H E B G0 hr=>
 have nm:=Hap
 by walk_at "d"
theorem Kas(F:Fun K "_law_whole_number" "_law_whole_number" Sas f fd):FnOk P w K mg base CX0 1 f fd ["_law_thing"] (spD K 1 YE):=
 okD (k:=0) (g:=g_as) F (fq Has 1) Cj λcdv A outer s H E B G0 hr=>
 have nm:=Has
 by walk_at "d"
theorem Kat(C8:Def P w K mg base "_law_wished" 1 2 Zy)(Ah:Def P w K mg base "_law_whole_number" 1 1 YE)(F:Fun K "_law_is_way" "_law_is_way" Sat f fd):FnOk P w K mg base CX0 2 f fd ["_law_wishes_here", "_law_dealing", "_law_thing"] (spD K 3 YD):=
 okD (k:=1) (g:=Wk) F (fq Hat 3) Cj λcdv A outer s H E B G0 hr=>
 have nm:=Hat
 by walk_at "d"
theorem Kak(F:Fun K "is_linked" "is_linked" Sak f fd):FnOk P w K mg base CX0 1 f fd ["dealing", "takings"] (spD K 2 YG):=
 okD (k:=0) (g:=Wo) F (fq Hak 2) Cj λcdv A outer s H E B G0 hr=>
 have nm:=Hak
 by walk_at "d"
theorem Kaa(F:Fun K "is_whole" "is_whole" Saa f fd):FnOk P w K mg base CX0 1 f fd ["thing"] (spD K 1 ZS):=
 okD (k:=0) (g:=Wx) F (fq Haa 1) Cj λcdv A outer s H E B G0 hr=>
 have nm:=Haa
 by walk_at "d"
theorem Kah(F:Fun K "rank_in" "rank_in" Sah f fd):FnOk P w K mg base CX0 1 f fd ["ranks", "thing"] (spD K 2 Xl):=
 okD (k:=0) (g:=Wr) F (fq Hah 2) Cj λcdv A outer s H E B G0 hr=>
 have nm:=Hah
 by walk_at "d"
theorem Kab(Br:Def P w K mg base "is_whole" 1 1 ZS)(F:Fun K "is_number_below" "is_number_below" Sab f fd):FnOk P w K mg base CX0 2 f fd ["thing", "many"] (spD K 2 K6):=
 okD (k:=1) (g:=Xd) F (fq Hab 2) Cj λcdv A outer s H E B G0 hr=>
 have nm:=Hab
 by walk_at "d"
theorem Kaj(Br:Def P w K mg base "is_whole" 1 1 ZS)(Am:Def P w K mg base "rank_in" 1 2 Xl)(C9:Def P w K mg base "is_number_below" 2 2 K6)(F:Fun K "is_taking" "is_taking" Saj f fd):FnOk P w K mg base CX0 3 f fd ["lists", "dealing", "thing"] (spD K 3 YH):=
 okD (k:=2) (g:=Wp) F (fq Haj 3) Cj λcdv A outer s H E B G0 hr=>
 have nm:=Haj
 by walk_at "d"
theorem Kad(C9:Def P w K mg base "is_number_below" 2 2 K6)(F:Fun K "is_rank" "is_rank" Sad f fd):FnOk P w K mg base CX0 3 f fd ["thing", "things"] (spD K 2 YI):=
 okD (k:=2) (g:=Wv) F (fq Had 2) Cj λcdv A outer s H E B G0 hr=>
 have nm:=Had
 by walk_at "d"
theorem Kae(Aq:Def P w K mg base "is_rank" 3 2 YI)(F:Fun K "is_asker_list" "is_asker_list" Sae f fd):FnOk P w K mg base CX0 4 f fd ["thing", "things"] (spD K 2 Xo):=
 okD (k:=3) (g:=Wu) F (fq Hae 2) Cj λcdv A outer s H E B G0 hr=>
 have nm:=Hae
 by walk_at "d"
theorem Kaf(Ap:Def P w K mg base "is_asker_list" 4 2 Xo)(F:Fun K "look_at_lists" "look_at_lists" Saf f fd):FnOk P w K mg base CX0 5 f fd ["lists", "things"] (spD K 2 Xn):=
 okD (k:=4) (g:=Wt) F (fq Haf 2) Cj λcdv A outer s H E B G0 hr=>
 have nm:=Haf
 by walk_at "d"
theorem Kac(C9:Def P w K mg base "is_number_below" 2 2 K6)(F:Fun K "look_at_copies" "look_at_copies" Sac f fd):FnOk P w K mg base CX0 3 f fd ["copies"] (spD K 1 Xp):=
 okD (k:=2) (g:=Ww) F (fq Hac 1) Cj λcdv A outer s H E B G0 hr=>
 have nm:=Hac
 by walk_at "d"
theorem Kag(Ao:Def P w K mg base "look_at_lists" 5 2 Xn)(Ar:Def P w K mg base "look_at_copies" 3 1 Xp)(F:Fun K "look_at_wishes" "look_at_wishes" Sag f fd):FnOk P w K mg base CX0 6 f fd ["thing"] (spD K 1 Xm):=
 okD (k:=5) (g:=Ws) F (fq Hag 1) Cj λcdv A outer s H E B G0 hr=>
 have nm:=Hag
 by walk_at "d"
theorem Kai(An:Def P w K mg base "look_at_wishes" 6 1 Xm)(F:Fun K "copies_left" "copies_left" Sai f fd):FnOk P w K mg base CX0 7 f fd ["wishes", "dealing"] (spD K 2 Xk):=
 okD (k:=6) (g:=Wq) F (fq Hai 2) Cj λcdv A outer s H E B G0 hr=>
 have nm:=Hai
 by walk_at "d"
theorem Kal(Aj:Def P w K mg base "is_linked" 1 2 YG)(Ak:Def P w K mg base "is_taking" 3 3 YH)(Al:Def P w K mg base "copies_left" 7 2 Xk)(F:Fun K "is_way" "is_way" Sal f fd):FnOk P w K mg base CX0 8 f fd ["wishes", "dealing", "thing"] (spD K 3 YF):=
 okD (k:=7) (g:=Wn) F (fq Hal 3) Cj λcdv A outer s H E B G0 hr=>
 have nm:=Hal
 by walk_at "d"
theorem Kav(Ag:Def P w K mg base "_law_is_way" 2 3 YD)(Ai:Def P w K mg base "is_way" 8 3 YF)(F:Fun K "_law_right" "_law_right" Sav f fd):FnOk P w K mg base CX0 9 f fd ["_law_wishes_here", "_law_dealing", "_law_thing"] (spD K 3 ZR):=
 okD (k:=8) (g:=Wi) F (fq Hav 3) Cj λcdv A outer s H E B G0 hr=>
 have nm:=Hav
 by walk_at "d"
theorem Kam(F:Fun K "_law_cell_at" "_law_cell_at" Sam f fd):FnOk P w K mg base CX0 1 f fd ["_law_script", "_law_k"] (spD K 2 Zz):=
 okD (k:=0) (g:=Xc) F (fq Ham 2) Cj λcdv A outer s H E B G0 hr=>
 have nm:=Ham
 by walk_at "d"
theorem Kan(F:Fun K "_law_numbers" "_law_numbers" San f fd):FnOk P w K mg base CX0 1 f fd ["_law_cell", "_law_salt", "_law_sizes"] (spD K 3 KY):=
 okD (k:=0) (g:=Wm) F (fq Han 3) Cj λcdv A outer s H E B G0 hr=>
 have nm:=Han
 by walk_at "d"
theorem Kau(F:Fun K "_law_bent" "_law_bent" Sau f fd):FnOk P w K mg base CX0 1 f fd ["_law_way", "_law_dealing", "_law_number"] (spD K 3 Xj):=
 okD (k:=0) (g:=Wj) F (fq Hau 3) Cj λcdv A outer s H E B G0 hr=>
 have nm:=Hau
 by walk_at "d"
theorem D7(C8:Def P w K mg base "_law_wished" 1 2 Zy)(CK:Def P w K mg base "_law_numbers" 1 3 KY)(F:Fun K "_law_chain" "_law_chain" NX f fd):FnOk P w K mg base CX0 2 f fd ["_law_wishes_here", "_law_dealing", "_law_cell", "_law_salt"] (spO K 4 Wa):=
 okO (k:=1) (g:=RK) F (fq NT 4) Cj λcdv A outer s H E B G0 hr=>
 have nm:=NT
 by walk_at "d"
theorem D6(C8:Def P w K mg base "_law_wished" 1 2 Zy)(CK:Def P w K mg base "_law_numbers" 1 3 KY)(F:Fun K "_law_dealt" "_law_dealt" NV f fd):FnOk P w K mg base CX0 2 f fd ["_law_wishes_here", "_law_cell", "_law_salt"] (spO K 3 TW):=
 okO (k:=1) (g:=RJ) F (fq NS 3) Cj λcdv A outer s H E B G0 hr=>
 have nm:=NS
 by walk_at "d"
theorem Ch(CK:Def P w K mg base "_law_numbers" 1 3 KY)(CQ:Def P w K mg base "_law_cell_at" 1 2 Zz)(F:Fun K "_law_wishes" "_law_wishes" TU f fd):FnOk P w K mg base CX0 2 f fd ["_law_script", "_law_at", "_law_most_things", "_law_most_askers", "_law_most_ranks"] (spT K 5 (.tup [.lst .leaf,.lst (.lst .leaf)]) TX):=
 okT (k:=1) (g:=RO) F (fq UW 5) Cj λcdv A outer s H E B G0 hr=>
 have hu:=hr.units;have hgd:=hr.gd
 (VA (Td (i:=5) (nq UW) Cj (lq UW 5) (pdf CK hr (gq UW 2) (UK (pdf CQ hr (gq UW 3) (UK (UV (pq UW 0)) (UK (UV (pq UW 1)) Kq))) (UK (UV (pq UW 1)) (UK (KE ZC (Yr (UK (UV (pq UW 2)) (UK (UV (pq UW 3)) Kq))) (KE Xw (Yr (UK U0 Kq)) (UV (pq UW 2)))) Kq)))))
 (VA (Wc (j:=6) (Kj TU) TR ["_law_script", "_law_at", "_law_most_things", "_law_most_askers", "_law_most_ranks", "_law_digits", "_law_copies", "_law_lists", "_law_asker", "_law_cell", "_law_places", "_law_ranks", "_law_rank", "_law_row", "_law_digit"] 1 Tx (nq UW) Cj Cj Cj (Sm (TC (UV (pq UW 5)) (XN U0) (XN (KE ZC U0 (VF (pq UW 5) U0 (λ_ _=>rfl)))))) (λcl C s0 H0 ex=>⟨λB' G'=>(Yq (Yt (i:=14) (show(["_law_script", "_law_at", "_law_most_things", "_law_most_askers", "_law_most_ranks", "_law_digits", "_law_copies", "_law_lists", "_law_asker", "_law_cell", "_law_places", "_law_ranks", "_law_rank", "_law_row", "_law_digit"]:List Str).Nodup by decide +kernel) Cj (W1 Cj) (.inr (WQ Cj)))),λB' G'=>SI,(TH Cj Cj Cj λB' G'=>(Tf (Yr (UK U0 (UK U0 (UK U0 (UK U0 (UK U0 (UK U0 (UK U0 (UK U0 (UK U0 (UK U0 (UK U0 Kq)))))))))))) (UV (pvb 14)) (λ_ _=>rfl)))⟩) Cj Cj (by decide +kernel))
 (VA (PX (i:=7) (nq UW) Cj (lq UW 7) PV)
 (VA (Tc Ue Cj (RC (gq UW 0) T.b_range (UK (KE ZC U0 (VF (pq UW 5) U0 (λ_ _=>rfl))) Kq)) (Yq (Yt (i:=8) (nq UW) Cj (lq UW 8)))
 (ZU (Td (i:=9) (nq UW) Cj (lq UW 9) (pdf CQ hr (gq UW 3) (UK (UV (pq UW 0)) (UK (KE ZC (KE ZC (UV (pq UW 1)) U0) (UV (pq UW 8))) Kq))))
 (ZU (Td (i:=10) (nq UW) Cj (lq UW 10) (pdf CK hr (gq UW 2) (UK (UV (pq UW 9)) (UK (KE ZC (KE ZC (KE Xw U0 (UV (pq UW 1))) (KE Xw U0 (UV (pq UW 8)))) U0) (UK (KE ZC (KE Xw (Yr (UK (KE ZC (UV (pq UW 4)) U0) Kq)) (UV (pq UW 2))) (Yr (UK U0 Kq))) Kq)))))
 (ZU (Tp (i:=11) (nq UW) Cj (lq UW 11) (SL Kq))
 (ZU (Tc Ue Cj (O1 (gq UW 0) T.b_range (UK U0 (UK (KE ZC (UV (pq UW 4)) U0) Kq))) (Yq (Yt (i:=12) (nq UW) Cj (lq UW 12)))
 (ZU (Wc (j:=13) (Kj TU) TR ["_law_script", "_law_at", "_law_most_things", "_law_most_askers", "_law_most_ranks", "_law_digits", "_law_copies", "_law_lists", "_law_asker", "_law_cell", "_law_places", "_law_ranks", "_law_rank", "_law_row", "_law_thing"] 1 Tx (nq UW) Cj Cj Cj (RC (gq UW 0) T.b_range (UK (OW (gq UW 1) T.b_len (pq UW 6)) Kq)) (λcl C s0 H0 ex=>⟨λB' G'=>(Yq (Yt (i:=14) (show(["_law_script", "_law_at", "_law_most_things", "_law_most_askers", "_law_most_ranks", "_law_digits", "_law_copies", "_law_lists", "_law_asker", "_law_cell", "_law_places", "_law_ranks", "_law_rank", "_law_row", "_law_thing"]:List Str).Nodup by decide +kernel) Cj (W1 Cj) (.inr (WQ Cj)))),λB' G'=>(SG (Od (Xr hu) (VF (pvb 10) (UV (pvb 14)) (λ_ _=>rfl)) (UV (pvb 12)) (Ti _))),(TH Cj Cj Cj λB' G'=>(UV (pvb 14)))⟩) Cj Cj (by decide +kernel))
 (WS (R3 (PL (B_ne hu) (pq UW 13) (Yr Kq) (Ti _))
 (WS (Pe (pq UW 11) (Tf (Yr (UK (UV (pq UW 13)) (UK (PK (UV (pq UW 13)) Rm Rm (XN (SJ U0))) Kq))) (VF (pq UW 10) (SJ U0) (λ_ _=>rfl)) (λ_ _=>rfl))))
 Te))))
 (WS (GE (pq UW 7) (pq UW 11))))))))
 (R9 (On (p1:=.lst .leaf) (p2:=.lst (.lst .leaf)) (pq UW 6) (pq UW 7)))))))
theorem Kaw(Bk:Def P w K mg base "_law_right" 9 3 ZR)(CQ:Def P w K mg base "_law_cell_at" 1 2 Zz)(CK:Def P w K mg base "_law_numbers" 1 3 KY)(BQ:Def P w K mg base "_law_bent" 1 3 Xj)(CC:Xq P w K mg base "_law_chain" 2 4 Wa)(CG:Xq P w K mg base "_law_dealt" 2 3 TW)(CF:WC P w K mg base "_law_wishes" 2 5 (.tup [.lst .leaf,.lst (.lst .leaf)]) TX)(F:Fun K "law" "law" Saw f fd):FnOk P w K mg base CX0 10 f fd ["_law_script"] (spD K 1 Xi):=
 okD (k:=9) (g:=Wh) F (fq Haw 1) Cj λcdv A outer s H E B G0 hr=>
 have hu:=hr.units;have hgd:=hr.gd
 (ZU (PX (i:=1) (nq Haw) Cj (lq Haw 1) (Oq CF hr (gq Haw 7) (UK (UV (pq Haw 0)) (UK U0 (UK U0 (UK U0 (UK U0 Kq)))))))
 (ZU (Tp (i:=2) (nq Haw) Cj (lq Haw 2) (Ro λB' G'=>(TM CG hr (gq Haw 6) (UK (UV (pq Haw 1)) (UK (pdf CQ hr (gq Haw 1) (UK (UV (pq Haw 0)) (UK U0 Kq))) (UK U0 Kq))))))
 (ZU (Tc Ue Cj (SK (gq Haw 0) T.b_enumerate (UK (KE ZC (Yr (UK (pdf CQ hr (gq Haw 1) (UK (UV (pq Haw 0)) (UK U0 Kq))) Kq)) (TC (UV (pq Haw 0)) (XN U0) (XN U0))) Kq)) (Sw Cj (VE (Yq (Yt (i:=3) (nq Haw) Cj (lq Haw 3))) (VE (Yq (Yt (i:=4) (nq Haw) Cj (lq Haw 4))) Sx)))
 (ZU (Tp (i:=5) (nq Haw) Cj (lq Haw 5) (Ro λB' G'=>(TM CC hr (gq Haw 5) (UK (UV (pq Haw 1)) (UK (UV (pq Haw 2)) (UK (UV (pq Haw 4)) (UK (KE ZC U0 (UV (pq Haw 3))) Kq)))))))
 (GP (i:=6) Haw (λB' G'=>(pdf BQ hr (gq Haw 3) (UK (UV (pq Haw 5)) (UK (UV (pq Haw 2)) (UK (KE ZC (Tf (pdf CK hr (gq Haw 2) (UK (UV (pq Haw 4)) (UK (KE ZC U0 (UV (pq Haw 3))) (UK (Yr (UK (KE Xw (KE Xw U0 U0) U0) Kq)) Kq)))) U0 (λ_ _=>rfl)) (KE Xw U0 (UV (pq Haw 3)))) Kq))))) (λB' G'=>(PW.pt (Ph (Tr (Tq (pdf Bk hr (gq Haw 4) (UK (UV (pq Haw 1)) (UK (UV (pq Haw 2)) (UK (UV (pq Haw 5)) Kq)))))) (Ob (Tr (Tq (pdf Bk hr (gq Haw 4) (UK (UV (pq Haw 1)) (UK (UV (pq Haw 2)) (UK (UV (pq Haw 6)) Kq)))))))))) (WS (Sy Og)) Te
 Te)))
 (ZU (LZ (j:=7) (Kj Saw) Xh ["_law_script", "_law_wishes_here", "_law_dealing", "._law_k", "._law_cell", "_law_way", "_law_bent_here", "_law_ways", "_law_k", "_law_cell"] 2 (nq Haw) Cj Cj Cj (SK (gq Haw 0) T.b_enumerate (UK (TC (UV (pq Haw 0)) (XN U0) (XN U0)) Kq)) (λcl C s0 H0 ex=>⟨λB' G'=>(Sw Cj (VE (Yq (Yt (i:=8) (show(["_law_script", "_law_wishes_here", "_law_dealing", "._law_k", "._law_cell", "_law_way", "_law_bent_here", "_law_ways", "_law_k", "_law_cell"]:List Str).Nodup by decide +kernel) Cj (W1 Cj) (.inr (WQ Cj)))) (VE (Yq (Yt (i:=9) (show(["_law_script", "_law_wishes_here", "_law_dealing", "._law_k", "._law_cell", "_law_way", "_law_bent_here", "_law_ways", "_law_k", "_law_cell"]:List Str).Nodup by decide +kernel) Cj (W1 Cj) (.inr (WQ Cj)))) Sx))),λB' G'=>SI,λB' G'=>(TM CC hr (Sv Cj) (UK (UV (pvb 1)) (UK (UV (pvb 2)) (UK (UV (pvb 9)) (UK (KE ZC U0 (UV (pvb 8))) Kq)))))⟩) Cj Cj (by decide +kernel))
 (ZU (MJ (Sz (k:=0) (Sz (k:=1) (PU (pq Haw 1)))))
 (ZU (MI (n:=0) Tb (λ_=>.int _) (Sz (k:=0) (PU (pq Haw 1))))
 (ZU (PM Of (pq Haw 2) U0)
 (WS (Sy (Oo λB' G'=>(Oc (Xr hu) (PN (RZ (Kj Saw) Xh ["_law_script", "_law_wishes_here", "_law_dealing", "_law_k", "_law_cell", "._law_way", "_law_bent_here", "_law_ways", "_law_way"] 1 Tx Cj (Sm (UV (pq Haw 7))) (λcl C s0 H0 ex=>⟨λB' G'=>(Yq (Yt (i:=8) (show(["_law_script", "_law_wishes_here", "_law_dealing", "_law_k", "_law_cell", "._law_way", "_law_bent_here", "_law_ways", "_law_way"]:List Str).Nodup by decide +kernel) Cj (W1 Cj) (.inr (WQ Cj)))),λB' G'=>(SG (Tr (Tq (pdf Bk hr (Sv Cj) (UK (UV (pvb 1)) (UK (UV (pvb 2)) (UK (UV (pvb 8)) Kq))))))),(TH Cj Cj Cj λB' G'=>(UV (pvb 8)))⟩) Cj Cj (by decide +kernel))) (Yr Kq) (Ti _))))))))))))
end
theorem KN:recsOf q0=XU p0 ixL:=by show recsOf (PySem.W.view PySem.Challenge.pw_wishdeal_k27_ways_let_by Yn)=XU PySem.Challenge.pw_wishdeal_k27_ways_let_by ixL;rw[PySem.W.Fast.te3399658132070893891,PySem.W.Fast.te12962953880042215069];kernel_rfl
theorem ZE:(["all", "bool", "enumerate", "int", "isinstance", "len", "list", "max", "range", "repr", "set", "sorted", "str", "sum", "tuple"]:List Str).all (VP q0 (PySem.W.looseW q0 []))=Cm:=by show List.all _ (VP (PySem.W.view PySem.Challenge.pw_wishdeal_k27_ways_let_by Yn) (PySem.W.looseW (PySem.W.view PySem.Challenge.pw_wishdeal_k27_ways_let_by Yn) []))=Cm;k_qdec
theorem D5:valOf q0 "MOST_ASKERS" = Ci (.int 7):=by show valOf (PySem.W.view PySem.Challenge.pw_wishdeal_k27_ways_let_by Yn) _=_;rw[Jh,PySem.W.Fast.te12962953880042215069];kernel_rfl
theorem D4:valOf q0 "MOST_COPIES" = Ci (.int 7):=by show valOf (PySem.W.view PySem.Challenge.pw_wishdeal_k27_ways_let_by Yn) _=_;rw[Jh,PySem.W.Fast.te12962953880042215069];kernel_rfl
theorem DV:valOf q0 "MOST_RANKS" = Ci (.int 5):=by show valOf (PySem.W.view PySem.Challenge.pw_wishdeal_k27_ways_let_by Yn) _=_;rw[Jh,PySem.W.Fast.te12962953880042215069];kernel_rfl
theorem D3:valOf q0 "MOST_THINGS" = Ci (.int 6):=by show valOf (PySem.W.view PySem.Challenge.pw_wishdeal_k27_ways_let_by Yn) _=_;rw[Jh,PySem.W.Fast.te12962953880042215069];kernel_rfl
theorem MB{l:PySem.W.OpenLaw}{w:World}{s0:JT}{mg mb:Str->Cw}{fa:JV}{h:Heap}{XP:(Str->Cw)->Heap->Prop}(G:PySem.W.Ground q0 [] [] XP w s0 mg mb h)(hfa:mg "law" = Ci (.ref fa)) :
  ∃fd:JW,(∀(s:JT)(v:JS),BindsTo s fd ⟨[v],[]⟩ [("_law_script", v)])/\∀base:Heap,FnOk l.prog w (whole h) mg base CX0 10 fa fd ["_law_script"] (spD (whole h) 1 Xi):=by
 have T:Txt (whole h) mg:=⟨ZH G.T ZE (mq 0 Cj),ZH G.T ZE (mq 1 Cj),ZH G.T ZE (mq 2 Cj),ZH G.T ZE (mq 3 Cj),ZH G.T ZE (mq 4 Cj),ZH G.T ZE (mq 5 Cj),ZH G.T ZE (mq 6 Cj),ZH G.T ZE (mq 7 Cj),ZH G.T ZE (mq 8 Cj),ZH G.T ZE (mq 9 Cj),ZH G.T ZE (mq 10 Cj),ZH G.T ZE (mq 11 Cj),ZH G.T ZE (mq 12 Cj),ZH G.T ZE (mq 13 Cj),ZH G.T ZE (mq 14 Cj),TN G.T D5,TN G.T D4,TN G.T DV,TN G.T D3,MM (G.T.seer (by decide +kernel))⟩
 refine N6 G.T KN 34 "law" rfl Cj hfa (λ_ _ _ _ _ _ _=>rfl) λbase=>?_
 have C8:=Zd l.prog w base G.T KN 27 "_law_wished" rfl Cj (λF=>Kap T  F) λ_ _ _ _ _ _ us hl=>bz2 (us:=us) hl λ_ _=>rfl
 have Ah:=Zd l.prog w base G.T KN 30 "_law_whole_number" rfl Cj (λF=>Kas T  F) λ_ _ _ _ _ _ us hl=>bz1 (us:=us) hl λ_=>rfl
 have Ag:=Zd l.prog w base G.T KN 31 "_law_is_way" rfl Cj (λF=>Kat T C8 Ah F) λ_ _ _ _ _ _ us hl=>bz3 (us:=us) hl λ_ _ _=>rfl
 have Aj:=Zd l.prog w base G.T KN 21 "is_linked" rfl Cj (λF=>Kak T  F) λ_ _ _ _ _ _ us hl=>bz2 (us:=us) hl λ_ _=>rfl
 have Br:=Zd l.prog w base G.T KN 1 "is_whole" rfl Cj (λF=>Kaa T  F) λ_ _ _ _ _ _ us hl=>bz1 (us:=us) hl λ_=>rfl
 have Am:=Zd l.prog w base G.T KN 16 "rank_in" rfl Cj (λF=>Kah T  F) λ_ _ _ _ _ _ us hl=>bz2 (us:=us) hl λ_ _=>rfl
 have C9:=Zd l.prog w base G.T KN 2 "is_number_below" rfl Cj (λF=>Kab T Br F) λ_ _ _ _ _ _ us hl=>bz2 (us:=us) hl λ_ _=>rfl
 have Ak:=Zd l.prog w base G.T KN 20 "is_taking" rfl Cj (λF=>Kaj T Br Am C9 F) λ_ _ _ _ _ _ us hl=>bz3 (us:=us) hl λ_ _ _=>rfl
 have Aq:=Zd l.prog w base G.T KN 12 "is_rank" rfl Cj (λF=>Kad T C9 F) λ_ _ _ _ _ _ us hl=>bz2 (us:=us) hl λ_ _=>rfl
 have Ap:=Zd l.prog w base G.T KN 13 "is_asker_list" rfl Cj (λF=>Kae T Aq F) λ_ _ _ _ _ _ us hl=>bz2 (us:=us) hl λ_ _=>rfl
 have Ao:=Zd l.prog w base G.T KN 14 "look_at_lists" rfl Cj (λF=>Kaf T Ap F) λ_ _ _ _ _ _ us hl=>bz2 (us:=us) hl λ_ _=>rfl
 have Ar:=Zd l.prog w base G.T KN 11 "look_at_copies" rfl Cj (λF=>Kac T C9 F) λ_ _ _ _ _ _ us hl=>bz1 (us:=us) hl λ_=>rfl
 have An:=Zd l.prog w base G.T KN 15 "look_at_wishes" rfl Cj (λF=>Kag T Ao Ar F) λ_ _ _ _ _ _ us hl=>bz1 (us:=us) hl λ_=>rfl
 have Al:=Zd l.prog w base G.T KN 18 "copies_left" rfl Cj (λF=>Kai T An F) λ_ _ _ _ _ _ us hl=>bz2 (us:=us) hl λ_ _=>rfl
 have Ai:=Zd l.prog w base G.T KN 22 "is_way" rfl Cj (λF=>Kal T Aj Ak Al F) λ_ _ _ _ _ _ us hl=>bz3 (us:=us) hl λ_ _ _=>rfl
 have Bk:=Zd l.prog w base G.T KN 33 "_law_right" rfl Cj (λF=>Kav T Ag Ai F) λ_ _ _ _ _ _ us hl=>bz3 (us:=us) hl λ_ _ _=>rfl
 have CQ:=Zd l.prog w base G.T KN 24 "_law_cell_at" rfl Cj (λF=>Kam T  F) λ_ _ _ _ _ _ us hl=>bz2 (us:=us) hl λ_ _=>rfl
 have CK:=Zd l.prog w base G.T KN 25 "_law_numbers" rfl Cj (λF=>Kan T  F) λ_ _ _ _ _ _ us hl=>bz3 (us:=us) hl λ_ _ _=>rfl
 have BQ:=Zd l.prog w base G.T KN 32 "_law_bent" rfl Cj (λF=>Kau T  F) λ_ _ _ _ _ _ us hl=>bz3 (us:=us) hl λ_ _ _=>rfl
 have CC:=Pa l.prog w base G.T KN 29 "_law_chain" rfl Cj (λF=>D7 T C8 CK F) λ_ _ _ _ _ _ us hl=>bz4 (us:=us) hl λ_ _ _ _=>rfl
 have CG:=Pa l.prog w base G.T KN 28 "_law_dealt" rfl Cj (λF=>D6 T C8 CK F) λ_ _ _ _ _ _ us hl=>bz3 (us:=us) hl λ_ _ _=>rfl
 have CF:=MG l.prog w base G.T KN 26 "_law_wishes" rfl Cj (λF=>Ch T CK CQ F) λ_ _ _ _ _ _ us hl=>bz5 (us:=us) hl λ_ _ _ _ _=>rfl
 exact λ{_ _} F=>Kaw T Bk CQ CK BQ CC CG CF F
abbrev d_aw:DefRec:=⟨"law", XG Saw,Yk Saw,Kj Saw,N7 Saw⟩
theorem walk{YP:World->Heap->Prop}{XP:(Str->Cw)->Heap->Prop}(hlaw:∀ns:Cp,ns.length<=63->Xi [.list (ns.map int)]=Ci (.bool Cm)):PySem.W.WalkO q0 [] XP YP (PySem.Challenge.rw_wishdeal_k27_ways_let_by).row.toRowW d_aw [] (λf vs=>PySem.call f vs):=
 GZ (n:=63) (k:=10) (x:= "_law_script") Cj (by decide) Cj ⟨rfl,by decide,by decide,rfl⟩ (λ_ _ _ _ _ _ G hm=>MB G hm) hlaw
theorem T4{f:M D}{Z Z1:Ul}{d:D}{t:Bool}(h:f Z=.ok d Z1)(ht:(!isNon d)=t):UA (λd=>!isNon d) f Z=.ok t Z1:=by subst ht;exact Kw (k:=λd=>!isNon d) h
theorem Ny{sizes found:Cp}{z d:Int}(h:∀(j:Nat) d z,found[j]?=Ci d->sizes[j]?=Ci z->0<=d/\d<z)(hz:sizes[found.length]?=Ci z)(h0:0<=d/\d<z) :
  ∀(j:Nat) d' z',(found++[d])[j]?=Ci d'->sizes[j]?=Ci z'->0<=d'/\d'<z':=by
 intro j d' z' e1 e2;by_cases hj:j<found.length
 .rw[Qr hj]at e1
  exact h j d' z' e1 e2
 .by_cases hj2:j=found.length
  .subst hj2
   rw[hz]at e2;cases e2;rw[Qt (Qn _),Nat.sub_self,List.getElem?_cons_zero]at e1;cases e1;exact h0
  .rw[Jn (by rw[Qj,QN];omega)]at e1
   cases e1
abbrev pb(d:D):Option Sl:=Ci (.pub d)
def inv(c s:Int)(sizes:Cp)(n:Int)(i:Nat)(Z:Ul):Prop:=∃left found x6 x7,Z=[Ci (Sl.pub (.int c)),pb (.int s),pb (.list (sizes.map .int)),pb (.int n),pb (.int left),Ci (.own ((found:Cp).map .int)),x6,x7] /\
 found.length=i/\∀(j:Nat) d z,found[j]?=Ci d->sizes[j]?=Ci z->0<=d/\d<z
theorem FA{c s n:Int}{sizes:Cp}(hs:∀x∈sizes,0<x/\x<18446744073709551616)(hl:sizes.length<=1000){i:Nat}{d:D}{Z:Ul}{Q:Out->Prop}(hi:(K0 0 sizes.length)[i]?=Ci d)(h:inv c s sizes n i Z) :
  ∃Z2,gN 6 d Z=Ci Z2/\Ho Rb Z2 (XQ (inv c s sizes n (i+1)) Q):=by
 obtain⟨left,found,x6,x7,rfl,hf,hfd⟩:=h;obtain⟨rfl,hlt⟩:=XH hi;obtain⟨z,hz⟩:∃z,sizes[i]?=Ci z:=⟨sizes[i]'(by omega),Qe _⟩
 obtain⟨z1,z2⟩:=hs z (QH hz);have hix:oIx (.list (sizes.map int)) (.int (0+(i:Int)))=Ci (.int z):=by rw[JP];exact Kh (by rw[Qg,hz];rfl)
 generalize hk:(0:Int)+(i:Int)=k at hix⊢;have B7:k<18446744073709551616:=by omega
 have hk2 : -18446744073709551616<k:=by omega
 have hlen:(found.map int).length<1000000:=by rw[Qd];omega
 have pw:Yz (.int 10) (.int 18)=Ci (.int 1000000000000000000):=by rw[Gj (by decide)];rfl
 refine⟨_,UG (Qa Cj) Cj,?_⟩;unfold Rb;apply U5
 case h1=>exact V5 (Zb Cj (UB Uu Uu pw) Cj) λ_=>Zb Cj Uu Cj
 case h2=>intro _;refine UO (XX Cj (UB (Ur Cj) (U1 Cj (Ur Cj) hix) (ZD (by omega))) Cj hlen Cj) ?_;refine YV (KF (UB (Ur Cj) (U1 Cj (Ur Cj) hix) (Tl (by omega) (by omega))) (Qa Cj) Cj) (ZI ?_);exact⟨_,found++[left % z],_,_,by rw[Q4];rfl,by rw[Qj,hf];rfl,Ny hfd (by rw[hf];exact hz) ⟨Jf _ (by omega),Ja _ z1⟩⟩
 case h3=>intro _;refine UO (KF (UB (UB (UB (UB (Ur Cj) (UB Uu (Ur Cj) (YT (by decide) (by decide))) K2) (UB (UB Uu (Ur Cj) (YT (by decide) (by decide))) (Ur Cj) (Tv hk2 B7)) K2) (Ur Cj) K2) Uu (ZD (by decide))) (Qa Cj) Cj) ?_;refine UO (KF (UB (UB (Ur Cj) Uu (Tv (by decide) (by decide))) Uu (ZD (by decide))) (Qa Cj) Cj) ?_;refine UO (KF (UB (UB (UB (UB (Ur Cj) (Ur Cj) (Tv (by omega) (by omega))) Uu (ZD (by decide))) Uu (Tv (by decide) (by decide))) Uu (ZD (by decide))) (Qa Cj) Cj) ?_;refine YV (XX Cj (UB (UB (Ur Cj) Uu (Tl (by decide) (by decide))) (U1 Cj (Ur Cj) hix) (ZD (by omega))) Cj hlen Cj) (ZI ?_);exact⟨_,found++[_ % z],_,_,by rw[Q4];rfl,by rw[Qj,hf];rfl,Ny hfd (by rw[hf];exact hz) ⟨Jf _ (by omega),Ja _ z1⟩⟩
theorem VN(c s:Int){sizes:Cp}(hs:∀x∈sizes,0<x/\x<18446744073709551616)(hl:sizes.length<=1000) :
  ∃r,KY [.int c,.int s,.list (sizes.map int)]=Ci r/\∃ds:Cp,r=.list (ds.map .int)/\ds.length=sizes.length/\∀(j:Nat) d z,ds[j]?=Ci d->sizes[j]?=Ci z->0<=d/\d<z:=by
 refine WW (Z:=[pb (.int c),pb (.int s),pb (.list (sizes.map int)),Ck,Ck,Ck,Ck,Ck]) Cj ?_;unfold Wm;refine UO (KF (ZJ (Us (Ur Cj) (Us (UB (XA Uu) (Ur Cj) WY) Uy)) Gi) (Qa Cj) Cj) ?_;refine UO (KF (Ur Cj) (Qa Cj) Cj) ?_;refine UO (Zr (X6 Uy (Qa Cj)) (Qa Cj) Cj) ?_;apply Kl;apply Ye (ds:=K0 0 sizes.length) (inv c s sizes (if -1-c > c then -1-c else c))
 case h1=>exact WZ (Us (Km Cj (by rw[Zc,Qd])) Uy) (W5 (by omega) (by omega))
 case h0=>exact⟨_,[],Ck,Ck,rfl,rfl,λj d z e=>by cases e⟩
 case hst=>exact λi d Z e h=>FA hs hl e h
 case hend=>rintro Z ⟨left,found,x6,x7,rfl,hf,hfd⟩;rw[Yv]at hf;exact Kp (UX (VD rfl rfl) ⟨_,rfl,found,rfl,by omega,hfd⟩)
mutual
theorem OQ:∀(d:PyData),d.canLay0=Cm->Ud d d=Cm
 |.none,_=>rfl
 |.bool b,_=>by cases b<;>rfl
 |.int i,_=>by simp[Ud]
 |.str s,_=>by simp[Ud]
 |.list xs,h=>eqvAll_refl xs h
 |.tuple xs,h=>eqvAll_refl xs h
 |.dict _,h=>by cases h
theorem eqvAll_refl:∀(xs:List PyData),Ub xs=Cm->PyData.eqvAll xs xs=Cm
 |[],_=>rfl
 |x::r,h=>by
  have h:(PyData.canLay0 x&&Ub r)=Cm:=h;rw[Qw]at h
  show(Ud x x&&PyData.eqvAll r r)=Cm
  rw[OQ x h.1,eqvAll_refl r h.2];rfl
end
theorem TL:∀{xs:Co},(∀x∈xs,PyData.canLay0 x=Cm)->Ub xs=Cm
 |[],_=>rfl
 |x::r,h=>by
  show(PyData.canLay0 x&&Ub r)=Cm
  rw[h x Ql,TL λy hy=>h y (Qo _ hy)];rfl
theorem TB{n:Nat}:∀{xs:Co},(∀x∈xs,Uc x<=n)->PyData.depthAll xs<=n
 |[],_=>by simp[PyData.depthAll]
 |x::r,h=>by have h1:=h x Ql;have h2:=TB (n:=n) λy hy=>h y (Qo _ hy);simp only[PyData.depthAll];omega
def Kx(r:Cp):D:=.list (r.map int)
def Ka(rs:List Cp):D:=.list (rs.map Kx)
def Kc(cs:Cp)(ls:L3):D:=.tuple [.list (cs.map int),.list (ls.map Ka)]
structure VG(n:Nat)(rs:List Cp):Prop where
 few:rs.length<=5
 some:∀r∈rs,r≠[]
 there:∀r∈rs,∀t∈r,0<=t/\t<n
 once:rs.flatten.Nodup
structure Good(cs:Cp)(ls:L3):Prop where
 c1:1<=cs.length
 c6:cs.length<=6
 c7:∀c∈cs,0<=c/\c<8
 l1:1<=ls.length
 l7:ls.length<=7
 rk:∀rs∈ls,VG cs.length rs
theorem OP(r:Cp):(Kx r).canLay0=Cm:=TL λx hx=>by obtain⟨y,_,rfl⟩:=QB.mp hx;rfl
theorem LY(i:Int):(int i).depth<=1:=by simp[Uc]
theorem Ra{n:Nat}{xs:Co}(h:PyData.depthAll xs<=n):(J7 xs).depth<=n+1:=by simp only[Uc];omega
theorem OO(r:Cp):(Kx r).depth<=2:=Ra (TB λx hx=>by obtain⟨y,_,rfl⟩:=QB.mp hx;exact LY y)
theorem Fz(i:Int):ZS [.int i]=Ci (.bool Cm):=by refine ZL (Z:=[pb (.int i)]) Cj ?_;unfold Wx;exact UX (XB (Kw (Ur Cj)) (λ_=>Gk (Kw (Ur Cj)))) Cj
theorem Na{i m:Int}(h0:0<=i)(h1:i<m):K6 [.int i,.int m]=Ci (.bool Cm):=by
 refine ZL (Z:=[pb (.int i),pb (.int m)]) Cj ?_;unfold Xd;have hb:(decide (0<=i)&&decide (i<m))=Cm:=by simp[h0,h1]
 refine UX (XB (t:=Cm) (u:=Cm) (Kf (Us (Ur Cj) Uy) Cj (Fz i)) (λ_=>?_)) Cj;rw[←hb];exact Kw (Tw Uu (Ur Cj) Cj (λ_=>Ur Cj) (λ_=>rfl))
theorem O9{α:Type}(l:List α):Zi [.list (l.map λ_=>.bool Cm)]=Ci (.bool Cm):=by
 have:(l.map λ_=>J8 Cm)=(l.map λ_=>Cm).map J8:=by rw[Jc];rfl
 rw[this,P0]
 congr 2
 rw[JK];induction l with
 |nil=>rfl
 |cons x r ih=>simpa using ih
theorem EI{r:Cp}{n:Int}(hne:r≠[])(hl:r.length<=1000)(h:∀t∈r,0<=t/\t<n):YI [Kx r,.int n]=Ci (.bool Cm):=by
 refine ZL (Z:=[pb (Kx r),pb (.int n)]) Cj ?_;unfold Wv;apply Kl;have hlen:UU [Kx r]=Ci (.int r.length):=by unfold Kx;rw[Zc,Qd]
 have hp:0<r.length:=List.length_pos_iff.mpr hne;apply U5
 case h1=>exact KL (Z1:=[pb (Kx r),pb (.int n)]) (K3 (Ur Cj) Cj) (UB (Km Cj hlen) Uu Tk)
 case h2=>
       intro hh;have:(r.length:Int)=0:=by simpa using hh
       omega
 case h3=>
  intro _;refine Kt (Kp ?_)
  have hc:Ke (gN 2) (Uq Cm) (UF 2 K6 (Up (Uk 2) (Up (Uk 1) (Um)))) (r.map int) (UL [pb (Kx r),pb (.int n)]++J6 1 Ck) []=Ci (r.map λ_=>.bool Cm):=by
   rw[Y4 (λ_=>Cm) (λ_=>.bool Cm) (λZ=>∃x,Z=[pb (Kx r),pb (.int n),x])]
   .rw[List.filter_eq_self.mpr (λ_ _=>rfl),Jk,Jc];rfl
   .rintro d hm Z ⟨x,rfl⟩
    obtain⟨t,ht,rfl⟩:=QB.mp hm;exact⟨_,UG (Qa Cj) Cj,rfl,λ_=>Kf (Us (Ur Cj) (Us (Ur Cj) Uy)) Cj (Na (h t ht).1 (h t ht).2),_,rfl⟩
   .exact⟨Ck,rfl⟩
   .rw[Qd,Q0];omega
  exact UX (ZJ (Us (Kw (Yp (ZX (Ur Cj) Cj) hc)) Uy) (O9 r)) Cj
theorem O8{a b c x3:Option Sl}(ha:YL a=a)(hb:YL b=b)(hc:YL c=c)(hx:YL x3=x3):∀(ds es:Co)(x4:Option Sl),es.length+ds.length<=1000000 ->
  ∃y,Y2 (gN 4) (Uq Cm) (Uk 4) ds [a,b,c,x3,x4] es=Ci (es++ds,[a,b,c,x3,y])
 |[],es,x4,_=>⟨x4,by rw[Y2,QY]⟩
 |d::r,es,x4,h=>by
  rw[QI]at h;obtain⟨y,e⟩:=O8 ha hb hc hx r (es++[d]) (Ci (.pub d)) (by rw[Qj,QN];omega);refine⟨y,?_⟩;rw[Y2];have h1:gN 4 d [a,b,c,x3,x4]=Ci [a,b,c,x3,pb d]:=UG (Qa Cj) Cj;rw[h1];dsimp only[Uq];rw[Qs Cj];have h2:Uk 4 [a,b,c,x3,pb d]=.ok d [a,b,c,x3,pb d]:=Ur Cj;rw[h2];dsimp only;rw[Qs (by omega)];have h3:UL [a,b,c,x3,pb d]=[a,b,c,x3,pb d]:=by unfold UL;simp only[QG,List.map_nil,ha,hb,hc,hx];rfl
  rw[h3,e,Jx];rfl
theorem NO{a b:D}:∀(rs:List Cp)(es:Co)(x3 x4:Option Sl),es.length+rs.flatten.length<=1000000 ->
  Yo (gN 3) (Uq Cm) (KZ (Uk 3)) (gN 4) (Uq Cm) (Uk 4) (rs.map Kx) [pb a,pb b,Ck,x3,x4] es=Ci (es++rs.flatten.map int)
 |[],es,_,_,_=>by rw[List.map_nil,Yo];simp
 |r::rs,es,x3,x4,h=>by rw[QO,Qj]at h;rw[QG,Yo];have h1:gN 3 (Kx r) [pb a,pb b,Ck,x3,x4]=Ci [pb a,pb b,Ck,pb (Kx r),x4]:=UG (Qa Cj) Cj;rw[h1];dsimp only[Uq];rw[Qs Cj];have h2:KZ (Uk 3) [pb a,pb b,Ck,pb (Kx r),x4]=.ok (r.map int) [pb a,pb b,Ck,pb (Kx r),x4]:=ZX (Ur Cj) Cj;rw[h2];dsimp only;have h3:UL [pb a,pb b,Ck,pb (Kx r),x4]=[pb a,pb b,Ck,pb (Kx r),YL x4]:=rfl;rw[h3];obtain⟨y,e⟩:=O8 (a:=Ci (.pub a)) (b:=Ci (.pub b)) (c:=Ck) (x3:=Ci (.pub (Kx r))) Cj Cj Cj Cj (r.map int) es (YL x4) (by rw[Qd];omega);rw[e];dsimp only;have ih:=NO (a:=a) (b:=b) rs (es++r.map int) (Ci (.pub (Kx r))) y (by rw[Qj,Qd];omega);refine Eq.trans ih ?_;rw[QO,Q4,Jx]
theorem Nx{ns:Cp}(h:ns.Nodup):KP ns=ns.length:=by
 unfold KP
 have:∀i,i<=ns.length->(PyProof.Rows.firstMet (λi=>ns.getD i 0) i).length=i:=by
  intro i;induction i with
  |zero=>intro _;rfl
  |succ i ih=>
   intro hi;rw[PyProof.Rows.firstMet_succ]
   have hany:(PyProof.Rows.firstMet (λi=>ns.getD i 0) i).any (· == ns.getD i 0)=Cn:=by
    rw[PyProof.Rows.firstMet_any,List.any_eq_false];intro x hx;obtain⟨j,hj,rfl⟩:=QB.mp hx;have hj:=Je.mp hj;intro e;have e:ns.getD j 0=ns.getD i 0:=by simpa using e
    have l1:j<ns.length:=by omega
    have l2:i<ns.length:=by omega
    simp only[List.getD,Qe l1,Qe l2,JD]at e;exact absurd ((List.getElem_inj h).mp e) (by omega)
   unfold PyProof.Rows.step_dedup;rw[hany];rw[QM (by decide),Qj,ih (by omega)];rfl
 exact this ns.length (Qn _)
theorem DK{rs:List Cp}{n:Nat}(g:VG n rs)(hn:n<=6)(hf:rs.flatten.length<=1000):Xo [Ka rs,.int n]=Ci (.bool Cm):=by
 refine ZL (Z:=[pb (Ka rs),pb (.int n),Ck]) Cj ?_;unfold Wu;have hlen:UU [Ka rs]=Ci (.int rs.length):=by unfold Ka;rw[Zc,Qd]
 have h5:=g.few;have hrl:∀r∈rs,r.length<=1000:=λr hr=>QJ (List.Sublist.length_le (List.sublist_flatten_of_mem hr)) hf;apply Kl;apply U5
 case h1=>exact KL (Z1:=[pb (Ka rs),pb (.int n),Ck]) (K3 (Ur Cj) Cj) (UB (Km Cj hlen) Uu Cj)
 case h2=>
       intro hh;have:(5:Int)<(rs.length:Int):=by simpa using hh
       omega
 case h3=>
  intro _;refine Kt (Kp ?_)
  have hc:Ke (gN 3) (Uq Cm) (UF 2 YI (Up (Uk 3) (Up (Uk 1) (Um)))) (rs.map Kx) (UL [pb (Ka rs),pb (.int n),Ck]++J6 1 Ck) []=Ci (rs.map λ_=>.bool Cm):=by
   rw[Y4 (λ_=>Cm) (λ_=>.bool Cm) (λZ=>∃x,Z=[pb (Ka rs),pb (.int n),Ck,x])]
   .rw[List.filter_eq_self.mpr (λ_ _=>rfl),Jk,Jc];rfl
   .rintro d hm Z ⟨x,rfl⟩
    obtain⟨r,hr,rfl⟩:=QB.mp hm;exact⟨_,UG (Qa Cj) Cj,rfl,λ_=>Kf (Us (Ur Cj) (Us (Ur Cj) Uy)) Cj (EI (g.some r hr) (hrl r hr) (g.there r hr)),_,rfl⟩
   .exact⟨Ck,rfl⟩
   .rw[Qd,Q0];omega
  apply Kl;apply U5
  case h1=>exact ZW (Yi (ZJ (Us (Kw (Yp (ZX (Ur Cj) Cj) hc)) Uy) (O9 rs)))
  case h2=>intro hh;cases hh
  case h3=>
   intro _;refine Kt (Kp ?_);have h2:Vm (KZ (Uk 0)) 2 (gN 3) (Uq Cm) (KZ (Uk 3)) (gN 4) (Uq Cm) (Uk 4) [pb (Ka rs),pb (.int n),Ck]=.ok (rs.flatten.map int) [pb (Ka rs),pb (.int n),Ck]:=by unfold Vm;have e1:KZ (Uk 0) [pb (Ka rs),pb (.int n),Ck]=.ok (rs.map Kx) [pb (Ka rs),pb (.int n),Ck]:=ZX (Ur Cj) Cj;rw[e1];dsimp only;have e2:=NO (a:=Ka rs) (b:=.int n) rs [] Ck Ck (by rw[Q0];omega);have e3:Yo (gN 3) (Uq Cm) (KZ (Uk 3)) (gN 4) (Uq Cm) (Uk 4) (rs.map Kx) (UL [pb (Ka rs),pb (.int n),Ck]++J6 2 Ck) []=Ci ([]++rs.flatten.map int):=e2;rw[e3];rfl
   refine UO (Zr h2 (Qa Cj) Cj) ?_;have hls:W0 [.list (rs.flatten.map int)]=Ci (.int rs.flatten.length):=by unfold W0;dsimp only;rw[Np];dsimp only;rw[Qs (by omega),Nx g.once]
   refine UX (Kw (UB (ZJ (Us (VD Cj Cj) Uy) hls) (Km Cj Zc) Tk)) ?_;rw[Qd];simp
theorem X3{d:D}:∀{xs:Co}{k i:Nat},(Zl k xs)[i]?=Ci d->∃x,xs[i]?=Ci x/\d=.tuple [.int ((k+i:Nat):Int),x]
 |[],k,i,h=>by cases h
 |x::r,k,0,h=>by cases h;exact⟨x,rfl,rfl⟩
 |x::r,k,i+1,h=>by obtain⟨y,e,q⟩:=X3 (xs:=r) (k:=k+1) (i:=i) h;exact⟨y,e,by rw[q];congr 4;omega⟩
theorem Rh:∀(n:Nat)(l:Cp),l.Nodup->(∀x∈l,0<=x/\x<n)->l.length<=n
 |0,[],_,_=>Qn _
 |0,x::r,_,h=>by have:=h x Ql;omega
 |n+1,l,hn,h=>by
  by_cases hm:(n:Int)∈l
  .have:=Rh n (l.erase (n:Int)) (hn.erase _) λx hx=>by
    have h1:=(List.Nodup.mem_erase_iff hn).mp hx;have h2:=h x h1.2;have h3:=h1.1;omega
   rw[List.length_erase_of_mem hm]at this;omega
  .have:=Rh n l hn λx hx=>by
    have h2:=h x hx;have h3:x≠(n:Int):=λe=>hm (e ▸ hx);omega
   omega
theorem Vz{n:Nat}{rs:List Cp}(g:VG n rs):rs.flatten.length<=n:=Rh n _ g.once λx hx=>by obtain⟨r,hr,hxr⟩:=Jo.mp hx;exact g.there r hr x hxr
theorem Fy{cs:Cp}(h1:1<=cs.length)(h6:cs.length<=6)(h:∀c∈cs,0<=c/\c<8):Xp [.list (cs.map int)]=Ci .none:=by
 refine So (Z:=[pb (.list (cs.map int)),Ck,Ck]) Cj ?_;unfold Ww;have hlen:UU [.list (cs.map int)]=Ci (.int cs.length):=by rw[Zc,Qd]
 apply Kl;apply U5
 case h1=>exact KL (Z1:=[pb (.list (cs.map int)),Ck,Ck]) (K3 (Ur Cj) Cj) (ZW (Tw Uu (Km Cj hlen) Cj (λ_=>Uu) (λ_=>rfl)))
 case h2=>
  intro hh;have a1:(1:Int)<=(cs.length:Int):=by omega
  have a2:(cs.length:Int)<=6:=by omega
  simp[a1,a2]at hh
 case h3=>
  intro _;refine Kt (Kp ?_);apply Ye (λ_ Z=>∃x1 x2,Z=[pb (.list (cs.map int)),x1,x2])
  case h1=>exact VC (Us (Ur Cj) Uy) VI
  case h0=>exact⟨_,_,rfl⟩
  case hst=>
   rintro i d Z hi ⟨x1,x2,rfl⟩;obtain⟨x,hx,rfl⟩:=X3 hi;obtain⟨c,hc,rfl⟩:=QB.mp (QH hx);refine⟨_,KQ Cj (U6 (UG (Qa Cj) Cj) (U6 (UG (Qa Cj) Cj) KR)),?_⟩;unfold PH;apply U5
   case h1=>exact ZW (Yi (Kf (Us (Ur Cj) (Us (UB Uu Uu K2) Uy)) Cj (Na (h c hc).1 (by have:=(h c hc).2;omega))))
   case h2=>intro hh;cases hh
   case h3=>exact λ_=>Kt (ZI ⟨_,_,rfl⟩)
  case hend=>exact λZ ⟨x1,x2,e⟩=>⟨_,rfl⟩
theorem GN{ls:L3}{n:Nat}(hn:n<=6)(h1:1<=ls.length)(h7:ls.length<=7)(h:∀rs∈ls,VG n rs):Xn [.list (ls.map Ka),.int n]=Ci .none:=by
 refine So (Z:=[pb (.list (ls.map Ka)),pb (.int n),Ck,Ck]) Cj ?_;unfold Wt;have hlen:UU [.list (ls.map Ka)]=Ci (.int ls.length):=by rw[Zc,Qd]
 apply Kl;apply U5
 case h1=>exact KL (Z1:=[pb (.list (ls.map Ka)),pb (.int n),Ck,Ck]) (K3 (Ur Cj) Cj) (ZW (Tw Uu (Km Cj hlen) Cj (λ_=>Uu) (λ_=>rfl)))
 case h2=>
  intro hh;have a1:(1:Int)<=(ls.length:Int):=by omega
  have a2:(ls.length:Int)<=7:=by omega
  simp[a1,a2]at hh
 case h3=>
  intro _;refine Kt (Kp ?_);apply Ye (λ_ Z=>∃x2 x3,Z=[pb (.list (ls.map Ka)),pb (.int n),x2,x3])
  case h1=>exact VC (Us (Ur Cj) Uy) VI
  case h0=>exact⟨_,_,rfl⟩
  case hst=>
   rintro i d Z hi ⟨x1,x2,rfl⟩;obtain⟨x,hx,rfl⟩:=X3 hi;obtain⟨rs,hrs,rfl⟩:=QB.mp (QH hx);refine⟨_,KQ Cj (U6 (UG (Qa Cj) Cj) (U6 (UG (Qa Cj) Cj) KR)),?_⟩;unfold P4;have hfl:=Vz (h rs hrs);apply U5
   case h1=>exact ZW (Yi (Kf (Us (Ur Cj) (Us (Ur Cj) Uy)) Cj (DK (h rs hrs) hn (by omega))))
   case h2=>intro hh;cases hh
   case h3=>exact λ_=>Kt (ZI ⟨_,_,rfl⟩)
  case hend=>exact λZ ⟨x1,x2,e⟩=>⟨_,rfl⟩
theorem Fx{cs:Cp}{ls:L3}(g:Good cs ls):Xm [Kc cs ls]=Ci .none:=by
 refine So (Z:=[pb (Kc cs ls),Ck,Ck]) Cj ?_;unfold Ws;apply Kl;apply U5
 case h1=>exact KL (Z1:=[pb (Kc cs ls),Ck,Ck]) (K3 (Ur Cj) Cj) (UB (Km Cj Cj) Uu YU)
 case h2=>intro hh;cases hh
 case h3=>
  intro _;refine Kt (Kp ?_);have hlen:UU [.list (cs.map int)]=Ci (.int (cs.length:Nat)):=by rw[Zc,Qd]
  refine UO (V4 (Ur Cj) (KQ Cj (U6 (UG (Qa Cj) Cj) (U6 (UG (Qa Cj) Cj) KR)))) ?_;refine UO (SD (Kf (Us (Ur Cj) Uy) Cj (Fy g.c1 g.c6 g.c7))) ?_;exact YV (SD (Kf (Us (Ur Cj) (Us (Km Cj hlen) Uy)) Cj (GN g.c6 g.l1 g.l7 g.rk))) ⟨_,rfl⟩
theorem ON:∀(xs ys:Cp),PyData.eqvAll (xs.map int) (ys.map int)=decide (xs=ys)
 |[],[]=>rfl
 |[],y::ys=>by simp[PyData.eqvAll]
 |x::xs,[]=>by simp[PyData.eqvAll]
 |x::xs,y::ys=>by
  have ih:=ON xs ys
  show(Ud (.int x) (.int y)&&PyData.eqvAll (xs.map int) (ys.map int))=_
  rw[ih];have:Ud (.int x) (.int y)=decide (x=y):=rfl;rw[this,JN];simp
theorem Fw{xs:Cp}:oNe (.list (xs.map int)) (.list [])=Ci (!decide (xs=[])):=by
 unfold oNe;have h1:(J7 (xs.map int)).canLay0=Cm:=OP xs;have h3:(J7 (xs.map int)).depth<=60:=by have:=OO xs;unfold Kx at this;omega
 rw[Qs ⟨h1,rfl,h3⟩]
 congr 2
 exact ON xs []
theorem SZ{xs:Co}{x:D}(h:xs.getLast?=Ci x):oIx (.list xs) (.int (-1))=Ci x:=by
 unfold oIx atI;have hl:xs≠[]:=by rintro rfl;cases h
 have hp:0<xs.length:=List.length_pos_iff.mpr hl;rw[List.getLast?_eq_getElem?]at h
 show(ixN xs.length (-1)).bind _=_
 unfold ixN;rw[QM (by decide),Qs (by omega)];have e2:(-1+(xs.length:Int)).toNat=xs.length-1:=by omega
 simp only[Option.bind_some];rw[e2];exact h
theorem SY{xs:Cp}{k:Nat}(h:k<xs.length):oIx (.list (xs.map int)) (.int k)=Ci (.int (xs.getD k 0)):=by refine Kh ?_;rw[Qg,Qe h];simp[List.getD,List.getElem?_eq_getElem h]
theorem TV(ns:Cp)(k:Nat)(hl:ns.length<=1000):∃v,Zz [.list (ns.map int),.int k]=Ci (.int v):=by
 have hlen:UU [.list (ns.map int)]=Ci (.int ns.length):=by rw[Zc,Qd]
 by_cases h:k<ns.length
 .refine⟨ns.getD k 0,ZL (Z:=[pb (.list (ns.map int)),pb (.int k)]) Cj ?_⟩
  unfold Xc;apply Kl;apply U5
  case h1=>exact Zb Cj (Km Cj hlen) Cj
  case h2=>exact λ_=>UX (U1 Cj (Ur Cj) (SY h)) (Ki Cj)
  case h3=>
        intro hh;have:¬(k:Int)<(ns.length:Int):=by simpa using hh
        omega
 .refine⟨0,ZL (Z:=[pb (.list (ns.map int)),pb (.int k)]) Cj ?_⟩
  unfold Xc;apply Kl;apply U5
  case h1=>exact Zb Cj (Km Cj hlen) Cj
  case h2=>
        intro hh;have:(k:Int)<(ns.length:Int):=by simpa using hh
        omega
  case h3=>exact λ_=>Kt (Kp (UX Uu Cj))
def tab:Cp:=[1,1,2,0,3,7,1,4,5,6,1]
theorem R7{z:Int}(h0:0<=z)(h1:z<11):oIx (.list (tab.map int)) (.int z)=Ci (.int (tab.getD z.toNat 0))/\0<=tab.getD z.toNat 0/\tab.getD z.toNat 0<8:=by
 have e:z=0∨z=1∨z=2∨z=3∨z=4∨z=5∨z=6∨z=7∨z=8∨z=9∨z=10:=by omega
 rcases e with rfl|rfl|rfl|rfl|rfl|rfl|rfl|rfl|rfl|rfl|rfl<;>exact⟨rfl,by decide,by decide⟩
structure X1(n:Nat)(pl:Cp)(j:Nat)(rs:List Cp):Prop where
 few:rs.length<=j
 some:∀r∈rs,r≠[]
 there:∀r∈rs,∀t∈r,(0<=t/\t<n)/\pl.getD t.toNat 0<1+(j:Int)
 once:rs.flatten.Nodup
def Xx(n:Nat)(pl:Cp)(r:Int):Cp:=((J5 n).filter λk=>decide (pl.getD k 0=r)).map λk:Nat=>(k:Int)
theorem DJ(n:Nat)(pl:Cp)(r:Int):(Xx n pl r).Nodup:=by unfold Xx;refine List.Pairwise.map _ (λa b h e=>h (by omega)) ((List.nodup_range).filter _)
theorem O7{n:Nat}{pl:Cp}{r t:Int}(h:t∈Xx n pl r):(0<=t/\t<n)/\pl.getD t.toNat 0=r:=by
 unfold Xx at h;obtain⟨k,hk,rfl⟩:=QB.mp h;have hk:=JM.mp hk;have h1:=Je.mp hk.1;have h2:pl.getD k 0=r:=by simpa using hk.2
 exact⟨⟨by omega,by omega⟩,by rw[Jb];exact h2⟩
theorem X1.add{n:Nat}{pl:Cp}{j:Nat}{rs:List Cp}{row:Cp}(g:X1 n pl j rs)(hne:row≠[])(hm:∀t∈row,t∈Xx n pl (1+(j:Int)))(hn:row.Nodup):X1 n pl (j+1) (rs++[row]) where
 few:=by rw[Qj,QN];have:=g.few;omega
 some:=λr hr=>by
  rcases QC.mp hr with z|z
  .exact g.some r z
  .rw[Qp.mp z];exact hne
 there:=λr hr t ht=>by
  rcases QC.mp hr with z|z
  .have:=g.there r z t ht;exact⟨this.1,by omega⟩
  .rw[Qp.mp z]at ht
   have:=O7 (hm t ht);exact⟨this.1,by omega⟩
 once:=by rw[List.flatten_append,List.flatten_singleton];refine Q6.mpr ⟨g.once,hn,λa ha b hb e=>?_⟩;subst e;obtain⟨r,hr,har⟩:=Jo.mp ha;have h1:=(g.there r hr a har).2;have h2:=(O7 (hm a hb)).2;omega
theorem X1.next{n:Nat}{pl:Cp}{j:Nat}{rs:List Cp}(g:X1 n pl j rs):X1 n pl (j+1) rs:=
 ⟨by have:=g.few;omega,g.some,λr hr t ht=>⟨(g.there r hr t ht).1,by have:=(g.there r hr t ht).2;omega⟩,g.once⟩
theorem PD{x:D}{m:Nat}(h:m<=1000):UN (.list [x]) (.int m)=Ci (.list (J6 m x)):=by
 rw[Rv ⟨by omega,by omega,by rw[Jb];show 1*m<=_;omega⟩,Jb]
 congr 2
 induction m with
 |zero=>rfl
 |succ m ih=>rw[Q8,QO,ih (by omega)];rfl
def szG(T A:Nat):Cp:=(T:Int)::(A:Int)::J6 T 11
def Zf(T R:Nat):Cp:=J6 T ((R:Int)+1)++[2]
theorem PB{T A:Nat}:(szG T A).length=T+2:=by unfold szG;simp
theorem OM{T R:Nat}:(Zf T R).length=T+1:=by unfold Zf;simp
theorem MA{T A:Nat}(h1:1<=T)(h2:T<=6)(h3:1<=A)(h4:A<=7):∀x∈szG T A,0<x/\x<18446744073709551616:=λx hx=>by unfold szG at hx;simp only[Qu,List.mem_replicate]at hx;rcases hx with rfl|rfl|⟨_,rfl⟩<;>omega
theorem LX{T R:Nat}(h:R<=5):∀x∈Zf T R,0<x/\x<18446744073709551616:=λx hx=>by unfold Zf at hx;simp only[List.mem_append,Qp,List.mem_replicate]at hx;rcases hx with ⟨_,rfl⟩|rfl<;>omega
theorem Fv{T R:Nat}:(Zf T R)[T]?=Ci 2:=by unfold Zf;simp
theorem Mz{T A k:Nat}(h:k<T):(szG T A)[2+k]?=Ci 11:=by unfold szG;rw[show 2+k=k+1+1 by omega,JC,JC,Qy,Qs h]
def TZ(T A R:Nat)(S dz:D)(at_ n:Nat)(cs pl:Cp)(ls:L3)(x9 C3:Option Sl)(j:Nat)(Z:Ul):Prop:=∃(rs:List Cp)(BR Bm:Option Sl),
 Z=[pb S,pb (.int at_),pb (.int (T:Nat)),pb (.int (A:Nat)),pb (.int (R:Nat)),pb dz,Ci (.own (cs.map int)),Ci (.deep (.lst (.lst .leaf)) (.list (ls.map Ka))),x9,C3,pb (.list (pl.map int)),Ci (.own (rs.map Kx)),BR,Bm]/\X1 n pl j rs
theorem EH{T A R:Nat}{S dz:D}{at_ n:Nat}{cs pl:Cp}{ls:L3}{v9 v10:D}{j:Nat}{d:D}{Z:Ul}{Q:Out->Prop}(hcs:cs.length=n)(hT:T<=6)(hR:R<=5)(hn:n<=T)(hpl:pl.length=T+1)(Bg:pl.getD T 0=0∨pl.getD T 0=1)
  (hj:(K0 1 ((R:Int)+1))[j]?=Ci d) (h:TZ T A R S dz at_ n cs pl ls (Ci (.pub v9)) (Ci (.pub v10)) j Z) :
  ∃Z2,gN 12 d Z=Ci Z2/\Ho RN Z2 (XQ (TZ T A R S dz at_ n cs pl ls (Ci (.pub v9)) (Ci (.pub v10)) (j+1)) Q):=by
 obtain⟨rs,BR,Bm,rfl,g⟩:=h;obtain⟨rfl,hlt⟩:=XH hj;have hj5:j<R:=by omega
 refine⟨_,UG (Qa Cj) Cj,?_⟩;unfold RN
 have hrd:K0 0 ((n:Nat):Int)=(J5 n).map λk=>.int (k:Int):=by
  unfold K0;have:((n:Int)-0).toNat=n:=by omega
  rw[this];apply List.map_congr_left;intro k _;rw[JP]
 have hc:Ke (gN 14) (Uo oEq (Uz 10 (Uk 14)) (Uk 12)) (Uk 14) (K0 0 ((n:Nat):Int)) (UL [pb S,pb (.int at_),pb (.int (T:Nat)),pb (.int (A:Nat)),pb (.int (R:Nat)),pb dz,Ci (.own (cs.map int)),Ci (.deep (.lst (.lst .leaf)) (.list (ls.map Ka))),pb v9,pb v10,pb (.list (pl.map int)),Ci (.own (rs.map Kx)),pb (.int (1+(j:Int))),Bm]++J6 1 Ck) []=Ci ((Xx n pl (1+(j:Int))).map int):=by
  rw[hrd,Y4 (λd=>match d with | .int k=>decide (pl.getD k.toNat 0=1+(j:Int))|_=>Cn) (λd=>d) (λZ=>∃x,Z=[pb S,pb (.int at_),pb (.int (T:Nat)),pb (.int (A:Nat)),pb (.int (R:Nat)),pb dz,Ck,Ck,pb v9,pb v10,pb (.list (pl.map int)),Ck,pb (.int (1+(j:Int))),YL Bm,x])]
  .rw[Jk,List.map_id',List.filter_map]
   unfold Xx;rw[Jc];rfl
  .rintro d hm Z ⟨x,rfl⟩
   obtain⟨k,hk,rfl⟩:=QB.mp hm;have hk:=Je.mp hk;refine⟨_,UG (Qa Cj) Cj,UB (U1 Cj (Ur Cj) (SY (by omega))) (Ur Cj) Tk,λ_=>Ur Cj,pb (.int k),?_⟩;unfold UL;cases Bm with
   |none=>rfl
   |some sl=>cases sl<;>rfl
  .exact⟨Ck,rfl⟩
  .rw[Qd,Jr,Q0];omega
 have hlen:(cs.map int).length=n:=by rw[Qd,hcs]
 refine UO (Zr (Yp (WZ (Us (P2 Cj) Uy) (by rw[hlen];exact W5 (by omega) (by omega))) hc) (Qa Cj) Cj) ?_;generalize BZ:Xx n pl (1+(j:Int))=row;apply U5
 case h1=>exact Rr Cj (Kv Uy (by decide)) Cj Fw
 case h2=>
  intro hh;have hne:row≠[]:=by simpa using hh
  have hlx:oIx (.list (pl.map int)) (.int (-1))=Ci (.int (pl.getD T 0)):=SZ (by rw[List.getLast?_eq_getElem?,Qd,hpl,Qg,Nat.add_sub_cancel,Qe (show T<pl.length by omega)];simp[List.getD,List.getElem?_eq_getElem (show T<pl.length by omega)])
  obtain⟨Bc,hix,Be⟩:∃Bc:Cp,oIx (.list [.list (row.map int),.list (row.map int).reverse]) (.int (pl.getD T 0))=Ci (Kx Bc)/\(Bc=row∨Bc=row.reverse):=by
   rcases Bg with e|e
   .rw[e];exact⟨row,rfl,.inl Cj⟩
   .rw[e];exact⟨row.reverse,by show Ci (J7 (row.map int).reverse)=_;unfold Kx;rw[List.map_reverse],.inr Cj⟩
  have hrl:(rs.map Kx).length<1000000:=by rw[Qd];have:=g.few;omega
  refine YV (XX Cj (UB (Kv (Us (VD Cj Cj) (Us (Pc (Ur Cj) Uu Uu (Yj (XA Uu))) Uy)) (Qa Cj)) (U1 Cj (XA Uu) hlx) hix) Cj hrl Cj) ?_;refine ZI ⟨rs++[Bc],pb (.int (1+(j:Int))),pb (.list (row.map int)),by rw[Q4];rfl,g.add ?_ ?_ ?_⟩
  .rcases Be with e|e<;>rw[e]
   .exact hne
   .exact λz=>hne (List.reverse_eq_nil_iff.mp z)
  .intro t ht
   rw[BZ];rcases Be with e|e<;>rw[e]at ht
   .exact ht
   .exact List.mem_reverse.mp ht
  .have hnd:=DJ n pl (1+(j:Int))
   rw[BZ]at hnd;rcases Be with e|e<;>rw[e]
   .exact hnd
   .exact(List.reverse_perm row).nodup_iff.mpr hnd
 case h3=>exact λ_=>Kt (ZI ⟨rs,_,_,rfl,g.next⟩)
def TY(T A R:Nat)(S dz:D)(at_ n:Nat)(cs:Cp)(i:Nat)(Z:Ul):Prop:=∃(ls:L3)(x9 C3 C0 x12 BR Bm:Option Sl),
 Z=[pb S,pb (.int at_),pb (.int (T:Nat)),pb (.int (A:Nat)),pb (.int (R:Nat)),pb dz,Ci (.own (cs.map int)),Ci (.deep (.lst (.lst .leaf)) (.list (ls.map Ka))),x9,C3,C0,x12,BR,Bm]/\ls.length=i/\∀rs∈ls,VG n rs/\rs.length<=R
theorem DI{T A R:Nat}{ns:Cp}{dz:D}{at_ n:Nat}{cs:Cp}{i:Nat}{m:Int}{d:D}{Z:Ul}{Q:Out->Prop}(hns:ns.length<=1000)(hT:T<=6)(hR:R<=5)(hcs:cs.length=n)(hn:n<=T)(hm:m<=100)
  (hi:(K0 0 m)[i]?=Ci d) (h:TY T A R (.list (ns.map int)) dz at_ n cs i Z) :
  ∃Z2,gN 8 d Z=Ci Z2/\Ho RM Z2 (XQ (TY T A R (.list (ns.map int)) dz at_ n cs (i+1)) Q):=by
 obtain⟨ls,x9,C3,C0,x12,BR,Bm,rfl,hl,hg⟩:=h;obtain⟨rfl,hlt⟩:=XH hi;refine⟨_,UG (Qa Cj) Cj,?_⟩;unfold RM;obtain⟨v,hv⟩:=TV ns (at_+1+i) hns;have ev:((at_:Int)+1+(0+(i:Int)))=((at_+1+i:Nat):Int):=by omega
 rw[←ev]at hv;refine UO (KF (Kf (Us (Ur Cj) (Us (UB (UB (Ur Cj) Uu K2) (Ur Cj) K2) Uy)) Cj hv) (Qa Cj) Cj) ?_;obtain⟨r,hF,pl,rfl,hpl,hpb⟩:=VN v (11*(at_:Int)+3*(0+(i:Int))+1) (sizes:=Zf T R) (LX hR) (by rw[OM];omega);have hpl7:pl.length=T+1:=by rw[hpl,OM]
 have hmul:UN (.list [.int ((R:Int)+1)]) (.int (T:Nat))=Ci (.list (J6 T (.int ((R:Int)+1)))):=PD (by omega);have hadd:UC (.list (J6 T (.int ((R:Int)+1)))) (.list [.int 2])=Ci (.list ((Zf T R).map int)):=by rw[ZY (by rw[QR];show T+1<=_;omega)];unfold Zf;rw[Q4,List.map_replicate];rfl
 refine UO (KF (Kf (Us (Ur Cj) (Us (UB (UB (UB Uu (Ur Cj) (YT (by decide) (by decide))) (UB Uu (Ur Cj) (YT (by decide) (by decide))) K2) Uu K2) (Us (UB (UB (Kv (Us (UB (Ur Cj) Uu K2) Uy) (Qa Cj)) (Ur Cj) hmul) (Kv (Us Uu Uy) (Qa Cj)) hadd) Uy))) Cj hF) (Qa Cj) Cj) ?_;refine UO (Zr (X6 Uy (Qa Cj)) (Qa Cj) Cj) ?_
 have Bg:pl.getD T 0=0∨pl.getD T 0=1:=by
  have e:pl[T]?=Ci pl[T]:=Qe (by omega);have:=hpb T pl[T] 2 e Fv;have e2:pl.getD T 0=pl[T]:=by simp[List.getD,e]
  rw[e2];omega
 apply Kl;apply Ye (TZ T A R (.list (ns.map int)) dz at_ n cs pl ls (Ci (.pub (.int (0+(i:Int))))) (Ci (.pub (.int v))))
 case h1=>exact SE (Us Uu (Us (UB (Ur Cj) Uu K2) Uy)) (Rs (by omega) (by omega) (by decide) (by decide))
 case h0=>exact⟨[],BR,Bm,rfl,⟨Qn _,λ_ h=>(by cases h),λ_ h=>(by cases h),List.nodup_nil⟩⟩
 case hst=>exact λj d Z e h=>EH hcs hT hR hn hpl7 Bg e h
 case hend=>
  rintro Z ⟨rs,y13,y14,rfl,g⟩;refine Kp ?_;have hl5:(K0 1 ((R:Int)+1)).length=R:=by rw[Yv];omega
  rw[hl5]at g;have hll:(ls.map Ka).length<1000000:=by rw[Qd];omega
  refine YV (GC Cj Cj hll Cj) ?_;refine ZI ⟨ls++[rs],pb (.int (0+(i:Int))),pb (.int v),pb (.list (pl.map int)),Ck,y13,y14,by rw[Q4];rfl,by rw[Qj,hl];rfl,λx hx=>?_⟩;rcases QC.mp hx with z|z
  .exact hg x z
  .rw[Qp.mp z];exact⟨⟨by have:=g.few;omega,g.some,λr hr t ht=>(g.there r hr t ht).1,g.once⟩,g.few⟩
theorem DZ(T A R:Nat){ns:Cp}(hns:ns.length<=1000)(at_:Nat)(hT1:1<=T:=by decide)(hT:T<=6:=by decide)(hA1:1<=A:=by decide)(hA:A<=7:=by decide)(hR:R<=5:=by decide):∃r,TX [.list (ns.map int),.int at_,.int (T:Nat),.int (A:Nat),.int (R:Nat)]=Ci r/\∃cs ls,r=Kc cs ls/\Good cs ls/\cs.length<=T/\ls.length<=A/\∀rs∈ls,rs.length<=R:=by
 obtain⟨v,hv⟩:=TV ns at_ hns;obtain⟨r,hF,ds,rfl,hl,hd⟩:=VN v at_ (sizes:=szG T A) (MA hT1 hT hA1 hA) (by rw[PB];omega);have hl8:ds.length=T+2:=by rw[hl,PB]
 have at':∀(j:Nat)(k z:Int),k=j->(szG T A)[j]?=Ci z->∃d,oIx (.list (ds.map int)) (.int k)=Ci (.int d)/\ds[j]?=Ci d/\0<=d/\d<z:=λj k z hk hz=>by
  subst hk;have hj:j<ds.length:=by rw[hl];exact(Qm.mp hz).1
  have e:ds[j]?=Ci ds[j]:=Qe hj;obtain⟨p0,p1⟩:=hd j ds[j] z e hz;exact⟨ds[j],Kh (by rw[Qg,e];rfl),e,p0,p1⟩
 obtain⟨d0,x0,e0,p0,q0⟩:=at' 0 0 T Cj Cj;obtain⟨d1,x1,e1,p1,q1⟩:=at' 1 1 A Cj Cj;have hmul:UN (.list [.int 11]) (.int (T:Nat))=Ci (.list (J6 T (.int 11))):=PD (by omega);have hadd:UC (.list [.int (T:Nat),.int (A:Nat)]) (.list (J6 T (.int 11)))=Ci (.list ((szG T A).map int)):=by rw[ZY (by rw[QR];show 2+T<=_;omega)];unfold szG;rw[QG,QG,List.map_replicate];rfl
 obtain⟨n,hn⟩:∃n:Nat,1+d0=n:=⟨(1+d0).toNat,by omega⟩
 refine N0 (Z:=[pb (.list (ns.map int)),pb (.int at_),pb (.int (T:Nat)),pb (.int (A:Nat)),pb (.int (R:Nat)),Ck,Ck,Ck,Ck,Ck,Ck,Ck,Ck,Ck]) Cj ?_;unfold RO;refine UO (KF (Kf (Us (Kf (Us (Ur Cj) (Us (Ur Cj) Uy)) Cj hv) (Us (Ur Cj) (Us (UB (Kv (Us (Ur Cj) (Us (Ur Cj) Uy)) (Qa Cj)) (UB (Kv (Us Uu Uy) (Qa Cj)) (Ur Cj) hmul) hadd) Uy))) Cj hF) (Qa Cj) Cj) ?_
 have BJ:DL.cutD (ds.map int) (Ci 2) (Ci (3+d0))=((ds.drop 2).take n).map int:=by
  rw[F0 (by decide) (by omega) (by omega)];have:(3+d0).toNat-(2:Int).toNat=n:=by omega
  rw[this];rfl
 have Bu:((ds.drop 2).take n).length=n:=by rw[Ji,JB,hl8];omega
 have each:∀z∈(ds.drop 2).take n,0<=z/\z<11:=λz hz=>by
  have hz:=Jz hz;obtain⟨k,hk,e⟩:=List.getElem_of_mem hz;rw[JB,hl8]at hk;rw[List.getElem_drop]at e;have e2:ds[2+k]?=Ci z:=by rw[←e];exact Qe _
  refine hd (2+k) z 11 e2 (Mz ?_);omega
 let cs:Cp:=((ds.drop 2).take n).map λz=>tab.getD z.toNat 0
 have hcl:cs.length=n:=by show(List.map _ _).length=n;rw[Qd,Bu]
 have hc:∀xs:List (Option Sl),UL xs=xs->xs.length=14->Ke (gN 14) (Uq Cm) (Uo oIx (UJ (Up (Uq (.int 1)) (Up (Uq (.int 1)) (Up (Uq (.int 2)) (Up (Uq (.int 0)) (Up (Uq (.int 3)) (Up (Uq (.int 7)) (Up (Uq (.int 1)) (Up (Uq (.int 4)) (Up (Uq (.int 5)) (Up (Uq (.int 6)) (Up (Uq (.int 1)) (Um))))))))))))) (Uk 14)) (((ds.drop 2).take n).map int) (UL xs++J6 1 Ck) []=Ci (cs.map int):=by
  intro xs hx hxl;rw[hx,Y4 (λ_=>Cm) (λd=>match d with | .int z=>.int (tab.getD z.toNat 0)|_=>.none) (λZ=>∃x,Z=xs++[x])]
  .rw[List.filter_eq_self.mpr (λ_ _=>rfl),Jk,Jc]
   show _=Ci ((((ds.drop 2).take n).map λz=>tab.getD z.toNat 0).map int);rw[Jc];rfl
  .rintro d hm Z ⟨x,rfl⟩
   obtain⟨z,hz,rfl⟩:=QB.mp hm;have ht:=R7 (each z hz).1 (each z hz).2;have hset:(xs++[x]).set 14 (Ci (Sl.pub (.int z)))=xs++[pb (.int z)]:=by rw[List.set_append_right _ _ (by omega),hxl];rfl
   have hget:(xs++[Ci (Sl.pub (.int z))])[14]?=Ci (Ci (Sl.pub (.int z))):=by rw[Qt (by omega),hxl];rfl
   refine⟨_,UG (by rw[Qj,hxl];exact Qa Cj) hset,rfl,λ_=>?_,pb (.int z),?_⟩
   .exact UB (Kv (Us Uu (Us Uu (Us Uu (Us Uu (Us Uu (Us Uu (Us Uu (Us Uu (Us Uu (Us Uu (Us Uu Uy))))))))))) (Qa Cj)) (Ur hget) ht.1
   .unfold UL at hx⊢
    rw[Q4,hx];rfl
  .exact⟨Ck,rfl⟩
  .rw[Qd,Bu,Q0];omega
 refine UO (Zr (Yp (ZX (XV (Ur Cj) (Yj Uu) (Yj (UB Uu (U1 Cj Uu x0) K2)) (by rw[X9,BJ])) Y7) (hc _ Cj Cj)) (Qa Cj) Cj) ?_;refine UO (PR Uu (Qa Cj) Cj) ?_;apply Kl;apply Ye (TY T A R (.list (ns.map int)) (.list (ds.map int)) at_ n cs)
 case h1=>exact WZ (Us (UB Uu (U1 Cj Uu x1) K2) Uy) (W5 (by omega) (by omega))
 case h0=>exact⟨[],_,_,_,_,_,_,rfl,rfl,λ_ h=>by cases h⟩
 case hst=>exact λi d Z e h=>DI hns hT hR hcl (by omega) (by omega) e h
 case hend=>rintro Z ⟨ls,y9,y10,y11,y12,y13,y14,rfl,hll,hg⟩;rw[Yv]at hll;refine Kp (Kt ⟨_,rfl,_,_,GB rfl rfl rfl rfl (by decide),cs,ls,rfl,⟨?_,by omega,by omega,λrs hrs=>(hg rs hrs).2⟩⟩);exact⟨by omega,by omega,λc hc=>by obtain⟨z,hz,rfl⟩:=QB.mp hc;exact(R7 (each z hz).1 (each z hz).2).2,by omega,by omega,λrs hrs=>by rw[hcl];exact(hg rs hrs).1⟩
def YO(t:Int)(rs:List Cp):Nat:=if rs.findIdx (λr=>r.contains t)<rs.length then rs.findIdx (λr=>r.contains t)+1 else 0
theorem LW(a b:Int):Ud (.int a) (.int b)=(a==b):=by simp[Ud]
theorem Pz(t:Int)(r:Cp):oIn (.int t) (Kx r)=Ci (r.contains t):=by
 have h1:Ub (r.map int)=Cm:=by
  induction r with
  |nil=>rfl
  |cons x r ih=>rw[QG];unfold Ub;rw[ih];rfl
 unfold oIn Kx;dsimp only;rw[Qs ⟨rfl,h1,JI _⟩]
 congr 1
 rw[List.any_map];clear h1;induction r with
 |nil=>rfl
 |cons x r ih=>
  rw[List.any_cons,ih,List.contains_cons]
  congr 1
  show Ud (.int x) (.int t)=(t==x);rw[LW];exact Bool.eq_iff_iff.2 ⟨λh=>beq_iff_eq.2 (beq_iff_eq.1 h).symm,λh=>beq_iff_eq.2 (beq_iff_eq.1 h).symm⟩
theorem Fu{t:Int}{rs:List Cp}{i:Nat}{r:Cp}(hr:rs[i]?=Ci r)(h:r.contains t=Cm)(hb:∀j r,j<i->rs[j]?=Ci r->r.contains t=Cn):YO t rs=1+i:=by obtain⟨hi,e⟩:=List.getElem?_eq_some_iff.1 hr;have hf:rs.findIdx (λr=>r.contains t)=i:=(List.findIdx_eq hi).2 ⟨by rw[e];exact h,λj hj=>hb j _ hj (Qe (Nat.lt_trans hj hi))⟩;unfold YO;rw[hf,Qs hi,Nat.add_comm]
theorem Ft{t:Int}{rs:List Cp}(hb:∀j r,j<rs.length->rs[j]?=Ci r->r.contains t=Cn):YO t rs=0:=by
 have hf:rs.findIdx (λr=>r.contains t)=rs.length:=List.findIdx_eq_length.2 λr hr=>by obtain⟨j,hj,e⟩:=List.mem_iff_getElem.1 hr;exact hb j r hj (by rw[Qe hj,e])
 unfold YO;rw[hf,QM (Q9 _)]
theorem EG(t:Int)(rs:List Cp):Xl [Ka rs,.int t]=Ci (.int (YO t rs:Nat)):=by
 refine ZL (Z:=[pb (Ka rs),pb (.int t),Ck,Ck]) Cj ?_;unfold Wr;apply Kl;apply Ye (λi Z=>(∃x2 x3,Z=[pb (Ka rs),pb (.int t),x2,x3])/\∀j r,j<i->rs[j]?=Ci r->r.contains t=Cn)
 case h1=>exact FZ (Us (Ur Cj) Uy) Ex
 case h0=>exact⟨⟨_,_,rfl⟩,λj r h=>absurd h (Nat.not_lt_zero _)⟩
 case hst=>
  rintro i d Z hi ⟨⟨x2,x3,rfl⟩,hb⟩;obtain⟨x,hx,rfl⟩:=X3 hi;rw[Qg]at hx;cases hr:rs[i]? with
  |none=>rw[hr]at hx;cases hx
  |some r=>
   rw[hr]at hx;cases hx;refine⟨_,KQ Cj (U6 (UG (Qa Cj) Cj) (U6 (UG (Qa Cj) Cj) KR)),?_⟩;unfold P5;apply U5
   case h1=>exact Zb Cj (Ur Cj) (Pz t r)
   case h2=>intro hh;refine UX (Ur Cj) (Yh ?_);rw[Fu hr hh hb];exact⟨rfl⟩
   case h3=>
    intro hh;refine Kt (ZI ⟨⟨_,_,rfl⟩,λj r' hj hr'=>?_⟩);rcases Nat.lt_succ_iff_lt_or_eq.1 hj with h|rfl
    .exact hb j r' h hr'
    .rw[hr]at hr';cases hr';exact hh
 case hend=>rintro Z ⟨⟨x2,x3,rfl⟩,hb⟩;rw[YX,Qd]at hb;refine Kp ?_;rw[Ft hb];exact UX Uu rfl
def Uv:Cu->D
 |none=>.none
 |some t=>.int t
def U9(ws:LO):D:=.list (ws.map Uv)
structure Deal(cs:Cp)(ls:L3)(ws:LO):Prop where
 len:ws.length=ls.length
 wish:∀(i:Nat) t rs,ws[i]?=Ci (Ci t)->ls[i]?=Ci rs->t∈rs.flatten
 cop:∀(k:Nat) c,cs[k]?=Ci c->((ws.count (Ci (k:Int)):Nat):Int)<=c
theorem EF{t:Int}{rs:List Cp}(h:t∈rs.flatten):YO t rs≠0:=by obtain⟨r,hr,ht⟩:=Jo.mp h;have:rs.findIdx (λr=>r.contains t)<rs.length:=List.findIdx_lt_length_of_exists ⟨r,hr,by simpa using ht⟩;unfold YO;rw[Qs this];omega
theorem OL(ws:LO):Ub (ws.map Uv)=Cm:=TL λx hx=>by obtain⟨y,_,rfl⟩:=QB.mp hx;cases y<;>rfl
theorem SX(a b:Cu):Ud (Uv a) (Uv b)=decide (a=b):=by rw[JN];cases a<;>cases b<;>simp[Uv,Ud]
theorem Nw{ws:LO}{k:Int}:XE (U9 ws) (.int k)=Ci (.int (ws.count (Ci k):Nat)):=by
 unfold U9 XE;dsimp only;rw[if_pos ⟨rfl,OL ws,by simp[Uc]⟩]
 congr 3
 induction ws with
 |nil=>rfl
 |cons w r ih=>
  rw[QG,List.countP_cons,List.count_cons,ih]
  congr 1
  have:=SX w (Ci k);have e:Uv (Ci k)=.int k:=rfl;rw[e]at this;rw[this];cases w with
  |none=>simp
  |some z=>simp
theorem OK{f:M Co}{k:Nat}{s:D->Ul->Cv}{t:M Bool}{g:M D}{Z Z1:Ul}{ds es:Co}(h1:f Z=.ok ds Z1)(h2:Ke s t g ds (UY Z1++J6 k Ck) []=Ci es)(h3:es.all flat=Cm):WP f k s t g Z=.ok es Z1:=by unfold WP;rw[h1];dsimp only;rw[h2];dsimp only;rw[if_pos h3]
theorem RF{cs:Cp}{ls:L3}{rs:List Cp}{i:Nat}(hi:ls[i]?=Ci rs)(hl:rs.flatten.length<64):Zy [Kc cs ls,.int i]=Ci (.list ((Ze rs.flatten).map int)):=by
 refine ZL (Z:=[pb (Kc cs ls),pb (.int i)]) Cj ?_;unfold Wl;have i1:oIx (Kc cs ls) (.int 1)=Ci (.list (ls.map Ka)):=Kh (j:=1) Cj;have i2:oIx (.list (ls.map Ka)) (.int i)=Ci (Ka rs):=Kh (by rw[Qg,hi];rfl)
 have hs:WL [Ka rs,.list []]=Ci (.list (rs.flatten.map int)):=by
  have e:Ka rs=.list ((rs.map λr=>r.map int).map J7):=by unfold Ka;rw[Jc];rfl
  have e2:(rs.map λr=>r.map int).flatten=rs.flatten.map int:=by rw[List.map_flatten]
  rw[e];unfold WL;dsimp only;rw[Dk];dsimp only;rw[e2,Qs (by rw[Qd];omega)]
 exact UX (ZJ (Us (ZJ (Us (UB (U1 Cj Uu i1) (Ur Cj) i2) (Us (Kv Uy (Qa Cj)) Uy)) hs) Uy) (EO hl)) Cj
structure X5(cs:Cp)(ls:L3)(lf:Cp)(ws:LO):Prop where
 wish:∀(i:Nat) t rs,ws[i]?=Ci (Ci t)->ls[i]?=Ci rs->t∈rs.flatten
 len:lf.length=cs.length
 cop:∀(k:Nat) c,cs[k]?=Ci c->lf[k]?=Ci (c-((ws.count (Ci (k:Int)):Nat):Int))/\0<=c-((ws.count (Ci (k:Int)):Nat):Int)
theorem No{ls:L3}{ws:LO}{o:Cu}{rs:List Cp}(h:∀(i:Nat) t rs,ws[i]?=Ci (Ci t)->ls[i]?=Ci rs->t∈rs.flatten)(hi:ls[ws.length]?=Ci rs)(ho:∀t,o=Ci t->t∈rs.flatten) :
  ∀(i:Nat) t rs,(ws++[o])[i]?=Ci (Ci t)->ls[i]?=Ci rs->t∈rs.flatten:=by
 intro j t rs' e1 e2;by_cases hj:j<ws.length
 .rw[Qr hj]at e1;exact h j t rs' e1 e2
 .by_cases hj2:j=ws.length
  .subst hj2
   rw[hi]at e2;cases e2;rw[Qt (Qn _),Nat.sub_self,List.getElem?_cons_zero]at e1;cases e1;exact ho t Cj
  .rw[Jn (by rw[Qj,QN];omega)]at e1
   cases e1
theorem X5.none{cs:Cp}{ls:L3}{lf:Cp}{ws:LO}{rs:List Cp}(d:X5 cs ls lf ws)(hi:ls[ws.length]?=Ci rs):X5 cs ls lf (ws++[Option.none]) where
 wish:=No d.wish hi λt e=>by cases e
 len:=d.len
 cop:=λk c e=>by rw[List.count_append];simpa using d.cop k c e
theorem X5.give{cs:Cp}{ls:L3}{lf:Cp}{ws:LO}{rs:List Cp}{t v:Int}(d:X5 cs ls lf ws)(hi:ls[ws.length]?=Ci rs)(ht:t∈rs.flatten)(h0:0<=t)(hv:lf[t.toNat]?=Ci v)(hp:0<v):X5 cs ls (lf.set t.toNat (v-1)) (ws++[Ci t]) where
 wish:=No d.wish hi λt' e=>by cases e;exact ht
 len:=by rw[QZ];exact d.len
 cop:=λk c e=>by
  obtain⟨h1,h2⟩:=d.cop k c e;rw[List.count_append];by_cases hk:t=(k:Int)
  .subst hk
   rw[Jb]at hv⊢;rw[h1]at hv;cases hv;have hl:k<lf.length:=(Qm.mp h1).1;rw[QL hl];simp only[List.count_singleton_self];refine⟨by congr 1;omega,by omega⟩
  .have hne:t.toNat≠k:=by omega
   rw[Qk hne];have:List.count (Ci (k:Int)) [Ci t]=0:=by rw[List.count_eq_zero];intro z;have:=Qp.mp z;exact hk (QA this).symm
   rw[this];exact⟨h1,h2⟩
theorem R6{os:LO}{k:Nat}(h:k<os.length):oIx (.list (os.map Uv)) (.int k)=Ci (Uv os[k]):=Kh (by rw[Qg,Qe h];rfl)
theorem OJ{ws:LO}{o:Cu}:(ws++[o]).map Uv=ws.map Uv++[Uv o]:=by rw[Q4];rfl
def Wf(cs:Cp)(ls:L3)(c s:D)(dg:Cp)(i:Nat)(Z:Ul):Prop:=∃(lf:Cp)(ws:LO)(x6 x7 x8:Option Sl),
 Z=[pb (Kc cs ls),pb c,pb s,Ci (.own (lf.map int)),pb (.list (dg.map int)),Ci (.own (ws.map Uv)),x6,x7,x8]/\ws.length=i/\X5 cs ls lf ws
theorem GM(ws:LO):(U9 ws).depth<=2:=Ra (TB λx hx=>by obtain⟨y,_,rfl⟩:=QB.mp hx;cases y<;>simp[Uv,Uc])
theorem W7{s:D->Ul->Cv}{t:M Bool}{g:M D}(I:Ul->Prop):∀(ds qs:Co)(Z:Ul)(es:Co),qs.length=ds.length ->
  (∀(i:Nat) d e,ds[i]?=Ci d->qs[i]?=Ci e->∀Z,I Z->∃Z1,s d Z=Ci Z1/\t Z1=.ok Cm Z1/\g Z1=.ok e Z1/\I (UL Z1))->I Z->es.length+ds.length<=1000000->Ke s t g ds Z es=Ci (es++qs)
 |[],[],Z,es,_,_,_,_=>by rw[Ke,QY]
 |d::r,e::q,Z,es,hl,st,h0,hz=>by obtain⟨Z1,e1,e2,e3,h1⟩:=st 0 d e Cj Cj Z h0;rw[QI]at hz;rw[Ke,e1];dsimp only;rw[e2];dsimp only;rw[Qs Cj,e3];dsimp only;rw[if_pos (by omega),W7 I r q (UL Z1) (es++[e]) (by simpa using hl) (λi d' e' x y=>st (i+1) d' e' (by simpa using x) (by simpa using y)) h1 (by rw[List.length_append,List.length_singleton];omega),List.append_assoc];rfl
def XT(cs:Cp)(ws:LO):Cp:=(J5 cs.length).map λk:Nat=>cs.getD k 0-((ws.count (Ci (k:Int)):Nat):Int)
section
variable{cs:Cp}{ls:L3}{ws:LO}
theorem RV:oIx (Kc cs ls) (.int 0)=Ci (.list (cs.map int)):=Kh (j:=0) Cj
theorem Mt:oIx (Kc cs ls) (.int 1)=Ci (.list (ls.map Ka)):=Kh (j:=1) Cj
theorem D0(g:Good cs ls):Xk [Kc cs ls,U9 ws]=Ci (.list ((XT cs ws).map int)):=by
 refine ZL (Z:=[pb (Kc cs ls),pb (U9 ws)]) Cj ?_;unfold Wq;have hw:=Fx g
 have hc:Ke (gT 2 (gNC (gN 2) (gNC (gN 3) (gN0)))) (Uq Cm) (Uo Zh (Uk 3) (WN (Uk 1) (Up (Uk 2) (Um)))) (Zl 0 (cs.map int)) (UL [pb (Kc cs ls),pb (U9 ws)]++J6 2 Ck) []=Ci ((XT cs ws).map int):=by
  refine W7 (λZ=>∃x y,Z=[pb (Kc cs ls),pb (U9 ws),x,y]) _ _ _ _ (by unfold XT;rw[Qd,Qd,Jr,YX,Qd]) ?_ ⟨Ck,Ck,rfl⟩ (by rw[YX,Qd,Q0];have:=g.c6;omega);rintro i d e hd he Z ⟨x,y,rfl⟩;obtain⟨z,hz,rfl⟩:=X3 hd;rw[Qg]at hz;cases hci:cs[i]? with
  |none=>rw[hci]at hz;cases hz
  |some c=>
  rw[hci]at hz;cases hz;have CT:i<cs.length:=(Qm.mp hci).1;unfold XT at he;rw[Qg,Qg,Qe (by rw[Jr];exact CT),List.getElem_range]at he;cases he;rw[JJ];have e:cs.getD i 0=c:=by simp[List.getD,hci]
  dsimp only;rw[e];exact⟨_,KQ Cj (U6 (UG (Qa Cj) Cj) (U6 (UG (Qa Cj) Cj) KR)),rfl,UB (Ur Cj) (OB (Ur Cj) (Us (Ur Cj) Uy) Nw) WY,_,_,rfl⟩
 refine UO (SD (Kf (Us (Ur Cj) Uy) Cj hw)) ?_;exact UX (Kw (Yp (VC (Us (U1 Cj Uu RV) Uy) VI) hc)) Cj
end
theorem Vx{a b:Cu}:oEq (Uv a) (Uv b)=Ci (decide (a=b)):=by unfold oEq;rw[if_pos ⟨by cases a<;>rfl,by cases b<;>rfl,by cases a<;>simp[Uv,Uc]⟩,SX]
theorem V8{a b:Cu}:oNe (Uv a) (Uv b)=Ci (!decide (a=b)):=by unfold oNe;rw[if_pos ⟨by cases a<;>rfl,by cases b<;>rfl,by cases a<;>simp[Uv,Uc]⟩,SX]
section
variable{cs:Cp}{ls:L3}{ws:LO}{a:Nat}{o had:Cu}{rs:List Cp}{t:Int}
theorem EE(h:YO t rs≠0):t∈rs.flatten:=by
 unfold YO at h;split at h
 .rename_i hl
  have:=List.findIdx_getElem (w:=hl);exact List.mem_flatten.mpr ⟨_,List.getElem_mem hl,by simpa using this⟩
 .exact absurd Cj h
end
def KI(k:Nat):L3->LP
 |[]=>[]
 |rs::ls=>(Ze rs.flatten).map (λt=>((k:Int),t))++KI (k+1) ls
theorem Vy:∀{ls:L3}{k:Nat}{q:Int×Int},q∈KI k ls->∃i rs,ls[i]?=Ci rs/\q.1=((k+i:Nat):Int)/\q.2∈rs.flatten
 |[],_,q,h=>by cases h
 |rs::ls,k,q,h=>by
  rcases QC.mp h with h|h
  .obtain⟨t,ht,rfl⟩:=QB.mp h
   exact⟨0,rs,rfl,rfl,(Yu _).mem_iff.mp ht⟩
  .obtain⟨i,rs',h1,h2,h3⟩:=Vy h
   exact⟨i+1,rs',by simpa using h1,by rw[h2];congr 1;omega,h3⟩
theorem OI:∀{ls:L3}{k i:Nat}{rs:List Cp}{t:Int},ls[i]?=Ci rs->t∈rs.flatten->(((k+i:Nat):Int),t)∈KI k ls
 |rs::ls,k,0,rs',t,h,ht=>by cases h;exact Q2 _ (QB.mpr ⟨t,(Yu _).mem_iff.mpr ht,rfl⟩)
 |rs::ls,k,i+1,rs',t,h,ht=>by have:=OI (ls:=ls) (k:=k+1) (i:=i) (by simpa using h) ht;rw[show k+1+i=k+(i+1)by omega]at this;exact Qq _ this
theorem Tj{t:Int}{r:Cp}:oIn (.int t) (.list (r.map int))=Ci (r.contains t):=Pz t r
theorem Wb{a b:Str}(h1:Ua a=Cm)(h2:Ua b=Cm):Ua (a++b)=Cm:=by unfold Ua at *;rw[PySem.Str.cps_append,Array.all_append,h1,h2];rfl
theorem NN:∀(ts:List Str)(k:Nat)(acc:Str),Ua acc=Cm->(∀t∈ts,Ua t=Cm)->Ua (textFrom k acc ts)=Cm
 |[],k,acc,h,_=>h
 |t::r,k,acc,h,ht=>by
  refine NN r (k+1) _ (Wb (Wb h ?_) (ht t Ql)) λx hx=>ht x (Qo _ hx)
  split<;>decide +kernel
theorem RI:∀{xs:Co}{t:Str},t∈PyData.shownAll xs->∃x∈xs,t=x.shown
 |[],t,h=>by cases h
 |x::xs,t,h=>by
  rw[PyData.shownAll]at h;rcases Qu.mp h with h|h
  .exact⟨x,Ql,h⟩
  .obtain⟨y,hy,e⟩:=RI h
   exact⟨y,Qo _ hy,e⟩
theorem DU{xs:Co}(h:∀x∈xs,Ua x.shown=Cm):Ua (J7 xs).shown=Cm:=by show Ua (textFrom 0 "[" (PyData.shownAll xs) ++ "]")=Cm;exact Wb (NN _ _ _ (by decide +kernel) λt ht=>by obtain⟨x,hx,rfl⟩:=RI ht;exact h x hx) (by decide +kernel)
theorem Lm{i:Int}(h:0<=i/\i<10):Ua (int i).shown=Cm:=by
 have:i=0∨i=1∨i=2∨i=3∨i=4∨i=5∨i=6∨i=7∨i=8∨i=9:=by omega
 rcases this with rfl|rfl|rfl|rfl|rfl|rfl|rfl|rfl|rfl|rfl<;>decide +kernel
theorem GL{xs:Co}{a b:Cu}:(DL.cutD xs a b).length<=xs.length:=by unfold DL.cutD;rw[Ji,JB];omega
theorem GK{xs:Co}{a b:Cu}{x:D}(h:x∈DL.cutD xs a b):x∈xs:=by unfold DL.cutD at h;exact List.mem_of_mem_drop (Jz h)
theorem Fs{ns:Cp}{n:Int}{a b:Cu}{i:Nat}{x:D}(h:(int n::DL.cutD (ns.map int) a b)[i]?=Ci x):∃c:Int,x=.int c:=by
 have hm:=QH h;rcases Qu.mp hm with rfl|hm
 .exact⟨n,rfl⟩
 .obtain⟨c,_,rfl⟩:=QB.mp (GK hm)
  exact⟨c,rfl⟩
theorem Fq{ns:Cp}{n:Int}{a b:Cu}(h:ns.length<=1000):UC (.list [.int n]) (.list (DL.cutD (ns.map int) a b))=Ci (.list (int n::DL.cutD (ns.map int) a b)):=ZY (by
 have:=GL (xs:=ns.map int) (a:=a) (b:=b);rw[Qd]at this;show 1+_<=_
 omega)
def whB:D->Bool
 |.int _=>Cm
 |_=>Cn
def Yb(n:Int):D->Bool
 |.int i=>decide (0<=i)&&decide (i<n)
 |_=>Cn
def whI:D->Cu
 |.int i=>Ci i
 |_=>Ck
theorem RE(d:D):ZS [d]=Ci (.bool (whB d)):=by
 cases d with
 |dict kvs=>exact ZL (Z:=[pb (.dict kvs)]) Cj (UX (XB (t:=Cn) (u:=Cn) (Pb (Ur Cj)) λz=>by cases z) Cj)
 |_=>rfl
theorem Fp(d:D)(n:Int):K6 [d,.int n]=Ci (.bool (Yb n d)):=by
 refine ZL (Z:=[pb d,pb (.int n)]) Cj ?_;unfold Xd;cases d with
 |int i=>exact UX (XB (t:=Cm) (u:=decide (0<=i)&&decide (i<n)) (Kf (Us (Ur Cj) Uy) Cj (RE (.int i))) (λ_=>Kw (Tw Uu (Ur Cj) Cj (λ_=>Ur Cj) (λ_=>rfl)))) Cj
 |_=>exact UX (XB (t:=Cn) (u:=Cn) (Kf (Us (Ur Cj) Uy) Cj (RE _)) (λz=>by cases z)) Cj
theorem OH{n:Int}{d:D}(h:Yb n d=Cm):∃i,d=.int i/\0<=i/\i<n:=by
 cases d with
 |int i=>have h:(decide (0<=i)&&decide (i<n))=Cm:=h;simp only[Qw,QX]at h;exact⟨i,rfl,h⟩
 |_=>cases h
theorem Fo{q:D->Bool}(xs:Co):Zi [.list (xs.map λd=>.bool (q d))]=Ci (.bool (xs.all q)):=by
 have:(xs.map λd=>J8 (q d))=(xs.map q).map J8:=by rw[Jc];rfl
 rw[this,P0]
 congr 2
 rw[JK];rfl
theorem RH{ns:Cp}:∀i,(PyProof.Rows.firstMet (λi=>ns.getD i 0) i).length<=i:=by
 intro i;induction i with
 |zero=>exact Qn _
 |succ i ih=>
  rw[PyProof.Rows.firstMet_succ];unfold PyProof.Rows.step_dedup;split
  .omega
  .rw[Qj,QN];omega
theorem DY{ns:Cp}(h:KP ns=ns.length):ns.Nodup:=by
 unfold KP at h
 have key:∀i,i<=ns.length->(PyProof.Rows.firstMet (λi=>ns.getD i 0) i).length=i->(ns.take i).Nodup:=by
  intro i;induction i with
  |zero=>intro _ _;simp
  |succ i ih=>
   intro hi e;rw[PyProof.Rows.firstMet_succ]at e;unfold PyProof.Rows.step_dedup at e;cases hany:(PyProof.Rows.firstMet (λi=>ns.getD i 0) i).any (· == ns.getD i 0)with
   |true=>rw[hany,Qs Cj]at e;have:=RH (ns:=ns) i;omega
   |false=>
    rw[hany,QM (by decide),Qj]at e;have e:(PyProof.Rows.firstMet (λi=>ns.getD i 0) i).length=i:=by simpa using e
    have ih:=ih (by omega) e;rw[List.take_succ_eq_append_getElem (by omega),List.nodup_append];refine⟨ih,by simp,λa ha b hb=>?_⟩;rw[Qp]at hb;subst hb;rw[PyProof.Rows.firstMet_any,List.any_eq_false]at hany;obtain⟨j,hj,rfl⟩:=List.mem_take_iff_getElem.mp ha;have hj':j<i:=by have:=hj;omega
    have:=hany (ns.getD j 0) (QB.mpr ⟨j,Je.mpr hj',rfl⟩);have l1:j<ns.length:=by omega
    have l2:i<ns.length:=by omega
    simp only[List.getD,Qe l1,Qe l2,JD,beq_iff_eq]at this;exact this
 have:=key ns.length (Qn _) h;rwa[List.take_length]at this
theorem LV{i:Int}(h0:0<=i)(h1:i<1000000000000000000):Vk [.int i]=Ci (.str (toString i)):=by
 unfold Vk;refine Qs ?_;by_cases z:i.natAbs=0
 .rw[z];decide
 .have:i.natAbs<2 ^ 64:=by omega
  have:=(Nat.log2_lt z).mpr this;omega
theorem LU{f g:M Bool}{Z:Ul}{t u:Bool}(h1:f Z=.ok t Z)(h2:t=Cm->g Z=.ok u Z)(h3:t=Cn->u=Cn):K5 f g Z=.ok u Z:=by
 have:=V5 h1 h2;cases t with
 |true=>exact this
 |false=>rw[h3 Cj];exact this
mutual
def hW:D->Bool
 |.none | .bool _=>Cm
 |.int i=>decide (i.natAbs<10 ^ 70)
 |.str z=>Ua z&&decide (z.length<=20)
 |.list xs | .tuple xs=>hWs xs
 |.dict kvs=>hWk kvs
def hWs:Co->Bool
 |[]=>Cm
 |x::xs=>hW x&&hWs xs
def hWk:List (D×D)->Bool
 |[]=>Cm
 |(.str z,v)::r=>Ua z&&(decide (z.length<=20)&&(hW v&&hWk r))
 |(.int i,v)::r=>decide (i.natAbs<10 ^ 70)&&(hW v&&hWk r)
 |_::_=>Cn
end
theorem SS:∀{xs:Co},hWs xs=Cm ↔ ∀x∈xs,hW x=Cm
 |[]=>by simp[hWs]
 |x::r=>by rw[hWs,Bool.and_eq_true,SS (xs:=r)];simp
theorem ED{i:Int}(h:i.natAbs<10 ^ 70):i.natAbs.log2<1920:=by
 by_cases z:i.natAbs=0
 .rw[z];decide
 .have:=(Nat.log2_lt z).mpr (show i.natAbs<2 ^ 240 by
                              have:(10:Nat) ^ 70<2 ^ 240:=by decide +kernel
                              omega)
  omega
theorem Nn{z:Str}(h1:Ua z=Cm)(h2:z.length<=20):(J9 z).leavesShort 80=Cm:=by simp only[PyData.leavesShort,Q3,QX];intro c hc;unfold Ua at h1;rw[←Array.all_toList,Q3]at h1;have:=h1 c hc;simp only[QX]at this;omega
mutual
theorem Vw:∀{d:D},hW d=Cm->Kg d=Cm/\d.showable=Cm/\d.leavesShort 80=Cm
 |.none,_=>⟨rfl,rfl,rfl⟩
 |.bool _,_=>⟨rfl,rfl,rfl⟩
 |.int i,h=>by
  have h:i.natAbs<10 ^ 70:=Qa (by simpa only[hW]using h);refine⟨rfl,?_,?_⟩
  .simp only[PyData.showable,QX]
   exact ED h
  .simp only[PyData.leavesShort,QX]
   show(Uf (toString i)).length<=80
   rw[PySem.ofString_length];have:=PySem.int_text_length_le10 (a:=i) (k:=70) (by decide) h;omega
 |.str z,h=>by
  have h:Ua z=Cm/\z.length<=20:=by simpa[hW]using h
  exact⟨by simpa[Kg]using h.1,rfl,Nn h.1 h.2⟩
 |.list xs,h=>by obtain⟨a,b,c⟩:=hWs_all (xs:=xs) (by simpa[hW]using h);exact⟨by simpa[Kg]using a,by simpa[PyData.showable]using b,by simpa[PyData.leavesShort]using c⟩
 |.tuple xs,h=>by obtain⟨a,b,c⟩:=hWs_all (xs:=xs) (by simpa[hW]using h);exact⟨by simpa[Kg]using a,by simpa[PyData.showable]using b,by simpa[PyData.leavesShort]using c⟩
 |.dict kvs,h=>by obtain⟨a,b,c⟩:=hWk_all (kvs:=kvs) (by simpa[hW]using h);exact⟨by simpa[Kg]using a,by simpa[PyData.showable]using b,by simpa[PyData.leavesShort]using c⟩
theorem hWs_all:∀{xs:Co},hWs xs=Cm->Yl xs=Cm/\PyData.showableAll xs=Cm/\PyData.leavesShortAll 80 xs=Cm
 |[],_=>⟨rfl,rfl,rfl⟩
 |x::r,h=>by rw[hWs,Qw]at h;obtain⟨a,b,c⟩:=Vw h.1;obtain⟨a',b',c'⟩:=hWs_all h.2;exact⟨by rw[Yl,a,a'];rfl,by rw[PyData.showableAll,b,b'];rfl,by rw[PyData.leavesShortAll,c,c'];rfl⟩
theorem hWk_all:∀{kvs:List (D×D)},hWk kvs=Cm->layKv kvs=Cm/\PyData.showableKv kvs=Cm/\PyData.leavesShortKv 80 kvs=Cm
 |[],_=>⟨rfl,rfl,rfl⟩
 |(.str z,v)::r,h=>by
  rw[hWk,Qw,Qw,Qw]at h;obtain⟨h1,h2,h3,h4⟩:=h;have h2:=Qa h2;obtain⟨a,b,c⟩:=Vw h3;obtain⟨a',b',c'⟩:=hWk_all h4;refine⟨?_,?_,?_⟩
  .rw[layKv,a,a'];simp[Z7,h1]
  .rw[PyData.showableKv,b,b'];rfl
  .rw[PyData.leavesShortKv,Nn h1 h2,c,c'];rfl
 |(.none,v)::r,h=>by simp[hWk]at h
 |(.bool _,v)::r,h=>by simp[hWk]at h
 |(.int i,v)::r,h=>by
  rw[hWk,Qw,Qw]at h;obtain⟨h1,h3,h4⟩:=h;have hk:=Vw (d:=.int i) (by rw[hW];exact h1);obtain⟨a,b,c⟩:=Vw h3;obtain⟨a',b',c'⟩:=hWk_all h4;refine⟨?_,?_,?_⟩
  .rw[layKv,a,a'];rfl
  .rw[PyData.showableKv,hk.2.1,b,b'];rfl
  .rw[PyData.leavesShortKv,hk.2.2,c,c'];rfl
 |(.list _,v)::r,h=>by simp[hWk]at h
 |(.tuple _,v)::r,h=>by simp[hWk]at h
 |(.dict _,v)::r,h=>by simp[hWk]at h
end
def Sh(k n:Nat)(d:D):Prop:=hW d=Cm/\d.depth<=k/\d.bulk<=n
theorem Sh.mono{k m n p:Nat}{d:D}(h:Sh k n d)(h1:k<=m)(h2:n<=p):Sh m p d:=⟨h.1,QJ h.2.1 h1,QJ h.2.2 h2⟩
theorem GJ{d:D}{k n:Nat}(h:Sh k n d)(hk:k<=50)(hn:n<=10000):YR [d]=Ci (.str d.shown):=by obtain⟨a,b,c⟩:=Vw h.1;refine Er ⟨a,b,QJ h.2.1 hk,?_⟩;have:=PyData.shown_le_bulk 80 (by decide) d c;have:=h.2.2;omega
theorem Rk{k:Nat}:∀{xs:Co},(∀x∈xs,x.depth<=k)->PyData.depthAll xs<=k
 |[],_=>by simp[PyData.depthAll]
 |x::r,h=>by have h1:=h x Ql;have h2:=Rk (xs:=r) λy hy=>h y (Qo _ hy);simp only[PyData.depthAll];omega
theorem Rg{n:Nat}:∀{xs:Co},(∀x∈xs,x.bulk<=n)->PyData.bulkAll xs<=xs.length*(n+1)
 |[],_=>by simp[PyData.bulkAll]
 |x::r,h=>by have h1:=h x Ql;have h2:=Rg (xs:=r) λy hy=>h y (Qo _ hy);simp only[PyData.bulkAll,QI,Nat.succ_mul];omega
theorem LS{k n m:Nat}{xs:Co}(h:∀x∈xs,Sh k n x)(hl:xs.length<=m):Sh (k+1) (m*(n+1)) (.list xs):=by
 refine⟨by simpa[hW]using SS.mpr λx hx=>(h x hx).1,?_,?_⟩
 .have:=Rk λx hx=>(h x hx).2.1
  simp only[Uc];omega
 .have h1:=Rg λx hx=>(h x hx).2.2
  have h2:xs.length*(n+1)<=m*(n+1):=Nat.mul_le_mul_right _ hl;simp only[PyData.bulk];omega
theorem Ll{k n m:Nat}{xs:Co}(h:∀x∈xs,Sh k n x)(hl:xs.length<=m):Sh (k+1) (m*(n+1)) (.tuple xs):=by
 refine⟨by simpa[hW]using SS.mpr λx hx=>(h x hx).1,?_,?_⟩
 .have:=Rk λx hx=>(h x hx).2.1
  simp only[Uc];omega
 .have h1:=Rg λx hx=>(h x hx).2.2
  have h2:xs.length*(n+1)<=m*(n+1):=Nat.mul_le_mul_right _ hl;simp only[PyData.bulk];omega
theorem Lk{k n:Nat}{i:Int}(h:i.natAbs<10 ^ 70):Sh k n (.int i):=⟨by simpa only[hW]using QS h,by simp[Uc],by simp[PyData.bulk]⟩
theorem Lj{k n:Nat}:Sh k n .none:=⟨rfl,by simp[Uc],by simp[PyData.bulk]⟩
theorem LR{k n:Nat}{b:Bool}:Sh k n (.bool b):=⟨rfl,by simp[Uc],by simp[PyData.bulk]⟩
theorem R5{k n:Nat}{z:Str}(h:Ua z=Cm)(h2:z.length<=20)(h3:z.length<=n):Sh k n (.str z):=⟨by simp[hW,h,h2],by simp[Uc],h3⟩
theorem Li{k n:Nat}:Sh (k+1) n (.dict []):=⟨by simp[hW,hWk],by simp[Uc,PyData.depthKv],by simp[PyData.bulk,PyData.bulkKv]⟩
def Uw(p:Nat×Cu):D:=.tuple [.int (p.1:Nat),Uv p.2]
def Ms(cs:Cp)(ws:LO)(t:Nat):Prop:=∃c,cs[t]?=Ci c/\((ws.count (Ci (t:Int)):Nat):Int)<c
structure WayQ(cs:Cp)(qs:LP)(ws:LO)(W:List (Nat×Cu)):Prop where
 ne:W≠[]
 mv:∀p∈W,∃o,ws[p.1]?=Ci o/\p.2≠o/\∀t,p.2=Ci t->((p.1:Int),t)∈qs
 nd:(W.map Prod.fst).Nodup
 lnk:∀(k:Nat) p q,W[k]?=Ci p->W[k+1]?=Ci q->p.2≠Ck/\ws[q.1]?=Ci p.2
 fin:∀p q,W.head?=Ci p->W.getLast?=Ci q->q.2=Ck∨ws[p.1]?=Ci q.2 ∨ ∃t:Nat,q.2=Ci (t:Int)/\Ms cs ws t
section
variable{cs:Cp}{ls:L3}{ws:LO}{W:List (Nat×Cu)}{qs:LP}
theorem Py{i:Nat}{o:Cu}(h:ws[i]?=Ci o):ws.getD i Ck=o:=by rw[QU,h];rfl
end
def oD:D->Option Cu
 |.none=>Ci Ck
 |.int u=>Ci (Ci u)
 |_=>Ck
theorem WV(o:Cu):oD (Uv o)=Ci o:=by cases o<;>rfl
theorem Mr{t:D}{o:Cu}(h:oD t=Ci o):t=Uv o:=by cases t<;>cases h<;>rfl
def moB(ls:L3)(ws:LO)(i:Nat)(t:D):Bool:=
 match oD t with
 |some o=>!decide (o=ws.getD i Ck)&&o.all (λu=>decide (u∈(ls.getD i []).flatten))
 |none=>Cn
def Zs(ls:L3)(ws:LO):D->Bool
 |.tuple [a,t]=>Yb ls.length a&&moB ls ws ((whI a).getD 0).toNat t
 |_=>Cn
def MvQ(qs:LP)(ws:LO)(p:Nat×Cu):Prop:=∃o,ws[p.1]?=Ci o/\p.2≠o/\∀t,p.2=Ci t->((p.1:Int),t)∈qs
section
variable{cs:Cp}{ls:L3}{ws:LO}{W:List (Nat×Cu)}
theorem Sk(hl:ws.length=ls.length){i:Nat}(hi:i<ls.length){o:Cu}:moB ls ws i (Uv o)=Cm ↔ MvQ (KI 0 ls) ws (i,o):=by
 have hw:ws[i]?=Ci (ws[i]'(by omega)):=Qe _;have hs:ls[i]?=Ci ls[i]:=Qe hi;have e1:ws.getD i Ck=ws[i]'(by omega):=by rw[QU,hw];rfl
 have e2:ls.getD i []=ls[i]:=by rw[QU,hs];rfl
 unfold moB;rw[WV,e1,e2];constructor
 .intro h
  have h:(!decide (o=ws[i]'(by omega))&&o.all (λu=>decide (u∈ls[i].flatten)))=Cm:=h;rw[Qw]at h;refine⟨_,hw,λe=>?_,λt e=>?_⟩
  .rw[QS e]at h;cases h.1
  .have e:o=Ci t:=e
   subst e;have:=Qa (show decide (t∈ls[i].flatten)=Cm from h.2);have:=OI (k:=0) hs this;rw[JJ]at this;exact this
 .rintro⟨o',h1,h2,h3⟩
  rw[hw]at h1;cases h1
  show(!decide (o=ws[i]'(by omega))&&o.all (λu=>decide (u∈ls[i].flatten)))=Cm
  rw[Qz h2];cases o with
  |none=>rfl
  |some t=>
   obtain⟨j,rs,hj,e,hm⟩:=Vy (h3 t Cj);have e:i=j:=by have:((i:Nat):Int)=((0+j:Nat):Int):=e;omega
   subst e;rw[hs]at hj;cases hj;exact QS hm
theorem Px(hl:ws.length=ls.length){p:Nat×Cu}:Zs ls ws (Uw p)=Cm ↔ MvQ (KI 0 ls) ws p:=by
 show((decide ((0:Int)<=(p.1:Nat))&&decide (((p.1:Nat):Int)<ls.length))&&moB ls ws (((p.1:Nat):Int)).toNat (Uv p.2))=Cm ↔ _
 rw[Jb,Qw,Qw,QX,QX];constructor
 .rintro⟨⟨_,h⟩,h2⟩
  exact(Sk hl (by omega)).mp h2
 .intro h
  obtain⟨o,ho,_⟩:=id h;have:=(Qm.mp ho).1;exact⟨⟨by omega,by omega⟩,(Sk hl (by omega)).mpr h⟩
theorem GI{x:D}(h:Zs ls ws x=Cm):∃p,x=Uw p:=by
 cases x with
 |tuple xs=>
  rcases xs with _|⟨a,_|⟨t,_|⟨u,r⟩⟩⟩
  .cases h
  .cases h
  .have h:(Yb ls.length a&&moB ls ws ((whI a).getD 0).toNat t)=Cm:=h
   rw[Qw]at h;obtain⟨i,rfl,h0,_⟩:=OH h.1;have h2:=h.2;unfold moB at h2;cases ho:oD t with
   |none=>rw[ho]at h2;cases h2
   |some o=>refine⟨(i.toNat,o),?_⟩;rw[Mr ho];show _=PyData.tuple [.int ((i.toNat:Nat):Int),Uv o];rw[Int.toNat_of_nonneg h0]
  .cases h
 |_=>cases h
theorem OG(hl:ws.length=ls.length):∀{xs:Co},xs.all (Zs ls ws)=Cm->∃W:List (Nat×Cu),xs=W.map Uw/\∀p∈W,MvQ (KI 0 ls) ws p
 |[],_=>⟨[],rfl,λ_ h=>by cases h⟩
 |x::r,h=>by
  rw[List.all_cons,Qw]at h;obtain⟨p,rfl⟩:=GI h.1;obtain⟨W,rfl,hW⟩:=OG hl h.2;refine⟨p::W,rfl,λq hq=>?_⟩;cases hq with
  |head=>exact(Px hl).mp h.1
  |tail _ hq=>exact hW q hq
theorem DT(g:Good cs ls)(hl:ws.length=ls.length)(x:D):YH [.list (ls.map Ka),U9 ws,x]=Ci (.bool (Zs ls ws x)):=by
 have l7:=g.l7
 let S0:Option Sl:=Ci (.pub (.list (ls.map Ka)))
 let S1:Option Sl:=Ci (.pub (U9 ws))
 let S2:Option Sl:=Ci (.pub x)
 refine ZL (Z:=[S0,S1,S2,Ck,Ck]) Cj ?_;unfold Wp;have hlen:UU [.list (ls.map Ka)]=Ci (.int ls.length):=by rw[Zc,Qd]
 apply Kl;cases x with
 |dict kvs=>exact U5 (b:=Cm) (ZV (Tu (Ur Cj))) (λ_=>UX Uu (Ki Cj)) λz=>by cases z
 |tuple xs=>
  rcases xs with _|⟨a,_|⟨t,_|⟨u,r⟩⟩⟩
  .exact U5 (b:=Cm) (KL (K3 (Ur Cj) Cj) (UB (Km Cj XJ) Uu YU)) (λ_=>UX Uu (Ki Cj)) λz=>by cases z
  .exact U5 (b:=Cm) (KL (K3 (Ur Cj) Cj) (UB (Km Cj XJ) Uu YU)) (λ_=>UX Uu (Ki Cj)) λz=>by cases z
  .refine U5 (b:=Cn) (KL (K3 (Ur Cj) Cj) (UB (Km Cj XJ) Uu YU)) (λz=>by cases z) λ_=>Kt (Kp ?_)
   let S3:Option Sl:=Ci (.pub a)
   let S4:Option Sl:=Ci (.pub t)
   refine UO (Z1:=[S0,S1,S2,S3,S4]) (V4 (Ur Cj) (KQ Cj (U6 (UG (Qa Cj) Cj) (U6 (UG (Qa Cj) Cj) KR)))) ?_;have e0:Zs ls ws (.tuple [a,t])=(Yb ls.length a&&moB ls ws ((whI a).getD 0).toNat t):=rfl;apply Kl;refine U5 (b:=!Yb ls.length a) (Z1:=[S0,S1,S2,S3,S4]) (ZW (Yi (Kf (Us (Ur Cj) (Us (Km Cj hlen) Uy)) Cj (Fp a ls.length)))) (λz=>UX Uu (Ki ?_)) λz=>Kt (Kp ?_)
   .rw[Bool.not_eq_true']at z
    rw[e0,z];rfl
   rw[JH]at z;rw[e0,z,Bool.true_and];obtain⟨i,rfl,h0,h1⟩:=OH z;obtain⟨n,rfl⟩:∃n:Nat,i=n:=⟨i.toNat,by omega⟩
   show Ho _ _ λo=>o=.rt (.bool (moB ls ws (((n:Nat):Int)).toNat t));rw[Jb];have hn:n<ls.length:=by omega
   have hw:ws[n]?=Ci (ws[n]'(by omega)):=Qe _;have hs:ls[n]?=Ci ls[n]:=Qe hn;have hix:oIx (U9 ws) (.int ((n:Nat):Int))=Ci (Uv (ws[n]'(by omega))):=Kh (by rw[Qg,hw];rfl);have hix2:oIx (.list (ls.map Ka)) (.int ((n:Nat):Int))=Ci (Ka ls[n]):=Kh (by rw[Qg,hs];rfl);have e1:ws.getD n Ck=ws[n]'(by omega):=by rw[QU,hw];rfl
   have e2:ls.getD n []=ls[n]:=by rw[QU,hs];rfl
   apply Kl;refine U5 (b:=isNon t) (Z1:=[S0,S1,S2,S3,S4]) (Kw (k:=isNon) (Ur Cj)) (λz=>?_) λz=>Kt (Kp ?_)
   .have ht:t=.none:=by cases t<;>first|rfl|cases z
    subst ht;refine UX (Kw (k:=λd=>J8 (!isNon d)) (U1 Cj (Ur Cj) hix)) (Ki ?_);have:moB ls ws n .none=(!decide (Ck=ws.getD n Ck)&&Cm):=rfl;rw[this,e1,Bool.and_true];cases ws[n]'(by omega)<;>rfl
   .have hm:moB ls ws n t=(whB t&&((oD t).any λo=>!decide (o=ws.getD n Ck)&&o.all (λu=>decide (u∈(ls.getD n []).flatten)))):=by
     unfold moB;cases t<;>first|rfl|cases z
    rw[hm,e1,e2];refine UX (XB (Kf (Us (Ur Cj) Uy) Cj (RE t)) λz2=>?_) Cj;cases t with
    |int u=>
     refine XB (t:=!decide (Ci u=ws[n]'(by omega))) (Kw (Zb Cj (U1 Cj (Ur Cj) hix) (V8 (a:=Ci u)))) λ_=>?_
     have hr:decide ((0:Int)<(YO u ls[n]:Nat))=decide (u∈ls[n].flatten):=by
      by_cases hm:u∈ls[n].flatten
      .rw[QS hm,QS (by have:=EF hm;omega)]
      .rw[Qz hm,Qz (λh=>hm (EE (by omega)))]
     rw[show(Option.all (λu=>decide (u∈ls[n].flatten)) (Ci u))=decide (u∈ls[n].flatten)from rfl,←hr];exact Kw (UB (Kf (Us (U1 Cj (Ur Cj) hix2) (Us (Ur Cj) Uy)) Cj (EG u ls[n])) Uu Cj)
    |_=>cases z2
  .refine U5 (b:=Cm) (KL (K3 (Ur Cj) Cj) (UB (Km Cj XJ) Uu (by rw[YU,Qz (by rw[QI,QI,QI];omega)];rfl))) (λ_=>UX Uu (Ki Cj)) λz=>by cases z
 |_=>exact U5 (b:=Cm) (ZV (K3 (Ur Cj) Cj)) (λ_=>UX Uu (Ki Cj)) λz=>by cases z
def WA(ws:LO)(W:List (Nat×Cu)):Prop:=∀(k:Nat) p q,W[k]?=Ci p->W[k+1]?=Ci q->p.2≠Ck/\ws[q.1]?=Ci p.2
theorem DX(hw:∀p∈W,p.1<ws.length)(hl:W.length<=1000):∃b,YG [U9 ws,.list (W.map Uw)]=Ci (.bool b)/\(b=Cm ↔ WA ws W):=by
 let S0:Option Sl:=Ci (.pub (U9 ws))
 let S1:Option Sl:=Ci (.pub (.list (W.map Uw)))
 have key:∃r,YG [U9 ws,.list (W.map Uw)]=Ci r/\∃b,r=.bool b/\(b=Cm ↔ WA ws W):=by
  refine WW (Z:=[S0,S1,Ck,Ck]) Cj ?_;unfold Wo;have hlen:UU [.list (W.map Uw)]=Ci (.int W.length):=by rw[Zc,Qd]
  apply Kl;apply Ye (λi Z=>(∃x2 x3,Z=[S0,S1,x2,x3])/\∀(k:Nat) p q,k<i->W[k]?=Ci p->W[k+1]?=Ci q->p.2≠Ck/\ws[q.1]?=Ci p.2)
  case h1=>exact SE (Us Uu (Us (Km Cj hlen) Uy)) (Rs (by omega) (by omega) (by omega) (by omega))
  case h0=>exact⟨⟨_,_,rfl⟩,λk _ _ h=>absurd h (Nat.not_lt_zero k)⟩
  case hst=>
   rintro k d Z hk ⟨⟨x2,x3,rfl⟩,hin⟩;obtain⟨rfl,Bv⟩:=XH hk;have B7:k+1<W.length:=by omega
   have hp:W[k]?=Ci W[k]:=Qe _;have hq:W[k+1]?=Ci W[k+1]:=Qe B7;have e1:(1:Int)+(k:Nat)=((k+1:Nat):Int):=by omega
   refine⟨_,UG (Qa Cj) Cj,?_⟩;rw[e1];unfold P6
   have C6:oIx (.list (W.map Uw)) (.int (((k+1:Nat):Int)-1))=Ci (Uw W[k]):=by
    have e:(((k+1:Nat):Int)-1)=((k:Nat):Int):=by omega
    rw[e];exact Kh (by rw[Qg,hp];rfl)
   have Bh:oIx (.list (W.map Uw)) (.int ((k+1:Nat):Int))=Ci (Uw W[k+1]):=Kh (by rw[Qg,hq];rfl);have CI:=hw W[k+1] (QT _);have BB:ws[(W[k+1]).1]?=Ci (ws[(W[k+1]).1]'(CI)):=Qe _;have CW:oIx (U9 ws) (.int (((W[k+1]).1:Nat):Int))=Ci (Uv (ws[(W[k+1]).1]'(CI))):=Kh (by rw[Qg,BB];rfl)
   let S2:Option Sl:=Ci (.pub (.int ((k+1:Nat):Int)))
   let S3:Option Sl:=Ci (.pub (Uv (W[k]).2))
   refine UO (Z1:=[S0,S1,S2,S3]) (KF (UB (U1 Cj (UB (Ur Cj) Uu WY) C6) Uu (show oIx (Uw W[k]) (.int 1)=Ci (Uv (W[k]).2)from rfl)) (Qa Cj) Cj) ?_;refine U5 (b:=isNon (Uv (W[k]).2) || !decide (ws[(W[k+1]).1]'(CI)=(W[k]).2)) (Z1:=[S0,S1,S2,S3]) (WG (Kw (k:=isNon) (Ur Cj)) λ_=>UB (U1 Cj (UB (U1 Cj (Ur Cj) Bh) Uu (show oIx (Uw W[k+1]) (.int 0)=Ci (.int ((W[k+1]).1:Nat))from rfl)) CW) (Ur Cj) V8) (λz=>UX Uu (Yh ?_)) λz=>Kt (ZI ⟨⟨_,_,rfl⟩,?_⟩)
   .refine⟨_,rfl,Cn,rfl,λh=>(by cases h),λh=>?_⟩
    obtain⟨h1,h2⟩:=h k _ _ hp hq;rw[BB]at h2;rw[QS (QA h2)]at z;cases h3:(W[k]).2 with
    |none=>exact absurd h3 h1
    |some t=>rw[h3]at z;cases z
   .rw[Jp]at z
    intro j p q hj Bl BC;by_cases e:j=k
    .subst e
     rw[hp]at Bl;rw[hq]at BC;cases Bl;cases BC;refine⟨λe=>?_,?_⟩
     .rw[e]at z;cases z.1
     .rw[BB]
      by_cases e:ws[(W[j+1]).1]'(CI)=(W[j]).2
      .exact JQ Ci e
      .rw[Qz e]at z;cases z.2
    .exact hin j p q (by omega) Bl BC
  case hend=>rintro Z ⟨⟨x2,x3,rfl⟩,hin⟩;refine Kp (UX Uu ⟨_,rfl,Cm,rfl,λ_=>?_,λ_=>rfl⟩);intro k p q hp hq;refine hin k p q ?_ hp hq;have:=(Qm.mp hq).1;rw[Yv];omega
 obtain⟨r,h,b,rfl,hb⟩:=key;exact⟨b,h,hb⟩
def IsW(cs:Cp)(ls:L3)(ws:LO)(d:D):Prop:=∃W,d=.list (W.map Uw)/\WayQ cs (KI 0 ls) ws W
theorem Rf{W U:List (Nat×Cu)}(h:W.map Uw=U.map Uw):W=U:=by
 refine List.map_inj_right (f:=Uw) (λp q e=>?_) |>.mp h
 obtain⟨a,x⟩:=p;obtain⟨b,y⟩:=q;have e:PyData.tuple [.int (a:Nat),Uv x]=.tuple [.int (b:Nat),Uv y]:=e;injection e with e;injection e with e1 e2;injection e1 with e1;injection e2 with e2
 have:x=y:=by have:=JQ oD e2;rw[WV,WV]at this;exact QA this
 rw[this,Int.ofNat.inj e1]
theorem EC(g:Good cs ls)(hl:ws.length=ls.length){d:D}(hs:∀xs,d=.list xs->xs.length<=1000):∃b,YF [Kc cs ls,U9 ws,d]=Ci (.bool b)/\(b=Cm ↔ IsW cs ls ws d):=by
 have l7:=g.l7
 let S0:Option Sl:=Ci (.pub (Kc cs ls))
 let S1:Option Sl:=Ci (.pub (U9 ws))
 let S2:Option Sl:=Ci (.pub d)
 let S3:Option Sl:=Ci (.pub (.list ((XT cs ws).map int)))
 have key:∃r,YF [Kc cs ls,U9 ws,d]=Ci r/\∃b,r=.bool b/\(b=Cm ↔ IsW cs ls ws d):=by
  refine WW (Z:=[S0,S1,S2,Ck,Ck]) Cj ?_;unfold Wn;refine UO (Z1:=[S0,S1,S2,S3,Ck]) (KF (Kf (Us (Ur Cj) (Us (Ur Cj) Uy)) Cj (D0 g)) (Qa Cj) Cj) ?_;have no:∀{d:D},(¬IsW cs ls ws d)->∃d1:D,Out.rt (.bool Cn)=.rt d1/\∃b,d1=.bool b/\(b=Cm ↔ IsW cs ls ws d):=λh=>⟨_,rfl,Cn,rfl,(λz=>by cases z),λz=>absurd z h⟩
  apply Kl;cases d with
  |dict kvs=>exact U5 (b:=Cm) (ZV (Tu (Ur Cj))) (λ_=>UX Uu (Ki (no λ⟨W,e,_⟩=>by cases e))) λz=>by cases z
  |list xs=>
   have hx:=hs xs Cj;have hlen:UU [.list xs]=Ci (.int xs.length):=Zc;refine U5 (b:=decide ((xs.length:Int)=0)) (Z1:=[S0,S1,S2,S3,Ck]) (KL (K3 (Ur Cj) Cj) (UB (Km Cj hlen) Uu Tk)) (λz=>UX Uu (Ki (no λ⟨W,e,hW⟩=>hW.ne ?_))) λz=>Kt (Kp ?_)
   .have:=Qa z
    injection e with e;rw[e,Qd]at this;exact List.length_eq_zero_iff.mp (by omega)
   have hne:xs≠[]:=λe=>by rw[e]at z;cases z
   apply Kl;have hc:Ke (gN 5) (Uq Cm) (UF 3 YH (Up (Uz 0 (Uq (.int 1))) (Up (Uk 1) (Up (Uk 5) (Um))))) xs (UL [S0,S1,S2,S3,Ck]++J6 1 Ck) []=Ci (xs.map λx=>.bool (Zs ls ws x)):=by refine W7 (λZ=>∃x,Z=[S0,S1,S2,S3,Ck,x]) _ _ _ _ (by rw[Qd]) ?_ ⟨Ck,rfl⟩ (by rw[Q0];omega);rintro j y e hj he Z ⟨x,rfl⟩;rw[Qg,hj]at he;cases he;exact⟨_,UG (Qa Cj) Cj,rfl,Kf (Us (U1 Cj Uu Mt) (Us (Ur Cj) (Us (Ur Cj) Uy))) Cj (DT g hl y),_,rfl⟩
   refine U5 (b:=!xs.all (Zs ls ws)) (Z1:=[S0,S1,S2,S3,Ck]) (ZW (Yi (ZJ (Us (Kw (Yp (ZX (Ur Cj) Y7) hc)) Uy) (Fo xs)))) (λz=>UX Uu (Ki (no λ⟨W,e,hW⟩=>?_))) λz=>Kt (Kp ?_)
   .injection e with e
    subst e;rw[Bool.not_eq_true']at z;have:(W.map Uw).all (Zs ls ws)=Cm:=List.all_eq_true.mpr λx hx=>by obtain⟨p,hp,rfl⟩:=QB.mp hx;exact(Px hl).mpr (hW.mv p hp)
    rw[this]at z;cases z
   rw[JH]at z;obtain⟨W,rfl,C5⟩:=OG hl z;rw[Qd]at hx;have CZ:W≠[]:=λe=>hne (by rw[e];rfl)
   have hlt:∀p∈W,p.1<ws.length:=λp hp=>by obtain⟨o,ho,_⟩:=C5 p hp;exact(Qm.mp ho).1
   have isw:IsW cs ls ws (.list (W.map Uw)) ↔ WayQ cs (KI 0 ls) ws W:=⟨λ⟨U,e,hU⟩=>by injection e with e;rw[Rf e];exact hU,λh=>⟨W,rfl,h⟩⟩
   let ns:Cp:=W.map λp=>((p.1:Nat):Int)
   have hnl:ns.length=W.length:=Qd _
   have hnd:ns.Nodup ↔ (W.map Prod.fst).Nodup:=by
    have e:ns=(W.map Prod.fst).map λn:Nat=>(n:Int):=by rw[Jc];rfl
    rw[e];exact⟨λh=>(List.pairwise_map.mp h).imp λh e=>h (by rw[e]),λh=>List.Pairwise.map _ (λa b h e=>h (by omega)) h⟩
   have hc2:Ke (gT 2 (gNC (gN 5) (gNC (gN 6) (gN0)))) (Uq Cm) (Uk 5) (W.map Uw) (UL [S0,S1,S2,S3,Ck]++J6 2 Ck) []=Ci (ns.map int):=by
    refine W7 (λZ=>∃x y,Z=[S0,S1,S2,S3,Ck,x,y]) _ _ _ _ (by rw[Qd,Qd,Qd]) ?_ ⟨Ck,Ck,rfl⟩ (by rw[Qd,Q0];omega);rintro j y e hj he Z ⟨x,y',rfl⟩;rw[Qg]at hj;rw[Qg,Qg]at he;cases hp:W[j]? with
    |none=>rw[hp]at hj;cases hj
    |some p=>
    rw[hp]at hj he;cases hj;cases he;exact⟨_,KQ Cj (U6 (UG (Qa Cj) Cj) (U6 (UG (Qa Cj) Cj) KR)),rfl,Ur Cj,_,_,rfl⟩
   have hun:decide (((KP ns:Nat):Int)=((W.map Uw).length:Nat))=decide (W.map Prod.fst).Nodup:=by
    rw[Qd,←hnl];by_cases h:(W.map Prod.fst).Nodup
    .rw[QS h,Nx (hnd.mpr h),QS Cj]
    .rw[Qz h,Qz (λe=>h (hnd.mp (DY (by omega))))]
   obtain⟨lb,hlb,hlk⟩:=DX hlt hx;apply Kl;refine U5 (b:=!decide (W.map Prod.fst).Nodup || !lb) (Z1:=[S0,S1,S2,S3,Ck]) (WG (UB (GS (Yp (ZX (Ur Cj) Y7) hc2) (by omega)) (Km Cj hlen) (by rw[YU,hun])) λ_=>ZW (Yi (Kf (Us (Ur Cj) (Us (Ur Cj) Uy)) Cj hlb))) (λz=>UX Uu (Ki (no λh=>?_))) λz=>Kt (Kp ?_)
   .have h:=isw.mp h
    rw[QS h.nd,hlk.mpr h.lnk]at z;cases z
   rw[Jp,JH,JH]at z;have nd:=Qa z.1;have lnk:=hlk.mp z.2
   obtain⟨p0,r0,BM⟩:∃p r,W=p::r:=by
    cases hW':W with
    |nil=>exact absurd hW' CZ
    |cons x r=>exact⟨x,r,rfl⟩
   obtain⟨q,Bq⟩:∃q,W.getLast?=Ci q:=by
    cases h:W.getLast? with
    |none=>exact absurd (List.getLast?_eq_none_iff.mp h) CZ
    |some q=>exact⟨q,rfl⟩
   have B9:W.head?=Ci p0:=by rw[BM];rfl
   have hqm:q∈W:=List.mem_of_getLast? Bq;have hpm:p0∈W:=by rw[BM];exact Ql
   have BG:oIx (.list (W.map Uw)) (.int (-1))=Ci (Uw q):=SZ (by rw[List.getLast?_map,Bq];rfl);have BH:oIx (.list (W.map Uw)) (.int 0)=Ci (Uw p0):=Kh (j:=0) (by rw[BM];rfl)
   let S4:Option Sl:=Ci (.pub (Uv q.2))
   refine UO (Z1:=[S0,S1,S2,S3,S4]) (KF (UB (U1 Cj (XA Uu) BG) Uu (show oIx (Uw q) (.int 1)=Ci (Uv q.2)from rfl)) (Qa Cj) Cj) ?_;obtain⟨o0,BD,_⟩:=C5 p0 hpm;have CW:oIx (U9 ws) (.int ((p0.1:Nat):Int))=Ci (Uv o0):=Kh (by rw[Qg,BD];rfl);have tw:UA J8 (Uo oEq (Uz 1 (Uo oIx (Uz 2 (Uq (.int 0))) (Uq (.int 0)))) (Uk 4)) [S0,S1,S2,S3,S4]=.ok (.bool (decide (o0=q.2))) [S0,S1,S2,S3,S4]:=Kw (UB (U1 Cj (UB (U1 Cj Uu BH) Uu (show oIx (Uw p0) (.int 0)=Ci (.int (p0.1:Nat))from rfl)) CW) (Ur Cj) Vx);have Bf:∀{p' q':Nat×Cu},W.head?=Ci p'->W.getLast?=Ci q'->p'=p0/\q'=q:=λh1 h2=>by rw[B9]at h1;rw[Bq]at h2;exact⟨(QA h1).symm,(QA h2).symm⟩
   cases hq2:q.2 with
   |none=>refine UX (Sq (t:=Cm) (u:=Cm) (Kw (k:=λd=>J8 (isNon d)) (x:=Uv q.2) (Ur Cj) |>.trans (by rw[hq2];rfl)) λz=>by cases z) ⟨_,rfl,Cm,rfl,λ_=>isw.mpr ⟨CZ,C5,nd,lnk,λp' q' h1 h2=>?_⟩,λ_=>rfl⟩;obtain⟨rfl,rfl⟩:=Bf h1 h2;exact .inl hq2
   |some t=>
    obtain⟨_,_,_,hqq⟩:=C5 q hqm;obtain⟨i,rs,hi,_,hmem⟩:=Vy (hqq t hq2);obtain⟨r,hr1,CV⟩:=Jo.mp hmem;have hr:=(g.rk rs (QH hi)).there r hr1 t CV;obtain⟨n,rfl⟩:∃n:Nat,t=n:=⟨t.toNat,by omega⟩
    have hn:n<cs.length:=by omega
    have hixl:oIx (.list ((XT cs ws).map int)) (.int ((n:Nat):Int))=Ci (.int (cs[n]-((ws.count (Ci (n:Int)):Nat):Int))):=Kh (by
     unfold XT;rw[Qg,Qg,List.getElem?_range hn];show Ci (int (cs.getD n 0-_))=_;rw[QU,Qe hn]
     rfl)
    refine UX (Sq (t:=Cn) (u:=decide (0<cs[n]-((ws.count (Ci (n:Int)):Nat):Int)) || decide (o0=q.2)) (Kw (k:=λd=>J8 (isNon d)) (x:=Uv q.2) (Ur Cj) |>.trans (by rw[hq2];rfl)) λ_=>Sq (Kw (UB (U1 Cj (Ur Cj) (by rw[hq2];exact hixl)) Uu YS)) λ_=>tw) ⟨_,rfl,_,rfl,?_⟩;rw[Bool.false_or,Bool.or_eq_true,QX,QX,isw];constructor
    .intro h
     refine⟨CZ,C5,nd,lnk,λp' q' h1 h2=>?_⟩;obtain⟨rfl,rfl⟩:=Bf h1 h2;rcases h with h|h
     .exact .inr (.inr ⟨n,hq2,_,Qe hn,by omega⟩)
     .exact .inr (.inl (by rw[BD,h]))
    .intro h
     rcases h.fin p0 q B9 Bq with e|e|⟨t',e,c,hc,hlt⟩
     .rw[hq2]at e;cases e
     .rw[BD]at e
      exact .inr (QA e)
     .rw[hq2]at e
      have e:n=t':=by have:=QA e;omega
      subst e;rw[Qe hn]at hc;cases hc;exact .inl (by omega)
  |_=>exact U5 (b:=Cm) (ZV (K3 (Ur Cj) Cj)) (λ_=>UX Uu (Ki (no λ⟨W,e,_⟩=>by cases e))) λz=>by cases z
 obtain⟨r,h,b,rfl,hb⟩:=key;exact⟨b,h,hb⟩
end
def SmI(x:D):Prop:=∀a t,x=.tuple [a,t]->t.canLay0=Cm/\t.depth<=60
section
variable{cs:Cp}{ls:L3}{ws:LO}{W:List (Nat×Cu)}
theorem Pw(d:D):YE [d]=Ci (.bool (whB d)):=by
 cases d with
 |dict kvs=>exact ZL (Z:=[pb (.dict kvs)]) Cj (UX (XB (t:=Cn) (u:=Cn) (Pb (Ur Cj)) λz=>by cases z) Cj)
 |_=>rfl
theorem GH{t:D}{o:Cu}(h:t.canLay0=Cm/\t.depth<=60):∃b,oEq t (Uv o)=Ci b:=by unfold oEq;exact⟨_,Qs ⟨h.1,by cases o<;>rfl,h.2⟩⟩
theorem DH(g:Good cs ls)(hl:ws.length=ls.length){d:D}(hs:∀xs,d=.list xs->xs.length<=1000/\∀x∈xs,SmI x):∃b,YD [Kc cs ls,U9 ws,d]=Ci (.bool b)/\(b=Cm ↔ IsW cs ls ws d):=by
 have l7:=g.l7;have c6:=g.c6
 let S0:Option Sl:=Ci (.pub (Kc cs ls))
 let S1:Option Sl:=Ci (.pub (U9 ws))
 let S2:Option Sl:=Ci (.pub d)
 have CH:UU [U9 ws]=Ci (.int ws.length):=by unfold U9;rw[Zc,Qd]
 have key:∃r,YD [Kc cs ls,U9 ws,d]=Ci r/\∃b,r=.bool b/\(b=Cm ↔ IsW cs ls ws d):=by
  refine WW (Z:=[S0,S1,S2,Ck,Ck,Ck,Ck,Ck,Ck]) Cj ?_;unfold Wk;have no:∀{d:D},(¬IsW cs ls ws d)->∃d1:D,Out.rt (.bool Cn)=.rt d1/\∃b,d1=.bool b/\(b=Cm ↔ IsW cs ls ws d):=λh=>⟨_,rfl,Cn,rfl,(λz=>by cases z),λz=>absurd z h⟩
  apply Kl;cases d with
  |dict kvs=>exact U5 (b:=Cm) (ZV (Tu (Ur Cj))) (λ_=>UX Uu (Ki (no λ⟨W,e,_⟩=>by cases e))) λz=>by cases z
  |list xs=>
   obtain⟨hx,hsm⟩:=hs xs Cj;have hlen:UU [.list xs]=Ci (.int xs.length):=Zc;refine U5 (b:=xs.isEmpty) (Z1:=[S0,S1,S2,Ck,Ck,Ck,Ck,Ck,Ck]) (KL (K3 (Ur Cj) Cj) (Zb Cj (Kv Uy (Qa Cj)) Gz)) (λz=>UX Uu (Ki (no λ⟨W,e,hW⟩=>hW.ne ?_))) λz=>Kt (Kp ?_)
   .injection e with e
    rw[List.isEmpty_iff]at z;rw[z]at e;exact List.map_eq_nil_iff.mp e.symm
   have hne:xs≠[]:=λe=>by rw[e]at z;cases z
   refine UO (Z1:=[S0,S1,S2,Ci (.own []),Ck,Ck,Ck,Ck,Ck]) (Zr (X6 Uy (Qa Cj)) (Qa Cj) Cj) ?_;apply Kl;apply Ye (λk Z=>∃(W:List (Nat×Cu))(x4 x5 x6:Option Sl),Z=[S0,S1,S2,Ci (.own ((W.map λp=>((p.1:Nat):Int)).map int)),x4,x5,x6,Ck,Ck]/\xs.take k=W.map Uw/\(∀p∈W,MvQ (KI 0 ls) ws p)/\(W.map Prod.fst).Nodup)
   case h1=>exact ZX (Ur Cj) Y7
   case h0=>exact⟨[],Ck,Ck,Ck,rfl,rfl,λ_ h=>(by cases h),List.nodup_nil⟩
   case hst=>
    rintro k x Z hk ⟨W,x4,x5,x6,rfl,htk,C5,hnd⟩;have Bv:k<xs.length:=(Qm.mp hk).1;have hxm:x∈xs:=QH hk;have hta:xs.take (k+1)=xs.take k++[x]:=by rw[List.take_succ,hk];rfl
    have BV:W.length=k:=by have:=JQ List.length htk;rw[Ji,Qd]at this;omega
    let A:Cp:=W.map λp=>((p.1:Nat):Int)
    let SA:Option Sl:=Ci (.own (A.map int))
    let S4:Option Sl:=Ci (.pub x)
    refine⟨_,UG (Qa Cj) Cj,?_⟩;unfold P7
    have it:IsW cs ls ws (.list xs)->∃p,x=Uw p/\MvQ (KI 0 ls) ws p/\p.1∉W.map Prod.fst:=λ⟨U,e,hU⟩=>by
     injection e with e;rw[e,Qg]at hk
     cases hp:U[k]? with
     |none=>rw[hp]at hk;cases hk
     |some p=>
      rw[hp]at hk;cases hk;refine⟨p,rfl,hU.mv p (QH hp),λhm=>?_⟩;have hWU:W=U.take k:=Rf (by rw[←htk,e,List.map_take]);have:(U.map Prod.fst)[k]?=Ci p.1:=by rw[Qg,hp];rfl
      rw[hWU,List.map_take]at hm;obtain⟨j,hj⟩:=List.mem_iff_getElem?.mp hm;have hjk:j<k:=by have:=(Qm.mp hj).1;rw[Ji]at this;omega
      rw[List.getElem?_take_of_lt hjk]at hj;obtain⟨l1,e1⟩:=Qm.mp hj;obtain⟨l2,e2⟩:=Qm.mp this;have:=(List.getElem_inj hU.nd).mp (e1.trans e2.symm);omega
    cases x with
    |dict kvs=>apply Kl;exact U5 (b:=Cm) (ZV (Tu (Ur Cj))) (λ_=>UX Uu (Ki (Yh (Ki (no λh=>by obtain⟨p,e,_⟩:=it h;cases e))))) λz=>by cases z
    |tuple ys=>
     apply Kl;rcases ys with _|⟨a,_|⟨t,_|⟨u,r⟩⟩⟩
     .exact U5 (b:=Cm) (KL (K3 (Ur Cj) Cj) (ZV (UB (Km Cj XJ) Uu YU))) (λ_=>UX Uu (Ki (Yh (Ki (no λh=>by obtain⟨p,e,_⟩:=it h;cases e))))) λz=>by cases z
     .exact U5 (b:=Cm) (KL (K3 (Ur Cj) Cj) (ZV (UB (Km Cj XJ) Uu YU))) (λ_=>UX Uu (Ki (Yh (Ki (no λh=>by obtain⟨p,e,_⟩:=it h;cases e))))) λz=>by cases z
     .refine U5 (b:=!whB a) (KL (K3 (Ur Cj) Cj) (KL (UB (Km Cj XJ) Uu YU) (ZW (Yi (Kf (Us (U1 Cj Uu (show oIx (.tuple [a,t]) (.int 0)=Ci a from rfl)) Uy) Cj (Pw a)))))) (λz=>UX Uu (Ki (Yh (Ki (no λh=>?_))))) λz=>Kt (Kp ?_)
      .obtain⟨p,e,_⟩:=it h
       injection e with e;injection e with e _;rw[e]at z;cases z
      cases a with
      |int i=>
       let S5:Option Sl:=Ci (.pub (.int i))
       let S6:Option Sl:=Ci (.pub t)
       let R:Ul:=[S0,S1,S2,SA,S4,S5,S6,Ck,Ck]
       refine UO (Z1:=R) (V4 (Ur Cj) (KQ Cj (U6 (UG (Qa Cj) Cj) (U6 (UG (Qa Cj) Cj) KR)))) ?_;obtain⟨sm1,sm2⟩:=hsm _ hxm _ _ Cj
       have key2:∃b,mOr (Kz (oIB λi j=>decide (i<j)) 5 (Uq (.int 0))) (mOr (Kz (oIB λi j=>decide (j<=i)) 5 (Kn 1)) (mOr (WF oIn (Uk 5) 3) (Kz oEq 6 (Uz 1 (Uk 5))))) R=.ok b R/\(b=Cm->¬IsW cs ls ws (.list xs))/\(b=Cn->∃n:Nat,i=n/\n<ws.length/\n∉W.map Prod.fst/\∀o,t=Uv o->o≠ws.getD n Ck):=by
        by_cases h1:i<0
        .refine⟨Cm,ZV (Zb Cj Uu (by rw[YS,QS h1])),λ_ h=>?_,λz=>by cases z⟩
         obtain⟨p,e,_⟩:=it h;injection e with e;injection e with e _;injection e with e;omega
        obtain⟨n,rfl⟩:∃n:Nat,i=n:=⟨i.toNat,by omega⟩
        by_cases h2:(ws.length:Int)<=n
        .refine⟨Cm,KL (Zb Cj Uu (by rw[YS,Qz h1])) (ZV (Zb Cj (Km Cj CH) (by rw[YS,QS h2]))),λ_ h=>?_,λz=>by cases z⟩
         obtain⟨p,e,⟨o,ho,_⟩,_⟩:=it h;injection e with e;injection e with e _;injection e with e
         have:=(Qm.mp ho).1;omega
        by_cases h3:A.contains (n:Int)=Cm
        .refine⟨Cm,KL (Zb Cj Uu (by rw[YS,Qz h1])) (KL (Zb Cj (Km Cj CH) (by rw[YS,Qz h2])) (ZV (Ov (Ur Cj) Cj (by rw[Tj,h3])))),λ_ h=>?_,λz=>by cases z⟩
         obtain⟨p,e,_,hp⟩:=it h;injection e with e;injection e with e _;injection e with e;have e:n=p.1:=by omega
         subst e;obtain⟨q,hq,e⟩:=List.mem_map.mp (show((p.1:Nat):Int)∈A by simpa using h3);exact hp (QB.mpr ⟨q,hq,by omega⟩)
        have hn:n<ws.length:=by omega
        have hw:ws[n]?=Ci ws[n]:=Qe hn;have hix:oIx (U9 ws) (.int ((n:Nat):Int))=Ci (Uv ws[n]):=Kh (by rw[Qg,hw];rfl);obtain⟨b,hb⟩:=GH (o:=ws[n]) ⟨sm1,sm2⟩;refine⟨b,KL (Zb Cj Uu (by rw[YS,decide_eq_false h1])) (KL (Zb Cj (Km Cj CH) (by rw[YS,decide_eq_false h2])) (KL (Ov (Ur Cj) Cj (by rw[Tj];simpa using h3)) (Zb Cj (U1 Cj (Ur Cj) hix) hb))),λzb h=>?_,λzb=>⟨n,rfl,hn,λhm=>h3 ?_,λo e=>?_⟩⟩
        .obtain⟨p,e,⟨o,ho,hne,_⟩,_⟩:=it h
         injection e with e;injection e with e e2;injection e with e;injection e2 with e2;have e:n=p.1:=by omega
         subst e;rw[e2,Vx,zb]at hb;rw[hw]at ho;cases ho;exact hne (Qa (QA hb))
        .obtain⟨q,hq,e⟩:=QB.mp hm
         have:((n:Nat):Int)∈A:=QB.mpr ⟨q,hq,by omega⟩;simpa using this
        .rw[e,Vx,zb]at hb
         rw[Py hw];exact Ju (QA hb)
       obtain⟨b2,hb2,hT,hF⟩:=key2;apply Kl;refine U5 hb2 (λz=>UX Uu (Ki (Yh (Ki (no (hT z)))))) λz=>Kt (Kp ?_)
       obtain⟨n,rfl,hn,hnm,ho⟩:=hF z;have nn:UA (λd=>!isNon d) (Uk 6) R=.ok (!isNon t) R:=T4 (Ur Cj) Cj;have hnl:n<ls.length:=by omega
       have hs':ls[n]?=Ci ls[n]:=Qe hnl;apply Kl;refine U5 (b:=!isNon t && !whB t) (Z1:=R) (V5 nn λ_=>ZW (Yi (Kf (Us (Ur Cj) Uy) Cj (Pw t)))) (λz=>UX Uu (Ki (Yh (Ki (no λh=>?_))))) λz=>Kt (Kp ?_)
       .obtain⟨p,e,_⟩:=it h
        injection e with e;injection e with _ e;injection e with e;rw[e]at z
        cases h2:p.2<;>rw[h2]at z<;>cases z
       obtain⟨o,rfl⟩:∃o,t=Uv o:=by
        cases t with
        |none=>exact⟨Ck,rfl⟩
        |int u=>exact⟨Ci u,rfl⟩
        |_=>cases z
       have hfl:ls[n].flatten.length<64:=by have:=Vz (g.rk ls[n] (QT hnl));omega
       apply Kl;refine U5 (b:=!o.all λu=>decide (u∈ls[n].flatten)) (Z1:=R) (LU nn (λz=>?_) λz=>?_) (λz=>UX Uu (Ki (Yh (Ki (no λh=>?_))))) λz=>Kt (Kp ?_)
       .cases o with
        |none=>cases z
        |some u=>exact Zb Cj (Kf (Us (Ur Cj) (Us (Ur Cj) Uy)) Cj (RF hs' hfl)) (by
          show ZN (.int u) _=_;unfold ZN;rw[Tj];show Ci (!(Ze ls[n].flatten).contains u)=Ci (!decide (u∈ls[n].flatten))
          congr 2
          rw[JN,QX,List.contains_iff_mem];exact(Yu ls[n].flatten).mem_iff)
       .cases o with
        |none=>rfl
        |some u=>cases z
       .obtain⟨p,e,⟨o',ho',_,hq⟩,_⟩:=it h
        injection e with e;injection e with e e2;injection e with e;injection e2 with e2;have e:n=p.1:=by omega
        subst e;have e2:o=p.2:=by have:=JQ oD e2;rw[WV,WV]at this;exact QA this
        subst e2;cases h2:p.2 with
        |none=>rw[h2]at z;cases z
        |some u=>
         obtain⟨j,rs,hj,e,hm⟩:=Vy (hq u h2);have e:p.1=j:=by have:((p.1:Nat):Int)=((0+j:Nat):Int):=e;omega
         subst e;rw[hs']at hj;cases hj;rw[h2]at z;have z:(!decide (u∈ls[p.1].flatten))=Cm:=z;rw[QS hm]at z;cases z
       have hmn:MvQ (KI 0 ls) ws (n,o):=(Sk hl hnl).mp (by
        unfold moB;rw[WV]
        show(!decide (o=ws.getD n Ck)&&o.all λu=>decide (u∈(ls.getD n []).flatten))=Cm
        rw[Qz (ho o Cj),QU,hs'];rw[JH]at z;exact z)
       refine YV (XX Cj (Ur Cj) Cj (by rw[Qd,Qd];omega) Cj) (ZI ⟨W++[(n,o)],S4,S5,S6,?_,?_,λp hp=>?_,?_⟩)
       .rw[Q4,Q4];rfl
       .rw[hta,htk,Q4];rfl
       .rcases QC.mp hp with hp|hp
        .exact C5 p hp
        .cases Qp.mp hp;exact hmn
       .rw[Q4]
        exact Q6.mpr ⟨hnd,Jj.mpr ⟨(λh=>by cases h),List.nodup_nil⟩,λa ha b hb e=>by cases Qp.mp hb;have e:a=n:=e;subst e;exact hnm ha⟩
      |_=>cases z
     .exact U5 (b:=Cm) (KL (K3 (Ur Cj) Cj) (ZV (UB (Km Cj XJ) Uu (by rw[YU,Qz (by rw[QI,QI,QI];omega)];rfl)))) (λ_=>UX Uu (Ki (Yh (Ki (no λh=>by obtain⟨p,e,_⟩:=it h;cases e))))) λz=>by cases z
    |_=>apply Kl;exact U5 (b:=Cm) (ZV (K3 (Ur Cj) Cj)) (λ_=>UX Uu (Ki (Yh (Ki (no λh=>by obtain⟨p,e,_⟩:=it h;cases e))))) λz=>by cases z
   case hend=>
    rintro Z ⟨W,x4,x5,x6,rfl,htk,C5,hnd⟩;refine Kp ?_;rw[List.take_length]at htk;subst htk;rw[Qd]at hx;have CZ:W≠[]:=λe=>hne (by rw[e];rfl)
    have hlt:∀p∈W,p.1<ws.length:=λp hp=>by obtain⟨o,ho,_⟩:=C5 p hp;exact(Qm.mp ho).1
    have isw:IsW cs ls ws (.list (W.map Uw)) ↔ WayQ cs (KI 0 ls) ws W:=⟨λ⟨U,e,hU⟩=>by injection e with e;rw[Rf e];exact hU,λh=>⟨W,rfl,h⟩⟩
    let SA:Option Sl:=Ci (.own ((W.map λp=>((p.1:Nat):Int)).map int))
    have B6:UU [.list (W.map Uw)]=Ci (.int W.length):=by rw[Zc,Qd]
    apply Kl;apply Ye (λi Z=>(∃x7,Z=[S0,S1,S2,SA,x4,x5,x6,x7,Ck])/\∀(k:Nat) p q,k<i->W[k]?=Ci p->W[k+1]?=Ci q->p.2≠Ck/\ws[q.1]?=Ci p.2)
    case h1=>exact SE (Us Uu (Us (Km Cj B6) Uy)) (Rs (by omega) (by omega) (by omega) (by omega))
    case h0=>exact⟨⟨_,rfl⟩,λk _ _ h=>absurd h (Nat.not_lt_zero k)⟩
    case hst=>
     rintro k d Z hk ⟨⟨x7,rfl⟩,hin⟩;obtain⟨rfl,Bv⟩:=XH hk;have B7:k+1<W.length:=by omega
     have hp:W[k]?=Ci W[k]:=Qe _;have hq:W[k+1]?=Ci W[k+1]:=Qe B7;have e1:(1:Int)+(k:Nat)=((k+1:Nat):Int):=by omega
     refine⟨_,UG (Qa Cj) Cj,?_⟩;rw[e1];unfold P8
     have C6:oIx (.list (W.map Uw)) (.int (((k+1:Nat):Int)-1))=Ci (Uw W[k]):=by
      have e:(((k+1:Nat):Int)-1)=((k:Nat):Int):=by omega
      rw[e];exact Kh (by rw[Qg,hp];rfl)
     have Bh:oIx (.list (W.map Uw)) (.int ((k+1:Nat):Int))=Ci (Uw W[k+1]):=Kh (by rw[Qg,hq];rfl);have CI:=hlt W[k+1] (QT _);have BB:ws[(W[k+1]).1]?=Ci (ws[(W[k+1]).1]'(CI)):=Qe _;have CW:oIx (U9 ws) (.int (((W[k+1]).1:Nat):Int))=Ci (Uv (ws[(W[k+1]).1]'(CI))):=Kh (by rw[Qg,BB];rfl)
     let S7:Option Sl:=Ci (.pub (.int ((k+1:Nat):Int)))
     refine U5 (b:=isNon (Uv (W[k]).2) || !decide (ws[(W[k+1]).1]'(CI)=(W[k]).2)) (Z1:=[S0,S1,S2,SA,x4,x5,x6,S7,Ck]) (WG (Kw (k:=isNon) (UB (U1 Cj (UB (Ur Cj) Uu WY) C6) Uu (show oIx (Uw W[k]) (.int 1)=Ci (Uv (W[k]).2)from rfl))) λ_=>UB (U1 Cj (UB (U1 Cj (Ur Cj) Bh) Uu (show oIx (Uw W[k+1]) (.int 0)=Ci (.int ((W[k+1]).1:Nat))from rfl)) CW) (UB (U1 Cj (UB (Ur Cj) Uu WY) C6) Uu (show oIx (Uw W[k]) (.int 1)=Ci (Uv (W[k]).2)from rfl)) V8) (λz=>UX Uu (Yh (Ki (no λh=>?_)))) λz=>Kt (ZI ⟨⟨_,rfl⟩,?_⟩)
     .obtain⟨h1,h2⟩:=(isw.mp h).lnk k _ _ hp hq
      rw[BB]at h2;rw[QS (QA h2)]at z;cases h3:(W[k]).2 with
      |none=>exact absurd h3 h1
      |some t=>rw[h3]at z;cases z
     .rw[Jp]at z
      intro j p q hj Bl BC;by_cases e:j=k
      .subst e
       rw[hp]at Bl;rw[hq]at BC;cases Bl;cases BC;refine⟨λe=>?_,?_⟩
       .rw[e]at z;cases z.1
       .rw[BB]
        by_cases e:ws[(W[j+1]).1]'(CI)=(W[j]).2
        .exact JQ Ci e
        .rw[Qz e]at z;cases z.2
      .exact hin j p q (by omega) Bl BC
    case hend=>
     rintro Z ⟨⟨x7,rfl⟩,hin⟩;refine Kp ?_
     have lnk:WA ws W:=λk p q hp hq=>hin k p q (by
      have:=(Qm.mp hq).1;rw[Yv]
      omega) hp hq
     obtain⟨p0,r0,BM⟩:∃p r,W=p::r:=by
      cases hW':W with
      |nil=>exact absurd hW' CZ
      |cons x r=>exact⟨x,r,rfl⟩
     obtain⟨q,Bq⟩:∃q,W.getLast?=Ci q:=by
      cases h:W.getLast? with
      |none=>exact absurd (List.getLast?_eq_none_iff.mp h) CZ
      |some q=>exact⟨q,rfl⟩
     have B9:W.head?=Ci p0:=by rw[BM];rfl
     have hqm:q∈W:=List.mem_of_getLast? Bq;have hpm:p0∈W:=by rw[BM];exact Ql
     have BG:oIx (.list (W.map Uw)) (.int (-1))=Ci (Uw q):=SZ (by rw[List.getLast?_map,Bq];rfl);have BH:oIx (.list (W.map Uw)) (.int 0)=Ci (Uw p0):=Kh (j:=0) (by rw[BM];rfl)
     let S8:Option Sl:=Ci (.pub (Uv q.2))
     let R:Ul:=[S0,S1,S2,SA,x4,x5,x6,x7,S8]
     refine UO (Z1:=R) (KF (UB (U1 Cj (XA Uu) BG) Uu (show oIx (Uw q) (.int 1)=Ci (Uv q.2)from rfl)) (Qa Cj) Cj) ?_;obtain⟨o0,BD,_⟩:=C5 p0 hpm;have CW:oIx (U9 ws) (.int ((p0.1:Nat):Int))=Ci (Uv o0):=Kh (by rw[Qg,BD];rfl);have Bf:∀{p' q':Nat×Cu},W.head?=Ci p'->W.getLast?=Ci q'->p'=p0/\q'=q:=λh1 h2=>by rw[B9]at h1;rw[Bq]at h2;exact⟨(QA h1).symm,(QA h2).symm⟩
     apply Kl;refine U5 (b:=isNon (Uv q.2) || decide (q.2=o0)) (Z1:=R) (WG (Kw (k:=isNon) (Ur Cj)) λ_=>Zb Cj (U1 Cj (UB (U1 Cj Uu BH) Uu (show oIx (Uw p0) (.int 0)=Ci (.int (p0.1:Nat))from rfl)) CW) Vx) (λz=>UX Uu (Ki ⟨_,rfl,Cm,rfl,λ_=>isw.mpr ⟨CZ,C5,hnd,lnk,λp' q' h1 h2=>?_⟩,λ_=>rfl⟩)) λz=>Kt (Kp ?_)
     .obtain⟨rfl,rfl⟩:=Bf h1 h2
      rw[Bool.or_eq_true,QX]at z;rcases z with z|z
      .refine .inl ?_
       cases h2:q'.2 with
       |none=>rfl
       |some t=>rw[h2]at z;cases z
      .exact .inr (.inl (by rw[BD,z]))
     rw[Jp]at z;cases hq2:q.2 with
     |none=>rw[hq2]at z;cases z.1
     |some t=>
     obtain⟨_,_,_,hqq⟩:=C5 q hqm;obtain⟨i,rs,hi,_,hmem⟩:=Vy (hqq t hq2);obtain⟨r,hr1,CV⟩:=Jo.mp hmem;have hr:=(g.rk rs (QH hi)).there r hr1 t CV;obtain⟨n,rfl⟩:∃n:Nat,t=n:=⟨t.toNat,by omega⟩
     have hn:n<cs.length:=by omega
     have hixc:oIx (.list (cs.map int)) (.int ((n:Nat):Int))=Ci (.int cs[n]):=Kh (by rw[Qg,Qe hn];rfl);have h8:R[8]?=Ci (Ci (.pub (.int ((n:Nat):Int)))):=by show Ci (Ci (Sl.pub (Uv q.2)))=_;rw[hq2];rfl
     refine UX (Kw (UB (OB (Ur Cj) (Us (Ur h8) Uy) Nw) (UB (U1 Cj Uu RV) (Ur h8) hixc) YS)) ⟨_,rfl,_,rfl,?_⟩;rw[QX,isw];constructor
     .intro h
      refine⟨CZ,C5,hnd,lnk,λp' q' h1 h2=>?_⟩;obtain⟨rfl,rfl⟩:=Bf h1 h2;exact .inr (.inr ⟨n,hq2,_,Qe hn,h⟩)
     .intro h
      rcases h.fin p0 q B9 Bq with e|e|⟨t',e,c,hc,hlt⟩
      .rw[hq2]at e;cases e
      .rw[BD]at e
       rw[QS (QA e).symm]at z;cases z.2
      .rw[hq2]at e
       have e:n=t':=by have:=QA e;omega
       subst e;rw[Qe hn]at hc;cases hc;exact hlt
  |_=>exact U5 (b:=Cm) (ZV (K3 (Ur Cj) Cj)) (λ_=>UX Uu (Ki (no λ⟨W,e,_⟩=>by cases e))) λz=>by cases z
 obtain⟨r,h,b,rfl,hb⟩:=key;exact⟨b,h,hb⟩
end
theorem LQ{N:List Str}{g:SM}{f:M Co}{ds:Co}{P:Co->Prop}{Z:Ul}(h0:KJ N ds=Z)(h:Ho g Z λo=>∃Z1,o=.nx Z1/\∃r Z2,f Z1=.ok r Z2/\P r):∃r,KS N g f ds=Ci r/\P r:=by subst h0;obtain⟨Z1,e,r,Z2,e2,p⟩:=h.out;refine⟨r,?_,p⟩;unfold KS;rw[e];dsimp only;rw[e2]
theorem DG{cs:Cp}{ls:L3}{c s:D}{dg:Cp}{i:Nat}{d:D}{Z:Ul}{Q:Out->Prop}(g:Good cs ls)(hdl:dg.length=ls.length)(hd0:∀x∈dg,0<=x)(hi:(K0 0 ls.length)[i]?=Ci d)(h:Wf cs ls c s dg i Z) :
  ∃Z2,gN 6 d Z=Ci Z2/\Ho RP Z2 (XQ (Wf cs ls c s dg (i+1)) Q):=by
 obtain⟨lf,ws,x6,x7,x8,rfl,hw,dl⟩:=h;obtain⟨rfl,hlt⟩:=XH hi;have CT:i<ls.length:=by omega
 have hls:ls[i]?=Ci ls[i]:=Qe CT;have gr:=g.rk _ (QH hls);have hfl:=Vz gr;refine⟨_,UG (Qa Cj) Cj,?_⟩;unfold RP;rw[JP];generalize hrs:ls[i]=rs at *;have hmem:∀t∈Ze rs.flatten,t∈rs.flatten:=λt ht=>(Yu _).mem_iff.mp ht
 have hthere:∀t∈rs.flatten,0<=t/\t<lf.length:=λt ht=>by obtain⟨r,hr,htr⟩:=Jo.mp ht;have:=gr.there r hr t htr;rw[dl.len];exact this
 let L:=(Ze rs.flatten).filter λt=>decide (0<lf.getD t.toNat 0)
 have hc:Ke (gN 9) (Uo (oIB λi j=>decide (j<i)) (Uz 3 (Uk 9)) (Uq (.int 0))) (Uk 9) ((Ze rs.flatten).map int) (UY [pb (Kc cs ls),pb c,pb s,Ci (.own (lf.map int)),pb (.list (dg.map int)),Ci (.own (ws.map Uv)),pb (.int (i:Int)),x7,x8]++J6 1 Ck) []=Ci (L.map int):=by
  rw[Y4 (λd=>match d with | .int t=>decide (0<lf.getD t.toNat 0)|_=>Cn) (λd=>d) (λZ=>∃x y7 y8,Z=[pb (Kc cs ls),pb c,pb s,pb (.list (lf.map int)),pb (.list (dg.map int)),pb (.list (ws.map Uv)),pb (.int (i:Int)),y7,y8,x])]
  .rw[Jk,List.map_id',List.filter_map]
   rfl
  .rintro d hm Z ⟨x,y7,y8,rfl⟩
   obtain⟨t,ht,rfl⟩:=QB.mp hm;obtain⟨h0,h1⟩:=hthere t (hmem t ht);obtain⟨k,rfl⟩:∃k:Nat,t=k:=⟨t.toNat,by omega⟩
   refine⟨_,UG (Qa Cj) Cj,UB (U1 Cj (Ur Cj) (SY (by omega))) Uu Cj,λ_=>Ur Cj,pb (.int k),YL y7,YL y8,rfl⟩
  .exact⟨Ck,Sb x7,Sb x8,rfl⟩
  .rw[Qd,Q0,(Yu _).length_eq];have:=g.c6;omega
 have hLl:L.length<=6:=by have:L.length<=(Ze rs.flatten).length:=List.length_filter_le _ _;rw[(Yu _).length_eq]at this;have:=g.c6;omega
 have hadd:UC (.list (L.map int)) (.list [.none])=Ci (.list ((L.map Ci++[Ck]).map Uv)):=by rw[ZY (by rw[Qd];show L.length+1<=_;omega),Q4,Jc];rfl
 refine UO (KF (UB (Kw (OK (ZX (Kf (Us (Ur Cj) (Us (Ur Cj) Uy)) Cj (RF (cs:=cs) hls (by have:=g.c6;omega))) Y7) hc (by rw[JK,Q3];exact λ_ _=>rfl))) (Kv (Us Uu Uy) (Qa Cj)) hadd) (Qa Cj) Cj) ?_;have B2:(L.map Ci++[Ck]:LO).length=L.length+1:=by rw[Qj,Qd];rfl
 have hlen:UU [.list ((L.map Ci++[Ck]:LO).map Uv)]=Ci (.int ((L.length+1:Nat):Int)):=by rw[Zc,Qd,B2]
 have hdi:dg[i]?=Ci dg[i]:=Qe (by omega);have hx0:=hd0 _ (QH hdi);have hix:oIx (.list (dg.map int)) (.int (i:Int))=Ci (.int dg[i]):=Kh (by rw[Qg,hdi];rfl);have hm0:0<=dg[i] % ((L.length+1:Nat):Int):=Jf _ (by omega);have hm1:dg[i] % ((L.length+1:Nat):Int)<((L.length+1:Nat):Int):=Ja _ (by omega);obtain⟨k,hk⟩:∃k:Nat,dg[i] % ((L.length+1:Nat):Int)=k:=⟨(dg[i] % ((L.length+1:Nat):Int)).toNat,by omega⟩
 have Bv:k<(L.map Ci++[Ck]:LO).length:=by rw[B2];omega
 have CJ:=R6 (os:=L.map Ci++[Ck]) Bv;rw[←hk]at CJ;generalize ho:(L.map Ci++[Ck]:LO)[k]=o at CJ;refine UO (KF (U1 Cj (UB (U1 Cj (Ur Cj) hix) (Km Cj hlen) (ZD (by omega))) CJ) (Qa Cj) Cj) ?_;have CI:(ws.map Uv).length<1000000:=by rw[Qd];have:=g.l7;omega
 have B4:ls[ws.length]?=Ci rs:=by rw[hw];exact hls
 cases o with
 |none=>
  apply Kl;apply U5
  case h1=>exact T4 (Ur Cj) Cj
  case h2=>intro hh;cases hh
  case h3=>intro _;refine Kt (Kp ?_);refine YV (XX Cj (Ur Cj) Cj CI Cj) ?_;exact ZI ⟨lf,ws++[Ck],_,_,_,by rw[OJ (ws:=ws)];rfl,by rw[Qj,hw];rfl,dl.none B4⟩
 |some t=>
  have htL:t∈L:=by
   have hm:Ci t∈(L.map Ci++[Ck]:LO):=ho ▸ QT Bv;rcases QC.mp hm with z|z
   .obtain⟨t',h1,h2⟩:=QB.mp z
    cases h2;exact h1
   .cases Qp.mp z
  obtain⟨htm,htp⟩:=JM.mp htL;have htf:=hmem t htm;obtain⟨h0,h1⟩:=hthere t htf;have hv:lf[t.toNat]?=Ci lf[t.toNat]:=Qe (by omega);have hvd:lf.getD t.toNat 0=lf[t.toNat]:=by simp[List.getD,hv]
  have hpos:0<lf[t.toNat]:=by rw[hvd]at htp;simpa using htp
  have hvx:oIx (.list (lf.map int)) (.int t)=Ci (.int lf[t.toNat]):=MP h0 (by rw[Qg,hv];rfl);apply Kl;apply U5
  case h1=>exact T4 (Ur Cj) Cj
  case h2=>intro _;refine YV (P1 (UB (Pd Cj (Ur Cj) Cj hvx) Uu WY) Cj (Ur Cj) Cj ⟨h0,by rw[Qd];exact h1⟩ Cj) ?_;refine Kp ?_;refine YV (XX Cj (Ur Cj) Cj CI Cj) ?_;exact ZI ⟨lf.set t.toNat (lf[t.toNat]-1),ws++[Ci t],_,_,_,by rw[OJ (ws:=ws),←F1];rfl,by rw[Qj,hw];rfl,dl.give B4 htf h0 hv hpos⟩
  case h3=>intro hh;cases hh
theorem DF{cs:Cp}{ls:L3}(g:Good cs ls)(c s:Int):∃r,TW [Kc cs ls,.int c,.int s]=Ci r/\∃ws,r=ws.map Uv/\Deal cs ls ws:=by
 refine LQ (Z:=[pb (Kc cs ls),pb (.int c),pb (.int s),Ck,Ck,Ck,Ck,Ck,Ck]) Cj ?_;unfold RJ;have i0:oIx (Kc cs ls) (.int 0)=Ci (.list (cs.map int)):=Kh (j:=0) Cj;have i1:oIx (Kc cs ls) (.int 1)=Ci (.list (ls.map Ka)):=Kh (j:=1) Cj;have hlen:UU [.list (ls.map Ka)]=Ci (.int ls.length):=by rw[Zc,Qd]
 refine UO (Zr (Kb (Us (U1 Cj Uu i0) Uy) (K8 (show YK [.list (cs.map int)]=Ci (cs.map int)from rfl))) (Qa Cj) Cj) ?_
 have hmul:UN (.list [.int 61]) (.int ls.length)=Ci (.list ((J6 ls.length (61:Int)).map int)):=by
  rw[Rv ⟨by omega,by have:=g.l7;omega,by show 1*_<=_;have:=g.l7;omega⟩]
  congr 2
  rw[Jb];generalize ls.length=n;induction n with
  |zero=>rfl
  |succ n ih=>rw[Q8,QO,ih,Q8,QG];rfl
 obtain⟨r,hF,dg,rfl,hdl,hdb⟩:=VN c s (sizes:=J6 ls.length (61:Int)) (λx hx=>by rw[(List.mem_replicate.mp hx).2];decide) (by rw[QR];have:=g.l7;omega);rw[QR]at hdl;refine UO (KF (Kf (Us (Ur Cj) (Us (Ur Cj) (Us (UB (Kv (Us Uu Uy) (Qa Cj)) (ZJ (Us (U1 Cj Uu i1) Uy) hlen) hmul) Uy))) Cj hF) (Qa Cj) Cj) ?_;refine UO (Zr (X6 Uy (Qa Cj)) (Qa Cj) Cj) ?_;apply Kl;apply Ye (Wf cs ls (.int c) (.int s) dg)
 case h1=>exact WZ (Us (ZJ (Us (U1 Cj Uu i1) Uy) hlen) Uy) (W5 (by have:=g.l7;omega) (by omega))
 case h0=>exact⟨cs,[],_,_,_,rfl,rfl,⟨λ_ _ _ h=>(by cases h),rfl,λk c e=>by have:=g.c7 c (QH e);simp only[List.count_nil];exact⟨by rw[e];congr 1;omega,by omega⟩⟩⟩
 case hst=>exact λi d Z e h=>DG g hdl (λx hx=>by obtain⟨j,hj,e⟩:=List.mem_iff_getElem.mp hx;exact(hdb j x 61 (by rw[Qe hj,e]) (by rw[Qy,Qs (by omega)])).1) e h
 case hend=>rintro Z ⟨lf,ws,x6,x7,x8,rfl,hw,dl⟩;rw[Yv]at hw;refine Kp (Kt ⟨_,rfl,_,_,MF rfl,ws,rfl,⟨by omega,dl.wish,λk c e=>by have:=(dl.cop k c e).2;omega⟩⟩)
section
variable{cs:Cp}{ls:L3}{ws:LO}{W:List (Nat×Cu)}
theorem Fg{N:List Str}{g:SM}{f:M Co}{ds:Co}{P:Co->Prop}{Z:Ul}(h0:KJ N ds=Z)(h:Ho g Z λo=>(∃r,o=.ro r/\P r) ∨ ∃Z1,o=.nx Z1/\∃r Z2,f Z1=.ok r Z2/\P r):∃r,KS N g f ds=Ci r/\P r:=by
 subst h0;rcases h.out with ⟨r,e,p⟩|⟨Z1,e,r,Z2,e2,p⟩
 .exact⟨r,MK Cj e,p⟩
 .exact⟨r,N4 Cj e e2,p⟩
theorem Lh{xs:Cp}:oEq (.list (xs.map int)) (.list [])=Ci xs.isEmpty:=by have h1:(J7 (xs.map int)).canLay0=Cm:=OP xs;unfold oEq;rw[Qs ⟨h1,rfl,by have:=OO xs;unfold Kx at this;omega⟩];cases xs<;>rfl
def szC(n:Nat):Cp:=(n:Int)::[61,53,61,53,61,53,61,53,61,53,61,53,61,53]
theorem Nv(g:Good cs ls)(hl:ws.length=ls.length)(c s:Int):∃r,Wa [Kc cs ls,U9 ws,.int c,.int s]=Ci r/\∃W:List (Nat×Cu),r=W.map Uw/\W≠[]/\W.length<=7/\∀p∈W,p.1<ws.length/\∀t,p.2=Ci t->0<=t/\t<10:=by
 have l7:=g.l7;have l1:=g.l1;have c6:=g.c6
 let S0:Option Sl:=Ci (.pub (Kc cs ls))
 let S1:Option Sl:=Ci (.pub (U9 ws))
 let S2:Option Sl:=Ci (.pub (.int c))
 let S3:Option Sl:=Ci (.pub (.int s))
 refine Fg (Z:=[S0,S1,S2,S3,Ck,Ck,Ck,Ck,Ck,Ck,Ck,Ck]) Cj ?_;unfold RK;have CH:UU [U9 ws]=Ci (.int ws.length):=by unfold U9;rw[Zc,Qd]
 obtain⟨r,hF,dg,rfl,hdl,hdb⟩:=VN c s (sizes:=szC ws.length) (λx hx=>by
  rcases Qu.mp hx with rfl|hx
  .omega
  .exact(by decide:∀x∈([61,53,61,53,61,53,61,53,61,53,61,53,61,53]:Cp),0<x/\x<18446744073709551616) x hx) (Qa Cj)
 have hdl:dg.length=15:=hdl;have hmul:UN (.list [.int 61,.int 53]) (.int 7)=Ci (.list ((szC ws.length).tail.map int)):=(Rv (by decide)).trans Cj;have hadd:UC (.list [.int ws.length]) (.list ((szC ws.length).tail.map int))=Ci (.list ((szC ws.length).map int)):=(ZY (Qa Cj)).trans Cj
 let S4:Option Sl:=Ci (.pub (.list (dg.map int)))
 refine UO (Z1:=[S0,S1,S2,S3,S4,Ck,Ck,Ck,Ck,Ck,Ck,Ck]) (KF (Kf (Us (Ur Cj) (Us (Ur Cj) (Us (UB (Kv (Us (Km Cj CH) Uy) (Qa Cj)) (UB (Kv (Us Uu (Us Uu Uy)) (Qa Cj)) Uu hmul) hadd) Uy))) Cj hF) (Qa Cj) Cj) ?_;refine UO (Zr (X6 Uy (Qa Cj)) (Qa Cj) Cj) ?_;have hdi:∀(j:Nat)(hj:j<15),oIx (.list (dg.map int)) (.int (j:Int))=Ci (.int (dg[j]'(by omega))):=λj hj=>Kh (by rw[Qg,Qe (by omega)];rfl)
 have h0:=hdb 0 (dg[0]'(by omega)) ws.length (Qe _) Cj;obtain⟨a0,ha0⟩:∃a:Nat,dg[0]'(by omega)=a:=⟨(dg[0]'(by omega)).toNat,by omega⟩
 have h00:=hdi 0 (by decide);rw[ha0]at h00 h0;refine UO (KF (U1 Cj Uu h00) (Qa Cj) Cj) ?_;apply Kl;apply Ye (λk Z=>∃(W:List (Nat×Cu))(a:Nat)(x7 x8 x9 C3 C0:Option Sl),Z=[S0,S1,S2,S3,S4,Ci (.own (W.map Uw)),pb (.int (a:Nat)),x7,x8,x9,C3,C0]/\W.length=k/\a<ws.length/\∀p∈W,p.1<ws.length/\∀t,p.2=Ci t->0<=t/\t<10)
 case h1=>exact WZ (Us Uu Uy) (W5 (by decide) (by decide))
 case h0=>exact⟨[],a0,_,_,_,_,_,rfl,rfl,by omega,λ_ h=>by cases h⟩
 case hst=>
  rintro k d Z hk ⟨W,a,x7,x8,x9,C3,C0,rfl,hWk,ha,hW⟩;obtain⟨rfl,hk7⟩:=XH hk;have hk7:k<7:=by omega
  rw[JP];refine⟨_,UG (Qa Cj) Cj,?_⟩;unfold NQ;have hal:a<ls.length:=by omega
  have hls:ls[a]?=Ci ls[a]:=Qe hal;have hw:ws[a]?=Ci ws[a]:=Qe ha;have hfl:=Vz (g.rk ls[a] (QT hal));have BF:oIx (U9 ws) (.int ((a:Nat):Int))=Ci (Uv ws[a]):=Kh (by rw[Qg,hw];rfl)
  let SW:Option Sl:=Ci (.own (W.map Uw))
  let S6:Option Sl:=Ci (.pub (.int (a:Nat)))
  let S7:Option Sl:=Ci (.pub (.int (k:Nat)))
  let L:=(Ze ls[a].flatten).filter λt=>!decide (Ci t=ws[a])
  have hc:Ke (gN 12) (Kz oNe 12 (Uz 1 (Uk 6))) (Uk 12) ((Ze ls[a].flatten).map int) (UL [S0,S1,S2,S3,S4,SW,S6,S7,x8,x9,C3,C0]++J6 1 Ck) []=Ci (L.map int):=by
   rw[Y4 (λd=>match d with | .int t=>!decide (Ci t=ws[a])|_=>Cn) (λd=>d) (λZ=>∃y5 y8 y9 y10 y11 x,Z=[S0,S1,S2,S3,S4,y5,S6,S7,y8,y9,y10,y11,x])]
   .rw[Jk,List.map_id',List.filter_map]
    rfl
   .rintro d hm Z ⟨y5,y8,y9,y10,y11,x,rfl⟩
    obtain⟨t,ht,rfl⟩:=QB.mp hm;exact⟨_,UG (Qa Cj) Cj,Zb Cj (U1 Cj (Ur Cj) BF) (V8 (a:=Ci t)),λ_=>Ur Cj,_,_,_,_,_,_,rfl⟩
   .exact⟨_,_,_,_,_,Ck,rfl⟩
   .rw[Qd,Q0,(Yu _).length_eq];omega
  have hLl:L.length<=6:=by have:L.length<=(Ze ls[a].flatten).length:=List.length_filter_le _ _;rw[(Yu _).length_eq]at this;omega
  have hadd:UC (.list (L.map int)) (.list [.none])=Ci (.list ((L.map Ci++[Ck]).map Uv)):=by rw[ZY (by rw[Qd];show L.length+1<=_;omega),Q4,Jc];rfl
  have B2:(L.map Ci++[Ck]:LO).length=L.length+1:=by rw[Qj,Qd];rfl
  have hlen:UU [.list ((L.map Ci++[Ck]:LO).map Uv)]=Ci (.int ((L.length+1:Nat):Int)):=by rw[Zc,Qd,B2]
  let S8:Option Sl:=Ci (.pub (.list ((L.map Ci++[Ck]:LO).map Uv)))
  refine UO (Z1:=[S0,S1,S2,S3,S4,SW,S6,S7,S8,x9,C3,C0]) (KF (UB (Kw (Yp (ZX (Kf (Us (Ur Cj) (Us (Ur Cj) Uy)) Cj (RF (cs:=cs) hls (by omega))) Y7) hc)) (Kv (Us Uu Uy) (Qa Cj)) hadd) (Qa Cj) Cj) ?_;have hd1:=hdi (1+2*k) (by omega);have hd2:=hdi (2+2*k) (by omega);have BL:((1+2*k:Nat):Int)=1+2*(k:Int):=by omega
  have BK:((2+2*k:Nat):Int)=2+2*(k:Int):=by omega
  rw[BL]at hd1;rw[BK]at hd2;generalize dg[1+2*k]'(by omega)=z1 at hd1;generalize dg[2+2*k]'(by omega)=z2 at hd2;have hm0:0<=z1 % ((L.length+1:Nat):Int):=Jf _ (by omega);have hm1:z1 % ((L.length+1:Nat):Int)<((L.length+1:Nat):Int):=Ja _ (by omega);obtain⟨j,hj⟩:∃j:Nat,z1 % ((L.length+1:Nat):Int)=j:=⟨(z1 % ((L.length+1:Nat):Int)).toNat,by omega⟩
  have Bp:j<(L.map Ci++[Ck]:LO).length:=by rw[B2];omega
  have CJ:=R6 (os:=L.map Ci++[Ck]) Bp;rw[←hj]at CJ;generalize ho:(L.map Ci++[Ck]:LO)[j]=o at CJ
  have hto:∀t,o=Ci t->0<=t/\t<10:=λt e=>by
   subst e;have hm:Ci t∈(L.map Ci++[Ck]:LO):=ho ▸ QT Bp;rcases QC.mp hm with z|z
   .obtain⟨t',h1,h2⟩:=QB.mp z
    cases h2;obtain⟨r,hr,htr⟩:=Jo.mp ((Yu _).mem_iff.mp (JM.mp h1).1);have:=(g.rk ls[a] (QT hal)).there r hr t htr;omega
   .cases Qp.mp z
  let S9:Option Sl:=Ci (.pub (Uv o))
  refine UO (Z1:=[S0,S1,S2,S3,S4,SW,S6,S7,S8,S9,C3,C0]) (KF (U1 Cj (UB (U1 Cj (UB Uu (UB Uu (Ur Cj) (YT (by decide) (by decide))) K2) hd1) (Km Cj hlen) (ZD (by omega))) CJ) (Qa Cj) Cj) ?_
  let V:=W++[(a,o)]
  let SV:Option Sl:=Ci (.own (V.map Uw))
  have hVl:V.length=k+1:=by unfold V;rw[Qj,hWk];rfl
  have hV:∀p∈V,p.1<ws.length/\∀t,p.2=Ci t->0<=t/\t<10:=λp hp=>by
   rcases QC.mp hp with hp|hp
   .exact hW p hp
   .cases Qp.mp hp;exact⟨ha,hto⟩
  refine UO (Z1:=[S0,S1,S2,S3,S4,SV,S6,S7,S8,S9,C3,C0]) (XX Cj (K7 (Us (Ur Cj) (Us (Ur Cj) Uy)) (Qa Cj)) Cj (by rw[Qd];omega) (by unfold SV V;rw[Q4];rfl)) ?_
  let U:Cp:=V.map λp=>((p.1:Nat):Int)
  have hc2:Ke (gN 12) (Uq Cm) (Uz 12 (Uq (.int 0))) (V.map Uw) (UL (UY [S0,S1,S2,S3,S4,SV,S6,S7,S8,S9,C3,C0])++J6 1 Ck) []=Ci (U.map int):=by
   refine W7 (λZ=>∃y10 y11 x,Z=[S0,S1,S2,S3,S4,pb (.list (V.map Uw)),S6,S7,S8,S9,y10,y11,x]) _ _ _ _ (by rw[Qd,Qd,Qd]) ?_ ⟨_,_,Ck,rfl⟩ (by rw[Qd,Q0];omega);rintro j d e hj he Z ⟨y10,y11,x,rfl⟩;rw[Qg]at hj;rw[Qg,Qg]at he;cases hqj:V[j]? with
   |none=>rw[hqj]at hj;cases hj
   |some q=>
   rw[hqj]at hj he;cases hj;cases he;exact⟨_,UG (Qa Cj) Cj,rfl,U1 Cj Uu (show oIx (Uw q) (.int 0)=Ci (.int (q.1:Nat))from rfl),_,_,_,rfl⟩
  let SU:Option Sl:=Ci (.own (U.map int))
  refine UO (Z1:=[S0,S1,S2,S3,S4,SV,S6,S7,S8,S9,SU,C0]) (Zr (Rn (Yp (ZX (Ur Cj) Y7) hc2) (by rw[JK,Q3];exact λ_ _=>rfl)) (Qa Cj) Cj) ?_
  let pH:D->Bool:=λd=>match d with | .int t=>decide (ws.getD t.toNat Ck=o) && !(U.contains t)|_=>Cn
  let N:Cz:=(J5 ws.length).filter λi=>pH (.int (0+(i:Int)))
  have hN:∀i∈N,i<ws.length:=λi hi=>Je.mp (JM.mp hi).1
  have hc3:Ke (gN 12) (K5 (Uo oEq (Uz 1 (Uk 12)) (Uk 9)) (Kz ZN 12 (Uk 10))) (Uk 12) (K0 0 ws.length) (UY [S0,S1,S2,S3,S4,SV,S6,S7,S8,S9,SU,C0]++J6 1 Ck) []=Ci ((N.map λi:Nat=>(i:Int)).map int):=by
   rw[Y4 pH (λd=>d) (λZ=>∃y11 x,Z=[S0,S1,S2,S3,S4,pb (.list (V.map Uw)),S6,S7,S8,S9,pb (.list (U.map int)),y11,x])]
   .rw[Jk,List.map_id',K0,List.filter_map,Jc]
    show Ci (List.map _ (List.filter _ (J5 ((ws.length:Int)-0).toNat)))=_;rw[Int.sub_zero,Jb]
    congr 1
    refine List.map_congr_left λi _=>?_;show int (0+(i:Int))=.int (i:Int);rw[JP]
   .rintro d hm Z ⟨y11,x,rfl⟩
    obtain⟨i,hi⟩:=List.mem_iff_getElem?.mp hm;obtain⟨rfl,CT⟩:=XH hi;rw[JP];have hiw:i<ws.length:=by omega
    have hw':ws[i]?=Ci ws[i]:=Qe hiw;have hix:oIx (U9 ws) (.int ((i:Nat):Int))=Ci (Uv ws[i]):=Kh (by rw[Qg,hw'];rfl)
    have hp:pH (.int (i:Int))=(decide (ws[i]=o) && !(U.contains (i:Int))):=by
     show(decide (ws.getD ((i:Int)).toNat Ck=o)&&_)=_
     rw[Jb,Py hw']
    refine⟨_,UG (Qa Cj) Cj,?_,λ_=>Ur Cj,_,_,rfl⟩;rw[hp];exact V5 (UB (U1 Cj (Ur Cj) hix) (Ur Cj) Vx) λ_=>Zb Cj (Ur Cj) (by unfold ZN;rw[Tj];rfl)
   .exact⟨_,Ck,rfl⟩
   .rw[Yv,Q0];omega
  let SH:Option Sl:=Ci (.own ((N.map λi:Nat=>(i:Int)).map int))
  let R:Ul:=[S0,S1,S2,S3,S4,SV,S6,S7,S8,S9,SU,SH]
  refine UO (Z1:=R) (Zr (OK (WZ (Us (Km Cj CH) Uy) (W5 (by omega) (by omega))) hc3 (by rw[JK,Q3];exact λ_ _=>rfl)) (Qa Cj) Cj) ?_;apply Kl;refine U5 (b:=isNon (Uv o) || ((N.map λi:Nat=>(i:Int)).isEmpty || decide (z2<9))) (Z1:=R) (WG (Kw (k:=isNon) (Ur Cj)) λ_=>WG (Rr Cj (Kv Uy (Qa Cj)) Cj Lh) λ_=>UB (U1 Cj (UB Uu (UB Uu (Ur Cj) (YT (by decide) (by decide))) K2) hd2) Uu YS) (λz=>GF (ds:=V.map Uw) Cj ⟨⟨⟨.inl ⟨_,rfl,V,rfl,(λe=>by rw[e]at hVl;cases hVl),by omega,hV⟩⟩⟩⟩) λz=>Kt (Kp ?_)
  rw[Jp,Jp]at z;have hN0:N.length≠0:=λe=>by rw[List.length_eq_zero_iff.mp e]at z;cases z.2.1
  have hn0:0<=z2 % (N.length:Int):=Jf _ (by omega);have hn1:z2 % (N.length:Int)<N.length:=Ja _ (by omega);obtain⟨i,hi⟩:∃i:Nat,z2 % (N.length:Int)=i:=⟨(z2 % (N.length:Int)).toNat,by omega⟩
  have CT:i<N.length:=by omega
  have hixN:oIx (.list ((N.map λi:Nat=>(i:Int)).map int)) (.int (z2 % (N.length:Int)))=Ci (.int ((N[i]:Nat):Int)):=by rw[hi];exact Kh (by rw[Qg,Qg,Qe CT];rfl)
  refine YV (KF (Pd Cj (UB (U1 Cj (UB Uu (UB Uu (Ur Cj) (YT (by decide) (by decide))) K2) hd2) (P2 Cj) (by rw[Qd,Qd];exact ZD (by omega))) Cj hixN) (Qa Cj) Cj) (ZI ⟨V,N[i],S7,S8,S9,SU,SH,rfl,hVl,hN _ (QT CT),hV⟩)
 case hend=>rintro Z ⟨W,a,x7,x8,x9,C3,C0,rfl,hWk,ha,hW⟩;rw[Yv]at hWk;have hWk:W.length=7:=hWk;exact Kp (Kt (.inr ⟨_,rfl,W.map Uw,_,rfl,W,rfl,(λe=>by rw[e]at hWk;cases hWk),by omega,hW⟩))
theorem smi2{a t:D}(h:t.canLay0=Cm/\t.depth<=60):SmI (.tuple [a,t]):=λa' t' e=>by injection e with e;injection e with _ e;injection e with e;rw[←e];exact h
theorem WU{x:D}(h:∀a t,x≠.tuple [a,t]):SmI x:=λa t e=>absurd e (h a t)
theorem smO(o:Cu):(Uv o).canLay0=Cm/\(Uv o).depth<=60:=by cases o<;>exact⟨rfl,by simp[Uv,Uc]⟩
theorem smOl(o:Cu):(J7 [Uv o]).canLay0=Cm/\(J7 [Uv o]).depth<=60:=by cases o<;>exact⟨rfl,by simp[Uv,Uc,PyData.depthAll]⟩
theorem Y8(i:Int):(int i).canLay0=Cm/\(int i).depth<=60:=⟨rfl,by simp[Uc]⟩
def OkTh(d:D):Prop:=∀xs,d=.list xs->xs.length<=1000/\∀x∈xs,SmI x
theorem Ff{xs:Co}(h1:xs.length<=1000)(h2:∀x∈xs,SmI x):OkTh (.list xs):=λys e=>by injection e with e;rw[←e];exact⟨h1,h2⟩
def Pr(k n:Nat)(d:D):Prop:=Sh k n d/\Ua d.shown=Cm
theorem WX{k n k' n':Nat}{d:D}(h:Pr k n d)(h1:k<=k')(h2:n<=n'):Pr k' n' d:=⟨h.1.mono h1 h2,h.2⟩
theorem X4{k n m:Nat}{xs:Co}(h:∀x∈xs,Pr k n x)(hl:xs.length<=m):Pr (k+1) (m*(n+1)) (.list xs):=⟨LS (λx hx=>(h x hx).1) hl,DU λx hx=>(h x hx).2⟩
theorem OF{s:Str}(hs:Ua s=Cm):∀{ts:List Str},(∀t∈ts,Ua t=Cm)->Ua (s.join ts)=Cm
 |[],_=>(by decide +kernel:Ua (Uf "")=Cm)
 |[t],h=>h t Ql
 |t::u::r,h=>Wb (Wb (h t Ql) hs) (OF hs λx hx=>h x (Qo _ hx))
theorem WT{k n m:Nat}{xs:Co}(h:∀x∈xs,Pr k n x)(hl:xs.length<=m):Pr (k+1) (m*(n+1)) (.tuple xs):=⟨Ll (λx hx=>(h x hx).1) hl,by
 rw[Uh,PySem.tupleText];refine Wb (Wb (by decide +kernel) (OF (by decide +kernel) λt ht=>?_)) ?_
 .obtain⟨x,hx,rfl⟩:=RI ht
  exact(h x hx).2
 .split<;>decide +kernel⟩
theorem ZK{k n:Nat}{i:Int}(h : -1<=i/\i<10):Pr k n (.int i):=⟨Lk (by omega),by
 by_cases e:i = -1
 .rw[e];decide +kernel
 .exact Lm (by omega)⟩
theorem Vv{k n:Nat}:Pr k n .none:=⟨Lj,by decide +kernel⟩
theorem Pv{k n:Nat}{b:Bool}:Pr k n (.bool b):=⟨LR,by cases b<;>decide +kernel⟩
theorem V7{k n:Nat}{o:Cu}(h:∀t,o=Ci t->0<=t/\t<10):Pr k n (Uv o):=by
 cases o with
 |none=>exact Vv
 |some t=>exact ZK (by have:=h t Cj;omega)
theorem Lg{k n:Nat}{i:Int}(h:0<=i/\i<10)(hn:1<=n):Pr k n (.str (toString i)):=by
 have:i=0∨i=1∨i=2∨i=3∨i=4∨i=5∨i=6∨i=7∨i=8∨i=9:=by omega
 have hl:∀z:Str,(Ua z&&(decide (z.length<=1)&&Ua (J9 z).shown))=Cm->Pr k n (.str z):=λz h=>by rw[Qw,Qw,QX]at h;exact⟨R5 h.1 (by omega) (by omega),h.2.2⟩
 rcases this with rfl|rfl|rfl|rfl|rfl|rfl|rfl|rfl|rfl|rfl<;>exact hl _ (by decide +kernel)
theorem a1{P:D->Prop}{a:D}(h:P a):∀x∈[a],P x:=λx hx=>by cases Qp.mp hx;exact h
theorem a2{P:D->Prop}{a:D}{r:Co}(h:P a)(h2:∀x∈r,P x):∀x∈a::r,P x:=λx hx=>(Qu.mp hx).elim (λe=>e ▸ h) (h2 x)
theorem RU{k n:Nat}{d:D}(h:Pr k n d)(hk:k<=50)(hn:n<=10000):YR [d]=Ci (.str d.shown):=GJ h.1 hk hn
theorem Pu{r:Cp}(h:∀t∈r,0<=t/\t<10)(hl:r.length<=6):Pr 1 6 (.list (r.map int)):=X4 (n:=0) (k:=0) (m:=6) (λx hx=>by obtain⟨t,ht,rfl⟩:=QB.mp hx;exact ZK (by have:=h t ht;omega)) (by rw[Qd];exact hl)
theorem LN(g:Good cs ls):Pr 4 600 (Kc cs ls):=by
 have c6:=g.c6;have h1:Pr 3 260 (.list (cs.map int)):=WX (Pu (λt ht=>by have:=g.c7 t ht;omega) c6) (by decide) (by decide);have h2:∀rs∈ls,Pr 2 35 (Ka rs):=λrs hrs=>by have gr:=g.rk rs hrs;refine X4 (k:=1) (n:=6) (m:=5) (λx hx=>?_) (by rw[Qd];exact gr.few);obtain⟨r,hr,rfl⟩:=QB.mp hx;refine Pu (λt ht=>by have:=gr.there r hr t ht;omega) ?_;have h3:=Vz gr;have h4:r.length<=rs.flatten.length:=(List.sublist_flatten_of_mem hr).length_le;omega
 have h3:Pr 3 252 (.list (ls.map Ka)):=X4 (k:=2) (n:=35) (m:=7) (λx hx=>by obtain⟨rs,hrs,rfl⟩:=QB.mp hx;exact h2 rs hrs) (by rw[Qd];exact g.l7);exact WX (WT (k:=3) (n:=260) (m:=2) (a2 h1 (a1 (WX h3 (by decide) (by decide)))) (Qn 2)) (by decide) (by decide)
def It(x:D):Prop:=SmI x/\Pr 2 192 x
def OkI(d:D):Prop:=OkTh d/\Pr 3 5800 d
theorem Zp{a t:D}(h:t.canLay0=Cm/\t.depth<=60)(h1:Pr 1 63 a)(h2:Pr 1 63 t):It (.tuple [a,t]):=⟨smi2 h,WT (k:=1) (n:=63) (m:=3) (a2 h1 (a1 h2)) (Qa Cj)⟩
theorem Sj{p:Nat×Cu}(h1:p.1<10)(h2:∀t,p.2=Ci t->0<=t/\t<10):It (Uw p):=Zp (smO p.2) (ZK (by omega)) (V7 h2)
theorem SR{xs:Co}(hl:xs.length<=30)(h:∀x∈xs,It x):OkI (.list xs):=⟨Ff (by omega) λx hx=>(h x hx).1,WX (X4 (m:=30) (λx hx=>(h x hx).2) hl) (by decide) (by decide)⟩
theorem DE(CZ:W≠[])(BV:W.length<=7)(hW:∀p∈W,p.1<ws.length/\∀t,p.2=Ci t->0<=t/\t<10)(hwr:∀t,Ci t∈ws->0<=t/\t<10)(hws:ws.length<=7){n:Int}(hn:0<=n):∃r,Xj [.list (W.map Uw),U9 ws,.int n]=Ci r/\OkI r:=by
 have hpos:0<W.length:=List.length_pos_iff.mpr CZ
 let S0:Option Sl:=Ci (.pub (.list (W.map Uw)))
 let S1:Option Sl:=Ci (.pub (U9 ws))
 let S2:Option Sl:=Ci (.pub (.int n))
 refine WW (Z:=[S0,S1,S2,Ck,Ck,Ck,Ck,Ck,Ck]) Cj ?_;unfold Wj;have hlen:UU [.list (W.map Uw)]=Ci (.int W.length):=by rw[Zc,Qd]
 have CH:UU [U9 ws]=Ci (.int ws.length):=by unfold U9;rw[Zc,Qd]
 have h0:0<=n % (W.length:Int):=Jf _ (by omega);have h1:n % (W.length:Int)<W.length:=Ja _ (by omega);obtain⟨a,ha⟩:∃a:Nat,n % (W.length:Int)=a:=⟨(n % (W.length:Int)).toNat,by omega⟩
 have hal:a<W.length:=by omega
 let S3:Option Sl:=Ci (.pub (.int (a:Nat)))
 refine UO (Z1:=[S0,S1,S2,S3,Ck,Ck,Ck,Ck,Ck]) (KF (UB (Ur Cj) (Km Cj hlen) (by rw[ZD (by omega),ha])) (Qa Cj) Cj) ?_;have hWa:W[a]?=Ci W[a]:=Qe hal;have hix:oIx (.list (W.map Uw)) (.int ((a:Nat):Int))=Ci (Uw W[a]):=Kh (by rw[Qg,hWa];rfl);obtain⟨CT,B0⟩:=hW _ (QT hal);generalize W[a]=q at hix CT B0;obtain⟨i,o⟩:=q;have CT:i<ws.length:=CT;have B0:∀t,o=Ci t->0<=t/\t<10:=B0
 let S4:Option Sl:=Ci (.pub (.int (i:Nat)))
 let S5:Option Sl:=Ci (.pub (Uv o))
 refine UO (Z1:=[S0,S1,S2,S3,S4,S5,Ck,Ck,Ck]) (V4 (U1 Cj (Ur Cj) hix) (KQ Cj (U6 (UG (Qa Cj) Cj) (U6 (UG (Qa Cj) Cj) KR)))) ?_;have h2:0<=n / 7 % 8:=Jf _ (by decide);have h3:n / 7 % 8<8:=Ja _ (by decide);generalize hpl:n / 7 % 8=pl at h2 h3
 let S6:Option Sl:=Ci (.pub (.int pl))
 refine UO (Z1:=[S0,S1,S2,S3,S4,S5,S6,Ck,Ck]) (KF (UB (UB (Ur Cj) Uu (Tl (by decide) (by decide))) Uu (by rw[ZD (by decide),hpl])) (Qa Cj) Cj) ?_;have hstr:=LV (i:=(i:Int)) (by omega) (by omega);have hw:ws[i]?=Ci ws[i]:=Qe CT;have BF:oIx (U9 ws) (.int ((i:Nat):Int))=Ci (Uv ws[i]):=Kh (by rw[Qg,hw];rfl)
 let I:D:=.int (i:Nat)
 let O:D:=Uv o
 let T1:Co:=[.tuple [I],.tuple [I,O,.int 0],.list [I,O],.tuple [O,I],.tuple [.bool Cm,O],.tuple [I,.bool Cn],.tuple [.str (toString (i:Int)),O]]
 let T2:Co:=[.tuple [.int (-1),O],.tuple [.int ws.length,O],.tuple [I,.int (-1)],.tuple [I,.int 6],.tuple [I,.none],.tuple [I,Uv ws[i]]]
 have hm2:0<=pl % 2:=Jf _ (by decide);have hm3:pl % 2<2:=Ja _ (by decide)
 obtain⟨X,hX⟩:∃X,oIx (.list [.tuple [I],.list [I]]) (.int (pl % 2))=Ci X:=by
  have:pl % 2=0∨pl % 2=1:=by omega
  rcases this with e|e<;>rw[e]<;>exact⟨_,rfl⟩
 let T3:Co:=[.tuple [.int (pl % (ws.length:Int)),O],.tuple [I,.int pl],.none,I,.str "", .tuple [I,.list [O]],.tuple [X,O]]
 have smo:=smO o;have pI:Pr 1 63 I:=ZK (by omega);have pO:Pr 1 63 O:=V7 B0
 have hXp:Pr 1 63 X:=by
  have:pl % 2=0∨pl % 2=1:=by omega
  rcases this with e|e
  .rw[e]at hX
   cases hX;exact WT (k:=0) (n:=20) (m:=3) (a1 (ZK (by omega))) (Qa Cj)
  .rw[e]at hX
   cases hX;exact X4 (k:=0) (n:=20) (m:=3) (a1 (ZK (by omega))) (Qa Cj)
 have hq0:0<=pl % (ws.length:Int):=Jf _ (by omega);have hq1:pl % (ws.length:Int)<ws.length:=Ja _ (by omega);have hT1:∀x∈T1,It x:=a2 ⟨WU λ_ _ e=>(by injection e with e;injection e with _ e;cases e),WT (k:=1) (n:=63) (m:=3) (a1 pI) (of_decide_eq_true Cj)⟩ (a2 ⟨WU λ_ _ e=>(by injection e with e;injection e with _ e;injection e with _ e;cases e),WT (k:=1) (n:=63) (m:=3) (a2 pI (a2 pO (a1 (ZK ⟨by decide,by decide⟩)))) (of_decide_eq_true Cj)⟩ (a2 ⟨WU λ_ _ e=>(by cases e),X4 (k:=1) (n:=63) (m:=3) (a2 pI (a1 pO)) (of_decide_eq_true Cj)⟩ (a2 (Zp (Y8 _) pO pI) (a2 (Zp smo Pv pO) (a2 (Zp ⟨rfl,by simp[Uc]⟩ pI Pv) (a1 (Zp smo (Lg (by omega) (by decide)) pO)))))));have hT2:∀x∈T2,It x:=a2 (Zp smo (ZK (by decide)) pO) (a2 (Zp smo (ZK (by omega)) pO) (a2 (Zp (Y8 _) pI (ZK (by decide))) (a2 (Zp (Y8 _) pI (ZK (by decide))) (a2 (Zp (smO Ck) pI Vv) (a1 (Zp (smO _) pI (V7 λt e=>hwr t (e ▸ QT CT))))))));have hT3:∀x∈T3,It x:=a2 (Zp smo (ZK (by omega)) pO) (a2 (Zp (Y8 _) pI (ZK (by omega))) (a2 ⟨WU λ_ _ e=>(by cases e),Vv⟩ (a2 ⟨WU λa t (e:int (i:Nat)=.tuple [a,t])=>(by cases e),WX pI (by decide) (by decide)⟩ (a2 ⟨WU λ_ _ e=>(by cases e),⟨R5 (by decide +kernel) (by decide) (by decide),by decide +kernel⟩⟩ (a2 (Zp (smOl o) pI (X4 (k:=0) (n:=20) (m:=3) (a1 (V7 B0)) (Qa Cj))) (a1 (Zp smo hXp pO)))))));have hT:∀x∈T1++T2++T3,It x:=λx hx=>(QC.mp hx).elim (λh=>(QC.mp h).elim (hT1 x) (hT2 x)) (hT3 x);refine UO (Z1:=[S0,S1,S2,S3,S4,S5,S6,Ci (.own T1),Ck]) (Zr (X6 (Us (K7 (Us (Ur Cj) Uy) (Qa Cj)) (Us (K7 (Us (Ur Cj) (Us (Ur Cj) (Us Uu Uy))) (Qa Cj)) (Us (Kv (Us (Ur Cj) (Us (Ur Cj) Uy)) (Qa Cj)) (Us (K7 (Us (Ur Cj) (Us (Ur Cj) Uy)) (Qa Cj)) (Us (K7 (Us Uu (Us (Ur Cj) Uy)) (Qa Cj)) (Us (K7 (Us (Ur Cj) (Us Uu Uy)) (Qa Cj)) (Us (K7 (Us (ZJ (Us (Ur Cj) Uy) hstr) (Us (Ur Cj) Uy)) (Qa Cj)) Uy))))))) (Qa Cj)) (Qa Cj) Cj) ?_;refine UO (Z1:=[S0,S1,S2,S3,S4,S5,S6,pb (.list (T1++T2)),Ck]) (KF (UB (VD Cj Cj) (Kv (Us (K7 (Us (XA Uu) (Us (Ur Cj) Uy)) (Qa Cj)) (Us (K7 (Us (Km Cj CH) (Us (Ur Cj) Uy)) (Qa Cj)) (Us (K7 (Us (Ur Cj) (Us (XA Uu) Uy)) (Qa Cj)) (Us (K7 (Us (Ur Cj) (Us Uu Uy)) (Qa Cj)) (Us (K7 (Us (Ur Cj) (Us Uu Uy)) (Qa Cj)) (Us (K7 (Us (Ur Cj) (Us (U1 Cj (Ur Cj) BF) Uy)) (Qa Cj)) Uy)))))) (Qa Cj)) (ZY (Qa Cj))) (Qa Cj) Cj) ?_;refine UO (Z1:=[S0,S1,S2,S3,S4,S5,S6,pb (.list (T1++T2++T3)),Ck]) (KF (UB (Ur Cj) (Kv (Us (K7 (Us (UB (Ur Cj) (Km Cj CH) (ZD (by omega))) (Us (Ur Cj) Uy)) (Qa Cj)) (Us (K7 (Us (Ur Cj) (Us (Ur Cj) Uy)) (Qa Cj)) (Us Uu (Us (Ur Cj) (Us Uu (Us (K7 (Us (Ur Cj) (Us (Kv (Us (Ur Cj) Uy) (Qa Cj)) Uy)) (Qa Cj)) (Us (K7 (Us (UB (Kv (Us (K7 (Us (Ur Cj) Uy) (Qa Cj)) (Us (Kv (Us (Ur Cj) Uy) (Qa Cj)) Uy)) (Qa Cj)) (UB (Ur Cj) Uu (ZD (by decide))) hX) (Us (Ur Cj) Uy)) (Qa Cj)) Uy))))))) (Qa Cj)) (ZY (Qa Cj))) (Qa Cj) Cj) ?_
 have hTl:(T1++T2++T3).length=20:=rfl;generalize T1++T2++T3=T at hT hTl;have sw:∀x∈W.map Uw,It x:=λx hx=>by obtain⟨p,hp,rfl⟩:=QB.mp hx;obtain⟨h1,h2⟩:=hW p hp;exact Sj (by omega) h2
 have cl:∀l u,(DL.cutD (W.map Uw) l u).length<=7:=λl u=>by
  have:(DL.cutD (W.map Uw) l u).length<=(W.map Uw).length:=by unfold DL.cutD;rw[Ji,JB];omega
  rw[Qd]at this;omega
 have Ba:∀l u,∀x∈DL.cutD (W.map Uw) l u,It x:=λl u x hx=>sw x (by unfold DL.cutD at hx;exact List.mem_of_mem_drop (Jz hx))
 have ap:∀{x y:Co},x.length<=8->y.length<=8->UC (.list x) (.list y)=Ci (.list (x++y)):=λh1 h2=>ZY (by omega)
 have apl:∀{x y:Co},(∀z∈x,It z)->(∀z∈y,It z)->∀z∈x++y,It z:=λh1 h2 z hz=>(QC.mp hz).elim (h1 z) (h2 z);have okl:∀{x:Co},x.length<=30->(∀z∈x,It z)->OkI (.list x):=λh1 h2=>SR h1 h2
 obtain⟨A,la,sa,eA⟩:∃A:Co,A.length<=7/\(∀x∈A,It x)/\∀{Z:Ul},Z[0]?=Ci S0->Z[3]?=Ci S3->U4 (Uk 0) (Uq Ck) (UD (Uk 3) λx=>Ux (KB x)) Z=.ok (.list A) Z:=⟨_,cl _ _,Ba _ _,λr0 r3=>XV (Ur r0) Uu (Yj (Ur r3)) X9⟩
 obtain⟨A1,la1,sa1,eA1⟩:∃A:Co,A.length<=7/\(∀x∈A,It x)/\∀{Z:Ul},Z[0]?=Ci S0->Z[3]?=Ci S3->U4 (Uk 0) (Uq Ck) (UD (Uo UC (Uk 3) (Uq (.int 1))) λx=>Ux (KB x)) Z=.ok (.list A) Z:=⟨_,cl _ _,Ba _ _,λr0 r3=>XV (Ur r0) Uu (Yj (UB (Ur r3) Uu K2)) X9⟩
 obtain⟨B,lb,sb,eB⟩:∃A:Co,A.length<=7/\(∀x∈A,It x)/\∀{Z:Ul},Z[0]?=Ci S0->Z[3]?=Ci S3->U4 (Uk 0) (UD (Uk 3) λx=>Ux (KB x)) (Uq Ck) Z=.ok (.list A) Z:=⟨_,cl _ _,Ba _ _,λr0 r3=>XV (Ur r0) (Yj (Ur r3)) Uu X9⟩
 obtain⟨B1,lb1,sb1,eB1⟩:∃A:Co,A.length<=7/\(∀x∈A,It x)/\∀{Z:Ul},Z[0]?=Ci S0->Z[3]?=Ci S3->U4 (Uk 0) (UD (Uo UC (Uk 3) (Uq (.int 1))) λx=>Ux (KB x)) (Uq Ck) Z=.ok (.list A) Z:=⟨_,cl _ _,Ba _ _,λr0 r3=>XV (Ur r0) (Yj (UB (Ur r3) Uu K2)) Uu X9⟩
 let fx:D->D:=λx=>.list (A++[x]++B1)
 have hc:Ke (gN 9) (Uq Cm) (Uo UC (Uo UC (U4 (Uk 0) (Uq Ck) (UD (Uk 3) λx=>Ux (KB x))) (UJ (Up (Uk 9) (Um)))) (U4 (Uk 0) (UD (Uo UC (Uk 3) (Uq (.int 1))) λx=>Ux (KB x)) (Uq Ck))) T (UL [S0,S1,S2,S3,S4,S5,S6,pb (.list T),Ck]++J6 1 Ck) []=Ci (T.map fx):=by refine W7 (λZ=>∃x,Z=[S0,S1,S2,S3,S4,S5,S6,pb (.list T),Ck,x]) _ _ _ _ (by rw[Qd]) ?_ ⟨Ck,rfl⟩ (by rw[hTl];decide);rintro j y e hj he Z ⟨x,rfl⟩;rw[Qg,hj]at he;cases he;exact⟨_,UG (Qa Cj) Cj,rfl,UB (UB (eA Cj Cj) (Kv (Us (Ur Cj) Uy) (Qa Cj)) (ap (by omega) (Qa Cj))) (eB1 Cj Cj) (ZY (by rw[Qj,QN];omega)),_,rfl⟩
 have hfl:(T.map fx).length=20:=by rw[Qd,hTl]
 have hfT:∀x∈T.map fx,OkI x:=λx hx=>by obtain⟨y,hy,rfl⟩:=QB.mp hx;exact okl (by rw[Qj,Qj,QN];omega) (apl (apl sa λz hz=>by cases Qp.mp hz;exact hT y hy) sb1)
 generalize T.map fx=F at hc hfl hfT
 let R:Ul:=[S0,S1,S2,S3,S4,S5,S6,pb (.list T),Ci (.own F)]
 refine UO (Z1:=R) (Zr (Yp (ZX (Ur Cj) Y7) hc) (Qa Cj) Cj) ?_
 let C1:Co:=[.list (A++B1),.list (A1++B),.list (W.map Uw).reverse,.list (B++A),.list A1]
 let D1:Co:=F++C1
 refine UO (Z1:=[S0,S1,S2,S3,S4,S5,S6,pb (.list T),pb (.list D1)]) (KF (UB (VD Cj Cj) (Kv (Us (UB (eA Cj Cj) (eB1 Cj Cj) (ap (by omega) (by omega))) (Us (UB (eA1 Cj Cj) (eB Cj Cj) (ap (by omega) (by omega))) (Us (Pc (Ur Cj) Uu Uu (Yj (XA Uu))) (Us (UB (eB Cj Cj) (eA Cj Cj) (ap (by omega) (by omega))) (Us (eA1 Cj Cj) Uy))))) (Qa Cj)) (ZY (by rw[hfl];show 20+5<=_;omega))) (Qa Cj) Cj) ?_
 let C2:Co:=[.list (W.map Uw++[.tuple [.int (pl % (ws.length:Int)),.none]]),.list ([.tuple [.int (pl % (ws.length:Int)),O]]++W.map Uw),.tuple (W.map Uw),.none]
 let D2:Co:=D1++C2
 have lw:(W.map Uw).length<=8:=by rw[Qd];omega
 refine UO (Z1:=[S0,S1,S2,S3,S4,S5,S6,pb (.list T),pb (.list D2)]) (KF (UB (Ur Cj) (Kv (Us (UB (Ur Cj) (Kv (Us (K7 (Us (UB (Ur Cj) (Km Cj CH) (ZD (by omega))) (Us Uu Uy)) (Qa Cj)) Uy) (Qa Cj)) (ap lw (Qa Cj))) (Us (UB (Kv (Us (K7 (Us (UB (Ur Cj) (Km Cj CH) (ZD (by omega))) (Us (Ur Cj) Uy)) (Qa Cj)) Uy) (Qa Cj)) (Ur Cj) (ap (Qa Cj) lw)) (Us (ZJ (Us (Ur Cj) Uy) Cj) (Us Uu Uy)))) (Qa Cj)) (ZY (by rw[Qj,hfl];show 20+5+4<=_;omega))) (Qa Cj) Cj) ?_
 have hD:∀x∈D2++[J7 [],.dict []],OkI x:=λx hx=>by
  rcases QC.mp hx with hx|hx
  .rcases QC.mp hx with hx|hx
   .rcases QC.mp hx with hx|hx
    .exact hfT x hx
    .rcases Qu.mp hx with rfl|hx
     .exact okl (by rw[Qj];omega) (apl sa sb1)
     rcases Qu.mp hx with rfl|hx
     .exact okl (by rw[Qj];omega) (apl sa1 sb)
     rcases Qu.mp hx with rfl|hx
     .exact okl (by rw[List.length_reverse];omega) λz hz=>sw z (List.mem_reverse.mp hz)
     rcases Qu.mp hx with rfl|hx
     .exact okl (by rw[Qj];omega) (apl sb sa)
     .cases Qp.mp hx
      exact okl (by omega) sa1
   .rcases Qu.mp hx with rfl|hx
    .exact okl (by rw[Qj,QN];omega) (apl sw λz hz=>by cases Qp.mp hz;exact Zp (smO Ck) (ZK (by omega)) Vv)
    rcases Qu.mp hx with rfl|hx
    .exact okl (by rw[Qj,QN];omega) (apl (λz hz=>by cases Qp.mp hz;exact Zp smo (ZK (by omega)) pO) sw)
    rcases Qu.mp hx with rfl|hx
    .exact⟨λ_ e=>(by cases e),WX (WT (m:=30) (λx hx=>(sw x hx).2) (by omega)) (by decide) (by decide)⟩
    .cases Qp.mp hx
     exact⟨λ_ e=>(by cases e),Vv⟩
  .rcases Qu.mp hx with rfl|hx
   .exact okl (by decide) λz hz=>by cases hz
   .cases Qp.mp hx
    exact⟨λ_ e=>(by cases e),Li,by decide +kernel⟩
 have k0:0<=n / 61 % 31:=Jf _ (by decide);have k1:n / 61 % 31<31:=Ja _ (by decide);obtain⟨k,hk⟩:∃k:Nat,n / 61 % 31=k:=⟨(n / 61 % 31).toNat,by omega⟩
 have hDl:(D2++[J7 [],.dict []]).length=31:=by rw[Qj,Qj,Qj,hfl];rfl
 have Bv:k<(D2++[J7 [],.dict []]).length:=by omega
 have C6:oIx (.list (D2++[J7 [],.dict []])) (.int (n / 61 % 31))=Ci ((D2++[J7 [],.dict []])[k]):=by rw[hk];exact Kh (Qe Bv)
 exact UX (UB (UB (Ur Cj) (Kv (Us (Kv Uy (Qa Cj)) (Us Uu Uy)) (Qa Cj)) (ZY (by rw[Qj,Qj,hfl];show 20+5+4+2<=_;omega))) (UB (UB (Ur Cj) Uu (Tl (by decide) (by decide))) Uu (ZD (by decide))) C6) ⟨_,rfl,hD _ (QT Bv)⟩
theorem SQ(g:Good cs ls)(hl:ws.length=ls.length){d:D}(hd:OkI d):ZR [Kc cs ls,U9 ws,d]=Ci (.bool Cm):=by
 have l7:=g.l7;obtain⟨hok,hpd⟩:=hd;have hpw:=LN g;have r1:=RU hpw (by decide) (by decide);have r2:=RU hpd (by decide) (by decide)
 let S0:Option Sl:=Ci (.pub (Kc cs ls))
 let S1:Option Sl:=Ci (.pub (U9 ws))
 let S2:Option Sl:=Ci (.pub d)
 let kept:Co:=[.str (Kc cs ls).shown,U9 ws,.str d.shown]
 let S3:Option Sl:=Ci (.own kept)
 refine ZL (Z:=[S0,S1,S2,Ck,Ck]) Cj ?_;unfold Wi;refine UO (Z1:=[S0,S1,S2,S3,Ck]) (Zr (X6 (Us (ZJ (Us (Ur Cj) Uy) r1) (Us (Kw (F2 Cj (show YK [U9 ws]=Ci (ws.map Uv)from rfl))) (Us (ZJ (Us (Ur Cj) Uy) r2) Uy))) (Qa Cj)) (Qa Cj) Cj) ?_;obtain⟨b,hb,hi⟩:=EC g hl λxs e=>(hok xs e).1
 obtain⟨b2,hb2,hi2⟩:=DH g hl hok;have hbb:b2=b:=by rw[JN,hi,hi2]
 subst hbb
 let S4:Option Sl:=Ci (.pub (.bool b2))
 refine UO (Z1:=[S0,S1,S2,S3,S4]) (KF (Kf (Us (Ur Cj) (Us (Ur Cj) (Us (Ur Cj) Uy))) Cj hb) (Qa Cj) Cj) ?_;apply Kl;refine U5 (b:=Cn) (Z1:=[S0,S1,S2,S3,S4]) (KL (K3 (Ur Cj) Cj) (Zb Cj (Kf (Us (Ur Cj) (Us (Ur Cj) (Us (Ur Cj) Uy))) Cj hb2) (show oNe (.bool b2) (.bool b2)=Ci Cn by cases b2<;>kernel_rfl))) (λz=>by cases z) λ_=>Kt (Kp ?_)
 have hk:∀x∈kept,x.canLay0=Cm/\x.depth<=2:=a2 ⟨hpw.2,by simp[Uc]⟩ (a2 ⟨OL ws,GM ws⟩ (a1 ⟨hpd.2,by simp[Uc]⟩));have h1:(J7 kept).canLay0=Cm:=TL λx hx=>(hk x hx).1;have h2:PyData.depthAll kept<=2:=TB λx hx=>(hk x hx).2
 have he:oEq (.list kept) (.list kept)=Ci Cm:=by unfold oEq;rw[Qs ⟨h1,h1,by have:=Ra h2;omega⟩,OQ _ h1]
 exact UX (Kw (Rr Cj (Kv (Us (ZJ (Us (Ur Cj) Uy) r1) (Us (Ur Cj) (Us (ZJ (Us (Ur Cj) Uy) r2) Uy))) (Qa Cj)) Cj he)) Cj
theorem Pt(W:List (Nat×Cu)):(W.map Uw).all nl0=Cm:=by rw[JK,Q3];rintro⟨i,_|t⟩ _<;>rfl
theorem Ps{s:D->Ul->Cv}{g:M Co}(P:Co->Prop)(I:Ul->Prop):∀(ds:Co)(Z:Ul)(es:Co),(∀d∈ds,∀Z,I Z->∃Z1 r,s d Z=Ci Z1/\g Z1=.ok r Z1/\r.all nl0=Cm/\P r/\I (UL Z1))->I Z->es.length+ds.length<=1000000->(∀x∈es,∃r,x=.list r/\P r)->∃es',cTF s (Uq Cm) g ds Z es=Ci es'/\es'.length=es.length+ds.length/\∀x∈es',∃r,x=.list r/\P r
 |[],Z,es,_,_,_,h=>⟨es,rfl,rfl,h⟩
 |d::ds,Z,es,st,hi,hl,h=>by
  rw[QI]at hl;obtain⟨Z1,r,e1,e2,e3,p,i1⟩:=st d Ql Z hi;obtain⟨es',h1,h2,h3⟩:=Ps P I ds (UL Z1) (es++[.list r]) (λd' hd=>st d' (Qo _ hd)) i1 (by rw[Qj,QN];omega) λx hx=>(QC.mp hx).elim (h x) λhx=>⟨r,Qp.mp hx,p⟩
  refine⟨es',?_,by rw[h2,Qj,QN,QI];omega,h3⟩;rw[cTF,e1];dsimp only[Uq];rw[Qs Cj,e2];dsimp only;rw[Qs ⟨e3,by omega⟩,h1]
abbrev Yw:Pat:=.tup [.lst .leaf,.lst (.lst .leaf)]
theorem Fe:∀ns:Cp,ns.length<=63->Xi [.list (ns.map int)]=Ci (.bool Cm):=by
 intro ns hns
 let S0:Option Sl:=Ci (.pub (.list (ns.map int)))
 refine ZL (Z:=[S0,Ck,Ck,Ck,Ck,Ck,Ck,Ck]) Cj ?_;unfold Wh;obtain⟨r,hr,cs,ls,rfl,g,_⟩:=DZ 6 7 5 (ns:=ns) (by omega) 0;have l7:=g.l7
 let S1:Option Sl:=Ci (.deep Yw (Kc cs ls))
 refine UO (Z1:=[S0,S1,Ck,Ck,Ck,Ck,Ck,Ck]) (PR (Kf (Us (Ur Cj) (Us Uu (Us Uu (Us Uu (Us Uu Uy))))) Cj hr) (Qa Cj) Cj) ?_;obtain⟨v8,hv8⟩:=TV ns 8 (by omega);obtain⟨r,hd0,ws,rfl,dl⟩:=DF g v8 8
 let S2:Option Sl:=Ci (.own (ws.map Uv))
 have CI:=dl.len
 have hwr:∀t,Ci t∈ws->0<=t/\t<10:=λt ht=>by
  obtain⟨i,hi,e⟩:=List.mem_iff_getElem.mp ht;have CT:i<ls.length:=by omega
  obtain⟨r,hr,htr⟩:=Jo.mp (dl.wish i t ls[i] (by rw[Qe hi,e]) (Qe CT));have:=(g.rk ls[i] (QT CT)).there r hr t htr;have:=g.c6;omega
 have hno:(ws.map Uv).all nl0=Cm:=by rw[JK,Q3];rintro(_|t) _<;>rfl
 refine UO (Z1:=[S0,S1,S2,Ck,Ck,Ck,Ck,Ck]) (Zr (Rn (SB (Us (Ur Cj) (Us (Kf (Us (Ur Cj) (Us Uu Uy)) Cj hv8) (Us Uu Uy))) Cj hd0) hno) (Qa Cj) Cj) ?_;obtain⟨v0,hv0⟩:=TV ns 0 (by omega);apply Kl;apply Ye (λ_ Z=>∃x3 x4 x5,Z=[S0,S1,S2,x3,x4,x5,Ck,Ck])
 case h1=>exact VC (Us (UB (Kv (Us (Kf (Us (Ur Cj) (Us Uu Uy)) Cj hv0) Uy) (Qa Cj)) (XV (Ur Cj) (Yj Uu) (Yj Uu) X9) (Fq (by omega))) Uy) VI
 case h0=>exact⟨_,_,_,rfl⟩
 case hst=>
  rintro i d Z hi ⟨x3,x4,x5,rfl⟩;obtain⟨x,hx,rfl⟩:=X3 hi;obtain⟨c,rfl⟩:=Fs hx;rw[JJ];refine⟨_,KQ Cj (U6 (UG (Qa Cj) Cj) (U6 (UG (Qa Cj) Cj) KR)),?_⟩;unfold PF
  let S3:Option Sl:=Ci (.pub (.int (i:Nat)))
  let S4:Option Sl:=Ci (.pub (.int c))
  obtain⟨r,hch,W,rfl,CZ,BV,hW⟩:=Nv g CI c (20+(i:Nat))
  let S5:Option Sl:=Ci (.own (W.map Uw))
  refine UO (Z1:=[S0,S1,S2,S3,S4,S5,Ck,Ck]) (Zr (Rn (SB (Us (Ur Cj) (Us (Ur Cj) (Us (Ur Cj) (Us (UB Uu (Ur Cj) K2) Uy)))) Cj hch) (Pt W)) (Qa Cj) Cj) ?_;obtain⟨r,hnum,dg,rfl,hdl,hdb⟩:=VN c (70+(i:Nat)) (sizes:=[61*31*8]) (by decide) (by decide)
  obtain⟨z,rfl⟩:∃z,dg=[z]:=by
   rcases dg with _|⟨z,_|⟨y,r⟩⟩
   .cases hdl
   .exact⟨z,rfl⟩
   .cases hdl
  have hz:=hdb 0 z _ Cj Cj;obtain⟨B,hB,hBo⟩:=DE CZ BV hW hwr (by omega) (n:=z+7*(i:Nat)) (by omega);have hWo:OkI (.list (W.map Uw)):=SR (by rw[Qd];omega) λx hx=>by obtain⟨p,hp,rfl⟩:=QB.mp hx;obtain⟨h1,h2⟩:=hW p hp;exact Sj (by omega) h2
  refine UO (Z1:=[S0,S1,S2,S3,S4,S5,Ck,Ck]) (GO (d:=B) (b:=Cn) (Kf (Us (Ur Cj) (Us (Ur Cj) (Us (UB (UB (Kf (Us (Ur Cj) (Us (UB Uu (Ur Cj) K2) (Us (Kv (Us (UB (UB Uu Uu (YT (by decide) (by decide))) Uu (YT (by decide) (by decide))) Uy) (Qa Cj)) Uy))) Cj hnum) Uu (show oIx (.list ([z].map int)) (.int 0)=Ci (.int z)from rfl)) (UB Uu (Ur Cj) (YT (by decide) (by decide))) K2) Uy))) Cj hB) (Qa Cj) (KL (ZW (Yi (t:=Cm) (Kf (Us (Ur Cj) (Us (Ur Cj) (Us (Ur Cj) Uy))) Cj (SQ g CI hWo)))) (ZW (Yi (t:=Cm) (Kf (Us (Ur Cj) (Us (Ur Cj) (Us (Ur Cj) Uy))) Cj (SQ g CI hBo))))) Cj) ?_;exact Kt (ZI ⟨_,_,_,rfl⟩)
 case hend=>
  rintro Z ⟨x3,x4,x5,rfl⟩;refine Kp ?_;have BJ:∀(x:D),x∈DL.cutD (ns.map int) (Ci 9) (Ci 20)->∃c,x=.int c:=λx hx=>by unfold DL.cutD at hx;obtain⟨c,_,rfl⟩:=QB.mp (List.mem_of_mem_drop (Jz hx));exact⟨c,rfl⟩
  have hcl:(DL.cutD (ns.map int) (Ci 9) (Ci 20)).length<=63:=by unfold DL.cutD;rw[Ji,JB,Qd];omega
  obtain⟨es,BI,Bj,he3⟩:=Ps (s:=gT 2 (gNC (gN 8) (gNC (gN 9) (gN0)))) (g:=YZ 4 Wa (Up (Uk 1) (Up (Uk 2) (Up (Uk 9) (Up (Uo UC (Uq (.int 20)) (Uk 8)) (Um)))))) (λr=>∃W:List (Nat×Cu),r=W.map Uw/\W.length<=7/\∀p∈W,p.1<ws.length/\∀t,p.2=Ci t->0<=t/\t<10) (λZ=>∃y3 y4 y5 y6 y7 y8 y9,Z=[S0,pb (Kc cs ls),pb (U9 ws),y3,y4,y5,y6,y7,y8,y9]) (Zl 0 (DL.cutD (ns.map int) (Ci 9) (Ci 20))) (UY [S0,S1,S2,x3,x4,x5,Ck,Ck]++J6 2 Ck) [] (λd hd Z ⟨y3,y4,y5,y6,y7,y8,y9,e⟩=>by subst e;obtain⟨j,hj⟩:=List.mem_iff_getElem?.mp hd;obtain⟨x,hx,rfl⟩:=X3 hj;obtain⟨c,rfl⟩:=BJ x (QH hx);obtain⟨r,hch,W,rfl,CZ,BV,hW⟩:=Nv g CI c (20+((0+j:Nat):Int));exact⟨_,_,KQ Cj (U6 (UG (Qa Cj) Cj) (U6 (UG (Qa Cj) Cj) KR)),SB (Us (Ur Cj) (Us (Ur Cj) (Us (Ur Cj) (Us (UB Uu (Ur Cj) K2) Uy)))) Cj hch,Pt W,⟨W,rfl,BV,hW⟩,_,_,_,_,_,_,_,rfl⟩) ⟨_,_,_,_,_,Ck,Ck,rfl⟩ (by rw[YX,Q0];omega) (λ_ h=>by cases h);have hcN:Xz (YM (Up (U4 (Uk 0) (UD (Uq (.int 9)) λx=>Ux (KB x)) (UD (Uq (.int 20)) λx=>Ux (KB x))) (Um))) 2 (gT 2 (gNC (gN 8) (gNC (gN 9) (gN0)))) (Uq Cm) (YZ 4 Wa (Up (Uk 1) (Up (Uk 2) (Up (Uk 9) (Up (Uo UC (Uq (.int 20)) (Uk 8)) (Um)))))) [S0,S1,S2,x3,x4,x5,Ck,Ck]=.ok es [S0,S1,S2,x3,x4,x5,Ck,Ck]:=by have hf:YM (Up (U4 (Uk 0) (UD (Uq (.int 9)) λx=>Ux (KB x)) (UD (Uq (.int 20)) λx=>Ux (KB x))) (Um)) [S0,S1,S2,x3,x4,x5,Ck,Ck]=.ok (Zl 0 (DL.cutD (ns.map int) (Ci 9) (Ci 20))) [S0,S1,S2,x3,x4,x5,Ck,Ck]:=VC (Us (XV (Ur Cj) (Yj Uu) (Yj Uu) X9) Uy) VI;unfold Xz;rw[hf];dsimp only;rw[BI]
  let S7:Option Sl:=Ci (.own es)
  refine UO (Z1:=[S0,S1,S2,x3,x4,x5,Ck,S7]) (Zr hcN (Qa Cj) Cj) ?_
  obtain⟨c0,Ba,rfl⟩:∃c r,cs=c::r:=by
   cases cs with
   |nil=>exact absurd g.c1 (by decide)
   |cons c r=>exact⟨c,r,rfl⟩
  obtain⟨r0,Bo,rfl⟩:∃c r,ls=c::r:=by
   cases ls with
   |nil=>exact absurd g.l1 (by decide)
   |cons c r=>exact⟨c,r,rfl⟩
  obtain⟨w0,ws',rfl⟩:∃c r,ws=c::r:=by
   cases ws with
   |nil=>cases CI
   |cons c r=>exact⟨c,r,rfl⟩
  have m1:ZT .clr [1,0] Yw (Kc (c0::Ba) (r0::Bo))=Ci (Kc (c0::Ba) ([]::Bo)):=rfl;have m2:ZT (.set 0 (.int 7)) [0] Yw (Kc (c0::Ba) ([]::Bo))=Ci (Kc (7::Ba) ([]::Bo)):=rfl
  let T1:Option Sl:=Ci (.deep Yw (Kc (c0::Ba) ([]::Bo)))
  let T2:Option Sl:=Ci (.deep Yw (Kc (7::Ba) ([]::Bo)))
  let U2:Option Sl:=Ci (.own ((none::ws').map Uv))
  refine UO (Z1:=[S0,T1,S2,x3,x4,x5,Ck,S7]) (PQ Cj m1 Cj) ?_;refine UO (Z1:=[S0,T2,S2,x3,x4,x5,Ck,S7]) (PQ Cj m2 Cj) ?_;refine UO (Z1:=[S0,T2,U2,x3,x4,x5,Ck,S7]) (P1 Uu Cj Uu Cj ⟨by decide,by rw[Qd,QI];omega⟩ Cj) ?_
  have g':Good (7::Ba) ([]::Bo):=⟨g.c1,g.c6,λc hc=>(Qu.mp hc).elim (λe=>by subst e;decide) λh=>g.c7 c (Qo _ h),g.l1,g.l7,λrs hrs=>by
   rcases Qu.mp hrs with rfl|h
   .exact⟨JI _,(λ_ h=>by cases h),(λ_ h=>by cases h),List.nodup_nil⟩
   .exact g.rk rs (Qo _ h)⟩
  have hwl':(none::ws').length=(([]:List Cp)::Bo).length:=CI;have hel:es.length<=1000:=by rw[Bj,Q0,YX];omega
  have hc:Ke (gN 8) (UP (KG (UF 3 ZR (Up (Uk 1) (Up (Uk 2) (Up (Uk 8) (Um))))))) (Uk 8) es (UL (UY [S0,T2,U2,x3,x4,x5,Ck,S7])++J6 1 Ck) []=Ci []:=by
   rw[Y4 (λ_=>Cn) (λd=>d) (λZ=>∃y3 y4 y5 y6 y7 x,Z=[S0,pb (Kc (7::Ba) ([]::Bo)),pb (U9 (none::ws')),y3,y4,y5,y6,y7,x]),List.filter_eq_nil_iff.mpr (λ_ _ h=>by cases h)]
   .rfl
   .rintro d hm Z ⟨y3,y4,y5,y6,y7,x,rfl⟩
    obtain⟨r,rfl,W,rfl,BV,hW⟩:=he3 d hm;have hWo:OkI (.list (W.map Uw)):=SR (by rw[Qd];omega) λx hx=>by obtain⟨p,hp,rfl⟩:=QB.mp hx;obtain⟨h1,h2⟩:=hW p hp;exact Sj (by omega) h2
    exact⟨_,UG (Qa Cj) Cj,ZW (Yi (t:=Cm) (Kf (Us (Ur Cj) (Us (Ur Cj) (Us (Ur Cj) Uy))) Cj (SQ g' hwl' hWo))),(λz=>by cases z),_,_,_,_,_,_,rfl⟩
   .exact⟨_,_,_,_,_,Ck,rfl⟩
   .rw[Q0];omega
  exact UX (GV (Kw (UB (Kw (Yp (ZX (Ur Cj) Y7) hc)) (Kv Uy (Qa Cj)) (show oEq (.list []) (.list [])=Ci Cm by kernel_rfl))) Cj) Cj
end
end W
open PySem PySem.W PyProof.Rows
set_option maxRecDepth 100000 in
set_option maxHeartbeats 0 in
theorem PySem.Challenge.cw_wishdeal_k27_ways_let_by_holds : PySem.Challenge.rw_wishdeal_k27_ways_let_by.Holds := by
 w_on;o_law
 refine holds_open (q:=W.q0) (loose:=[]) (Xt:=λs=>xlAt W.q0 [] s&&recOk [] s) (XP:=XL W.q0 []) (Yf:=Hook.obs .none) (Ya:=Hook.val .none) (YP:=Hook.says .none) (N:=2592) (d:=W.d_aw) (kwd:=[])
  W.Ld (Hook.of .none) (Hook.keeps .none) (λs e=>xl_of s (Bool.and_eq_true_iff.mp e).1) XL.keeps (by rfl) (by rfl) (by rfl)
  (λs e=>recFacts_of (Bool.and_eq_true_iff.mp e).2) (by rfl) (by assumption) (by decide +kernel) ⟨rfl,rfl,rfl,rfl,rfl,by decide +kernel⟩ ?hw (W.walk W.Fe)
 case hw=>w_witness2


import PyProof.Rows.All
import Wide.All
import OpenK.AllK
import Wide.FinOn
import Lean
import PyProof.EqAt
import PyProof.EqKinds
import PyProof.TupleCall
import PyProof.EnumMake
import PyProof.ZipIter
import PyProof.ExcClass2
import PyProof.ExcInit
import PyProof.ExcBaseAll.ValueError
import PyProof.FString2
import PyProof.ExcArgsOwn
import PyProof.InstStoreFacts
import ObjForm.Fk.InstStore
import ObjForm.Fk.InstLoad
import PyProof.StationsW
import PyProof.RulesAs
import PyProof.NsDelKeeps
import OpenK.KMore
import PyProof.IsiBase
import OpenK.KNot
import PyProof.Rows.RuleN_isinstance
import PyProof.NeData
import PyProof.P3In
import PyProof.StrWalks
import PyProof.ConsumeWalk
import PyProof.SliceStr2
import PyProof.MeetsStr
import KE.KItem
import KE.KUnpack
import KE.KRevSl
import PyProof.Rows.SetFrom
import PyProof.SetRoads
import PyProof.Rows.Range3
import PyProof.CallType
import PyProof.Rows.CallKwBuiltin
import PyProof.Rows.MinMaxN
import PyProof.SumWalkG
import PyProof.Rows.SeqMore
import PyProof.Rows.SortWalk
import PyProof.Rows.SumAny
import PyProof.Rows.SeqMore2
import KE.KSortTup
import PyProof.Rows.SortShellK
import PyProof.ReprRoads
import PyProof.ReprBulk
import PyProof.CallFns
import PyProof.NeKinds
import PyProof.Rows.StrJoinMade
import PyProof.StrCalls
import KE.KIntText
import PyProof.ReprDict
import PyProof.DictIter
import PyProof.Rows.DictUnroll
import PySem.Challenge.RW_wishdeal_k20_a_look_at_aims
set_option Elab.async false
set_option linter.all false
set_option maxRecDepth 100000
set_option maxHeartbeats 4000000
namespace DL
open PySem PySem.Spec PySem.W PyProof.Rows
def topRunT (tb:String->Option Builtin) (p:Program) (w:World) (m:Nat) (ann:Option Value):Nat->SharedT->Thread->Option SharedT
 | 0,_,_=>none
 | n+1,s,t=>match through t,stepOk m ann t with
  | true,_=>some s
  | false,false=>none
  | false,true=>match stepT (denote tb) p w s t with
   | some x=>topRunT tb p w m ann n x.1 x.2
   | none=>none
theorem zdV {tb:String->Option Builtin} {p:Program} {w:World} {m:Nat} {ann:Option Value}:∀ {n:Nat} {s s':SharedT} {t:Thread},topRunT tb p w m ann n s t=some s'->topRun tb p w m ann n s.abs t=some s'.abs
 | 0,_,_,_,h=>by cases h
 | n+1,s,s',t,h=>by
  rw [topRunT] at h
  rw [topRun]
  cases ht:through t with
  | true=>rw [ht] at h;cases h;rfl
  | false =>
   rw [ht] at h
   cases hk:stepOk m ann t with
   | false=>rw [hk] at h;cases h
   | true =>
    rw [hk] at h
    dsimp only at h ⊢
    cases hs:stepT (denote tb) p w s t with
    | none=>rw [hs] at h;cases h
    | some x=>rw [hs] at h;rw [stepT_spec hs];exact zdV h
def btOf (l:List Obj):BT:=(l.foldl (fun (x:BT × Nat) o=>(x.1.ins x.2 o,x.2+1)) (.nil,0)).1
noncomputable def T0 (w:World) (os:OsState):SharedT:=⟨btOf (boot_heap w.params).objs.toList,11,(boot_heap w.params).life,#[],boot_drawn,boot_toks,os⟩
theorem zjY (w:World) (os:OsState):(T0 w os).abs=⟨boot_heap w.params,#[],boot_drawn,boot_toks,os⟩:=by kernel_rfl
theorem zh8 (w:World):((boot_heap w.params).isNs mainGlobals && (#[]:Array GenState).size == 0,(boot_heap w.params).objs.size,(boot_heap w.params).nsMap mainGlobals "__annotations__")=(true,11,some (.ref 6)):=by kernel_rfl
noncomputable abbrev zn9 (p q:Program) (loose:List Str) (Xt:Shared->Bool) (w:World) (t:SharedT) :=
 ((staticsOk (importedModules p.main.body) (boot_heap w.params) t.abs.heap && namesBound p t.abs.heap && gensDone t.abs && laidKept (boot_heap w.params) t.abs.heap),openSeen q loose (importedModules p.main.body) Xt true t.abs)
abbrev VB0:List Value:=[.type "ValueError", .type "Exception", .type "BaseException", .type "object"]
def zh9:List Str:=["__setattr__", "__getattribute__", "__getattr__", "__class__", "part", "number", "row"]
def zfD (nm:Str):Str:=nm ++ "." ++ "__init__"
def xB (h:Heap) (nm:Str) (own:Bool):Bool:=match h.nsMap mainGlobals nm with
 | some (.ref C)=>(match h.get? C with
  | some ⟨.type t,_,.cls cd,sl⟩=>(t == "type") && (cd.name == nm) && cd.hasDict && !cd.hasDel && (match sl.toList with | [_,_,_,_,k4,_]=>decide (k4=some (.builtin "ValueError.__new__")) | _=>false) && h.isNs cd.ns && (zh9.all fun x=>(h.nsMap cd.ns x).isNone) && (own || (h.nsMap cd.ns "__init__").isNone) &&
   (if nm = "DealError" then decide (cd.mro=.ref C :: VB0) else match h.nsMap mainGlobals "DealError" with | some (.ref D)=>decide (cd.mro=.ref C :: .ref D :: VB0) | _=>false)
  | _=>false)
 | _=>false
def xSh (h:Heap) (nm:Str):Option (Bool × FnShape):=match h.nsMap mainGlobals nm with
 | some (.ref C)=>(match h.get? C with
  | some ⟨_,_,.cls cd,_⟩=>(match h.fnAt cd.ns "__init__", h.shapeAt cd.ns "__init__" with | some (_,o,_),some sh=>some (decide (o.cls=.type "function"),sh) | _,_=>none)
  | _=>none)
 | _=>none
def zce (st:Stmt):Stmt:=match st with
 | .ClassDef _ _ _ (m :: _) _ _ _ _ _ _ _=>m
 | _=>.Pass ⟨0,0,0,0⟩
def zmD (s:Stmt):Arguments:=match s with
 | .FunctionDef _ a _ _ _ _ _ _ _ _=>a
 | _=>default
def zmE (s:Stmt):List Stmt:=match s with
 | .FunctionDef _ _ b _ _ _ _ _ _ _=>b
 | _=>[]
def zk1 (s:Stmt):Scope:=match s with
 | .FunctionDef _ _ _ _ _ _ sc _ _ _=>sc
 | _=>{ kind:=.function,names:=[],isGenerator:=false,isCoroutine:=false }
def shOf (nm:Str) (st:Stmt):FnShape:=⟨"__init__", zfD nm,zmD st,.stmts (zmE st),zk1 st,mainGlobals,[],.none,.none,none,.none,builtinsNs,true⟩
abbrev XL0:=List (Str × Option Nat)
def xSeen (l:XL0) (s:Shared):Bool × List (Bool × Option (Bool × FnShape)):=(s.heap.isNs cStatics && (s.heap.nsMap cStatics "thirdparty.any").isNone,l.map fun c=>(xB s.heap c.1 c.2.isSome,if c.2.isSome then xSh s.heap c.1 else none))
def xGood (p:Program) (l:XL0):Bool × List (Bool × Option (Bool × FnShape)):=(true,l.map fun c=>(true,c.2.map fun i=>(true,shOf c.1 (zce (p.main.body.getD i (.Pass ⟨0,0,0,0⟩))))))
theorem zjZ {α : Type} {Yf:Shared -> α} {Ya:World -> α} {p q:Program} {loose:List Str} {Xt:Shared->Bool} {N M:Nat} (e:opening p=plainProg p.main.scope.names) (hN:Nat.ble 600 N=true) (f:∀ s,fenceModules? p s=some s) (le:Nat.ble M N=true)
  (run:∀ (w:World) (os:OsState),(topRunT treeTable p w 11 (some (.ref 6)) M (T0 w os) (topStub p)).map (fun t=>(zn9 p q loose Xt w t,Yf t.abs))=some ((true,openGood q loose),Ya w)):LeftO p q loose Xt Yf Ya N:=fun w=>by
 obtain ⟨⟨h,gs,d,k,os⟩,e0,e'⟩:=Option.map_eq_some_iff.mp (boot_open e hN f w)
 have e':(h,gs,d,k)=(boot_heap w.params,#[],boot_drawn,boot_toks):=e'
 obtain ⟨rfl,rfl,rfl,rfl⟩:h=boot_heap w.params/\gs = #[]/\d=boot_drawn/\k=boot_toks:=by simpa only [Prod.mk.injEq] using e'
 obtain ⟨t,ht,l⟩:=Option.map_eq_some_iff.mp (run w os)
 have hr:=zdV ht
 rw [zjY] at hr
 have r:=topRun_mono (N - M) _ _ _ _ hr
 rw [show M+(N - M)=N by have:=Nat.le_of_ble_eq_true le;omega] at r
 obtain ⟨l0,l3⟩:=Prod.mk.inj l
 obtain ⟨l1,l2⟩:=Prod.mk.inj l0
 have z:=zh8 w
 obtain ⟨z1,z2,z3⟩:_/\_/\_:=by simpa only [Prod.mk.injEq] using z
 have tf:topFrom treeTable p w N ⟨boot_heap w.params,#[],boot_drawn,boot_toks,os⟩=some t.abs:=by
  unfold topFrom
  dsimp only
  rw [z1,z2,z3,r]
  show (match staticsOk (importedModules p.main.body) (boot_heap w.params) t.abs.heap && namesBound p t.abs.heap && gensDone t.abs && laidKept (boot_heap w.params) t.abs.heap with | true=>some t.abs | false=>none)=_
  rw [l1]
 unfold openEnds
 rw [e0]
 show (topFrom treeTable p w N _).map _=_
 rw [tf]
 exact congrArg some (Prod.ext l2 l3)
end DL
open PySem in
lay_quick PySem.Challenge.pw_wishdeal_k20_a_look_at_aims DL.topRunT PySem.W.openGood PySem.W.staticsOk PySem.W.namesBound PySem.W.laidKept PySem.W.xlAt DL.xSeen DL.xGood
namespace W
open PySem PySem.Spec DL
abbrev p0:Program:=PySem.Challenge.pw_wishdeal_k20_a_look_at_aims
def zd5:List Nat:=[1,2,4,5,6,8,9,10,11,12,13,14,15,16,18,19,20,22,23,24,26,27,28,29,30,31,32,33,34,35,36,37,38]
def ixL:List Nat:=[1,2,12,13,14,15,16,19,20,22,23,24,26,27,28,29,30,31,32,33,34,35,36,37,38]
abbrev q0:Program:=PySem.W.view p0 zd5
def clsL:XL0:=[("DealError", some 4),("NoWishes", some 5),("NoAim", some 6)]
theorem zoa:∀ (w:World) (os:OsState),(PySem.W.Fast.tw10708255244068714335 PySem.W.Fast.tw14364793385576792824 PySem.W.Fast.tw15958790153321133156 w 11 (some (.ref 6)) 1694 (T0 w os) (PySem.W.topStub PySem.W.Fast.tw15958790153321133156)).map (fun t=>(((PySem.W.Fast.tw13471830651028734593 (PySem.W.Fast.tw5923862056798008813 (Program.main PySem.W.Fast.tw15958790153321133156).body) (PySem.W.boot_heap w.params) t.abs.heap && PySem.W.Fast.tw4683006035507612052 PySem.W.Fast.tw15958790153321133156 t.abs.heap && PySem.W.gensDone t.abs && PySem.W.Fast.tw16898566250750103049 (PySem.W.boot_heap w.params) t.abs.heap),PySem.W.Fast.tw4187177175401517315 (PySem.W.view PySem.W.Fast.tw15958790153321133156 zd5) [] (PySem.W.Fast.tw5923862056798008813 (Program.main PySem.W.Fast.tw15958790153321133156).body) (fun s=>PySem.W.Fast.tw4757257242682413121 (PySem.W.view PySem.W.Fast.tw15958790153321133156 zd5) [] s && PySem.W.recOk [] s) true t.abs),PySem.W.Fast.tw11121216462471823999 clsL t.abs))=some ((true,PySem.W.Fast.tw3486900944545009338 (PySem.W.view PySem.W.Fast.tw15958790153321133156 zd5) []),PySem.W.Fast.tw18030470931243306169 PySem.W.Fast.tw15958790153321133156 clsL):=by
 intro w os
 kernel_rfl
theorem zob:PySem.W.LeftO p0 q0 [] (fun s=>PySem.W.xlAt q0 [] s && PySem.W.recOk [] s) (xSeen clsL) (fun _=>xGood p0 clsL) 3288:=by
 refine zjZ (M:=1694) (by kernel_rfl) rfl (fun s=>by kernel_rfl) rfl fun w os=>?_
 have h:=zoa w os
 rw [← PySem.W.Fast.te10708255244068714335,← PySem.W.Fast.te14364793385576792824,← PySem.W.Fast.te4187177175401517315,← PySem.W.Fast.te5923862056798008813,← PySem.W.Fast.te13471830651028734593,← PySem.W.Fast.te4683006035507612052,← PySem.W.Fast.te16898566250750103049,← PySem.W.Fast.te4757257242682413121,← PySem.W.Fast.te3486900944545009338,← PySem.W.Fast.te11121216462471823999,← PySem.W.Fast.te18030470931243306169,← PySem.W.Fast.te15958790153321133156] at h
 exact h
end W
namespace L2
open PySem PySem.Spec PyProof.Rows
abbrev Key:=Sum Int Str
def zgv:Key->Value->Bool
 | .inl k,v=>Value.isInt k v
 | .inr x,v=>Value.isStrOf x v
def keyH (w:World):Key->Int
 | .inl k=>hashInt k
 | .inr x=>hashStr w x
theorem zbb:∀ {k:Key} {v:Value},zgv k v=true->(∃ i t,k=Sum.inl i/\v=Value.int i t) ∨ (∃ x t,k=Sum.inr x/\v=Value.str x t)
 | .inl i,v,h=>by
  obtain ⟨t,e⟩:=Value.isInt_shape (k:=i) (v:=v) h
  exact .inl ⟨i,t,rfl,e⟩
 | .inr x,v,h=>by
  obtain ⟨t,e⟩:=Value.isStrOf_shape (x:=x) (v:=v) h
  exact .inr ⟨x,t,rfl,e⟩
theorem zia (i:Int) (t:Tok):zgv (.inl i) (.int i t)=true:=by simp [zgv,Value.isInt]
theorem zib (x:Str) (t:Tok):zgv (.inr x) (.str x t)=true:=by simp [zgv,Value.isStrOf]
theorem zmF (a b:Int):decide ((Sum.inl a:Key)=Sum.inl b)=(a == b):=by
 by_cases e:a=b
 ·subst e;simp
 ·have h : ¬ (Sum.inl a:Key)=Sum.inl b:=fun q=>e (Sum.inl.inj q)
  rw [decide_eq_false h]
  exact (beq_eq_false_iff_ne.mpr e).symm
theorem zmG (a b:Str):decide ((Sum.inr a:Key)=Sum.inr b)=decide (a=b):=by
 by_cases e:a=b
 ·subst e;simp
 ·have h : ¬ (Sum.inr a:Key)=Sum.inr b:=fun q=>e (Sum.inr.inj q)
  rw [decide_eq_false h,decide_eq_false e]
theorem zmH (a:Int) (b:Str):decide ((Sum.inl a:Key)=Sum.inr b)=false:=decide_eq_false (fun q=>nomatch q)
theorem zmI (a:Str) (b:Int):decide ((Sum.inr a:Key)=Sum.inl b)=false:=decide_eq_false (fun q=>nomatch q)
def zbS (prog:Program) (w:World):PySem.KeyKind prog w Key where
 is:=zgv
 hash:=keyH w
 inj:=fun v a b ha hb=>by
  rcases zbb ha with ⟨i,t,rfl,rfl⟩ | ⟨x,t,rfl,rfl⟩
  ·rcases zbb hb with ⟨j,u,rfl,e⟩ | ⟨y,u,rfl,e⟩
   ·injection e with e1 _;rw [e1]
   ·exact nomatch e
  ·rcases zbb hb with ⟨j,u,rfl,e⟩ | ⟨y,u,rfl,e⟩
   ·exact nomatch e
   ·injection e with e1 _;rw [e1]
 byValue:=fun k v h=>by
  rcases zbb h with ⟨i,t,rfl,rfl⟩ | ⟨x,t,rfl,rfl⟩ <;> rfl
 pyHash:=fun hv h=>by
  rcases zbb hv with ⟨i,t,rfl,rfl⟩ | ⟨x,t,rfl,rfl⟩
  ·exact wpAny_pyHash_int h
  ·exact wpAny_pyHash_str h
 eqBool:=fun hu hv h=>by
  rcases zbb hu with ⟨i,t,rfl,rfl⟩ | ⟨x,t,rfl,rfl⟩
  ·rcases zbb hv with ⟨j,u,rfl,rfl⟩ | ⟨y,u,rfl,rfl⟩
   ·rw [zmF] at h;exact wpAny_eqBool_int h
   ·rw [zmH] at h;exact SeqAt.EqAt.int_str i t y u _ _ _ _ h
  ·rcases zbb hv with ⟨j,u,rfl,rfl⟩ | ⟨y,u,rfl,rfl⟩
   ·rw [zmI] at h;exact SeqAt.EqAt.str_int x t j u _ _ _ _ h
   ·rw [zmG] at h;exact wpAny_eqBool_str h
 «strs»:=fun k x t v h=>by
  rcases zbb h with ⟨i,u,rfl,e⟩ | ⟨y,u,rfl,e⟩
  ·exact nomatch e
  ·injection e with e1 _
   subst e1
   cases v <;> rfl
theorem zgw (prog:Program) (w:World) (i:Int) (t:Tok):(zbS prog w).is (.inl i) (.int i t)=true:=zia i t
theorem zgx (prog:Program) (w:World) (x:Str) (t:Tok):(zbS prog w).is (.inr x) (.str x t)=true:=zib x t
inductive V where
 | non | bl (b:Bool) | int (i:Int) | str (x:Str) | byt (b:Array UInt8) | flt (b:UInt64) | ref (a:Addr) | ty (n:String)
 deriving DecidableEq
def RelV:V->Value->Prop
 | .non,u=>u=Value.none
 | .bl b,u=>u=Value.bool b
 | .int i,u=>∃ t,u=Value.int i t
 | .str x,u=>∃ t,u=Value.str x t
 | .byt b,u=>∃ t,u=Value.bytes b t
 | .flt b,u=>∃ t,u=Value.float b t
 | .ref a,u=>u=Value.ref a
 | .ty n,u=>u=Value.type n
abbrev Vals:List V->List Value->Prop:=Paired RelV
theorem Vals.length {xs:List V} {us:List Value} (r:Vals xs us):xs.length=us.length:=Paired.length r
theorem Vals.get:∀ {xs:List V} {us:List Value} {i:Nat} {x:V},Vals xs us->xs[i]?=some x->∃ u,us[i]?=some u/\RelV x u
 | _,_,_,_,.nil,e=>by simp at e
 | _,_,0,_,.cons r _,e=>by simp at e;subst e;exact ⟨_,rfl,r⟩
 | _,_,i+1,x,.cons _ t,e=>by
  obtain ⟨u,h1,h2⟩:=Vals.get (i:=i) (x:=x) t (by simpa using e)
  exact ⟨u,by simpa using h1,h2⟩
theorem Vals.set {x:V} {u:Value} (r:RelV x u):∀ {xs:List V} {us:List Value} (i:Nat),Vals xs us->Vals (xs.set i x) (us.set i u)
 | _,_,_,.nil=>.nil
 | _,_,0,.cons _ t=>.cons r t
 | _,_,i+1,.cons q t=>.cons q (Vals.set r i t)
theorem Vals.append:∀ {xs ys:List V} {us ws:List Value},Vals xs us->Vals ys ws->Vals (xs ++ ys) (us ++ ws)
 | _,_,_,_,.nil,s=>s
 | _,_,_,_,.cons r t,s=>.cons r (Vals.append t s)
theorem Vals.take:∀ {xs:List V} {us:List Value} (n:Nat),Vals xs us->Vals (xs.take n) (us.take n)
 | _,_,0,_=>.nil
 | _,_,_+1,.nil=>.nil
 | _,_,n+1,.cons r t=>.cons r (Vals.take n t)
theorem Vals.drop:∀ {xs:List V} {us:List Value} (n:Nat),Vals xs us->Vals (xs.drop n) (us.drop n)
 | _,_,0,r=>r
 | _,_,_+1,.nil=>.nil
 | _,_,n+1,.cons _ t=>Vals.drop n t
def RelO:Option V->Option Value->Prop
 | some v,some u=>RelV v u
 | none,none=>True
 | _,_=>False
def KV {κ : Type}:List (κ × V)->List (κ × Value)->Prop:=Paired fun (p : κ × V) (q : κ × Value)=>p.1=q.1/\RelV p.2 q.2
def kV:Key->V
 | .inl i=>.int i
 | .inr x=>.str x
inductive HO where
  | lst (xs:List V)
  | tup (xs:List V)
  | dK (kvs:List (Key × V)) | dT (kvs:List (List Key × V))
  | set (S:Int->Bool) (n:Nat)
  | ins (C dx:Addr) (fs:List (Str × V))
  | own (x:Addr)
  | xd (fs:List (Str × V))
  | met (f x:Addr)
  | rng (lo hi:Int)
  | frz (o:Obj) (u:HO)
  | tbl (ps:Array Value)
  | ext (φ : Heap->Prop)
abbrev Hp:=Addr->Option HO
def upd (H:Hp) (a:Addr) (o:HO):Hp:=fun b=>if b=a then some o else H b
theorem zat {H:Hp} {a:Addr} {o:HO}:upd H a o a=some o:=by unfold upd;rw [if_pos rfl]
theorem zaw {H:Hp} {a b:Addr} {o:HO} (h:b ≠ a):upd H a o b=H b:=by unfold upd;rw [if_neg h]
theorem zic {H:Hp} {a:Addr} {o u:HO}:upd (upd H a o) a u=upd H a u:=by
 funext b;unfold upd;split <;> rfl
theorem zaL {H:Hp} {a b:Addr} {o:HO} (h:H a=some o) (h':H b=none):a ≠ b:=by
 intro e;subst e;rw [h] at h';cases h'
section
variable (P:Program) (w:World)
def zb6 (H:Hp) (h:Heap) (a:Addr):HO->Prop
 | .lst xs=>xs.length<=sizeLine/\∃ (its:List Value) (n:Nat),Vals xs its/\h.get? a=some { cls:=.type "list", data:=.seq its.toArray n }
 | .tup xs=>xs.length<=sizeLine/\∃ its:List Value,Vals xs its/\IsTup h a its.toArray
 | .dK kvs=>kvs.length<=sizeLine/\(a == sysModules)=false/\∃ vs,KV kvs vs/\h.DictOf (zbS P w) a vs
 | .dT kvs=>kvs.length<=sizeLine/\(a == sysModules)=false/\∃ xs:List (List Key × Addr × Value),
   Paired (fun (p:List Key × V) (q:List Key × Addr × Value)=>p.1=q.1/\H q.2.1=some (.tup (p.1.map kV))/\RelV p.2 q.2.2) kvs xs /\
   ∃ o es ep,h.get? a=some o/\o.ExactDict/\o.data=.dict es ep/\es.toList=xs.map (entryOfKey (tupleKind (zbS P w)))/\(xs.map (·.1)).Nodup
 | .set S n=>h.SetOf (intKind P w) a S n
 | .ins C dx fs=>H dx=some (.own a)/\fs.length<=1000/\dx ≠ a/\h.get? a=some (PySem.W.instObj C dx) /\
   ∃ mA,h.Ns1 dx mA/\(∀ f,RelO (fs.lookup f) (mA f))/\PySem.Within mA (fs.map (·.1))
 | .own _=>∃ o,h.get? a=some o
 | .xd fs=>∃ mA,h.Ns1 a mA/\∀ f,RelO (fs.lookup f) (mA f)
 | .rng lo hi=>∃ t u v,h.get? a=some { cls:=.type "range", data:=.fields #[.int lo t,.int hi u,.int 1 v] }
 | .frz o u=>h.get? a=some o/\zb6 H h a u
 | .tbl ps=>h.get? a=some { cls:=.none,data:=.fields ps }
 | .met f x=>h.get? a=some (PySem.W.methodObj (.ref f) (.ref x))
 | .ext φ=>φ h/\(∃ o,h.get? a=some o)/\∀ h1 h2:Heap,φ h1->(∀ o,h1.get? a=some o->h2.get? a=some o) -> φ h2
def HOk (H:Hp) (h:Heap):Prop:=∀ a o,H a=some o->zb6 P w H h a o
end
section
variable {P:Program} {w:World} {H H':Hp} {h h':Heap} {a:Addr} {o:HO}
theorem zb6.lt (x:zb6 P w H h a o):a < h.objs.size:=by
 cases o with
 | lst xs=>obtain ⟨_,_,_,_,e⟩:=x;exact Heap.lt_size e
 | tup xs=>obtain ⟨_,_,_,p⟩:=x;exact p.lt
 | dK kvs=>obtain ⟨_,_,_,_,o,_,_,e,_⟩:=x;exact Heap.lt_size e
 | dT kvs=>obtain ⟨_,_,_,_,o,_,_,e,_⟩:=x;exact Heap.lt_size e
 | set S n=>obtain ⟨o,_,_,_,e,_⟩:=x;exact Heap.lt_size e
 | ins C dx fs=>obtain ⟨_,_,_,e,_⟩:=x;exact Heap.lt_size e
 | own y=>obtain ⟨_,e⟩:=x;exact Heap.lt_size e
 | xd fs=>obtain ⟨_,⟨_,_,_,e,_⟩,_⟩:=x;exact Heap.lt_size e
 | rng lo hi=>obtain ⟨_,_,_,e⟩:=x;exact Heap.lt_size e
 | frz ob u=>obtain ⟨e,_⟩:=x;exact Heap.lt_size e
 | tbl ps=>exact Heap.lt_size (show h.get? a=some _ from x)
 | met f y=>exact Heap.lt_size (show h.get? a=some _ from x)
 | ext φ=>obtain ⟨_,⟨_,e⟩,_⟩:=x;exact Heap.lt_size e
theorem Paired.mapP {α β : Type} {F G : α -> β -> Prop}:∀ {l₁ : List α} {l₂ : List β},Paired F l₁ l₂ -> (∀ a b,F a b->G a b)->Paired G l₁ l₂
 | _,_,.nil,_=>.nil
 | _,_,.cons r t,f=>.cons (f _ _ r) (Paired.mapP t f)
theorem zb6.stay (x:zb6 P w H h a o) (k:∀ b u,(b=a ∨ H b=some (.own a))->h.get? b=some u->h'.get? b=some u)
  (ho:∀ b,H b=some (.own a)->H' b=some (.own a)) (ht:∀ b xs,H b=some (.tup xs)->H' b=some (.tup xs)):zb6 P w H' h' a o:=by
 induction o with
 | lst xs=>obtain ⟨z,its,n,r,e⟩:=x;exact ⟨z,its,n,r,k _ _ (.inl rfl) e⟩
 | tup xs=>obtain ⟨z,its,r,ob,e,c⟩:=x;exact ⟨z,its,r,ob,k _ _ (.inl rfl) e,c⟩
 | dK kvs=>obtain ⟨z,y,vs,r,ob,es,ep,e,c⟩:=x;exact ⟨z,y,vs,r,ob,es,ep,k _ _ (.inl rfl) e,c⟩
 | dT kvs =>
  obtain ⟨z,y,xs,r,ob,es,ep,e,c⟩:=x
  exact ⟨z,y,xs,Paired.mapP r fun p q z=>⟨z.1,ht _ _ z.2.1,z.2.2⟩,ob,es,ep,k _ _ (.inl rfl) e,c⟩
 | set S n=>obtain ⟨ob,es,ep,t,e,c⟩:=x;exact ⟨ob,es,ep,t,k _ _ (.inl rfl) e,c⟩
 | ins C dx fs =>
  obtain ⟨d,z,ne,e,mA,⟨od,es,ep,e2,c⟩,r⟩:=x
  exact ⟨ho _ d,z,ne,k _ _ (.inl rfl) e,mA,⟨od,es,ep,k _ _ (.inr d) e2,c⟩,r⟩
 | own y=>obtain ⟨ob,e⟩:=x;exact ⟨ob,k _ _ (.inl rfl) e⟩
 | xd fs=>obtain ⟨mA,⟨od,es,ep,e,c⟩,r⟩:=x;exact ⟨mA,⟨od,es,ep,k _ _ (.inl rfl) e,c⟩,r⟩
 | rng lo hi=>obtain ⟨t,u,v,e⟩:=x;exact ⟨t,u,v,k _ _ (.inl rfl) e⟩
 | frz ob u ih=>obtain ⟨e,q⟩:=x;exact ⟨k _ _ (.inl rfl) e,ih q⟩
 | tbl ps =>
  have e:h.get? a=some { cls:=.none,data:=.fields ps }:=x
  show h'.get? a=some { cls:=.none,data:=.fields ps }
  exact k a _ (.inl rfl) e
 | met f y =>
  have e:h.get? a=some (PySem.W.methodObj (.ref f) (.ref y)):=x
  show h'.get? a=some (PySem.W.methodObj (.ref f) (.ref y))
  exact k a _ (.inl rfl) e
 | ext φ=>obtain ⟨p,⟨o,e⟩,st⟩:=x;exact ⟨st _ _ p fun o q=>k _ _ (.inl rfl) q,⟨o,k _ _ (.inl rfl) e⟩,st⟩
theorem HOk.lt (x:HOk P w H h) (e:H a=some o):a < h.objs.size:=(x a o e).lt
theorem HOk.fresh (x:HOk P w H h) (e:h.objs.size<=a):H a=none:=by
 cases q:H a with
 | none=>rfl
 | some u=>exact absurd (Nat.lt_of_lt_of_le (x.lt q) e) (Nat.lt_irrefl _)
theorem HOk.kept (x:HOk P w H h) (k:∀ b u,h.get? b=some u->h'.get? b=some u):HOk P w H h':=fun a o e =>
 (x a o e).stay (fun b u _ q=>k b u q) (fun _ q=>q) fun _ _ q=>q
theorem HOk.laid (x:HOk P w H h) (k:∀ b u,h.get? b=some u->h'.get? b=some u) (hp:h.objs.size<=a) (new:zb6 P w (upd H a o) h' a o):HOk P w (upd H a o) h':=fun b u e=>by
 have hn:=x.fresh hp
 by_cases hb:b=a
 ·subst hb;rw [zat] at e;cases e;exact new
 ·rw [zaw hb] at e
  exact (x b u e).stay (fun c v _ q=>k c v q) (fun c q=>by rw [zaw (zaL q hn)];exact q) fun c xs q=>by rw [zaw (zaL q hn)];exact q
end
def Rd (H:Hp) (a:Addr) (u:HO):Prop:=H a=some u ∨ ∃ o,H a=some (.frz o u)
theorem Rd.ok {P:Program} {w:World} {H:Hp} {h:Heap} {a:Addr} {u:HO} (r:Rd H a u) (x:HOk P w H h):zb6 P w H h a u:=by
 rcases r with r | ⟨o,r⟩
 ·exact x a u r
 ·obtain ⟨_,q⟩:=x a _ r
  exact q
def Mut:Option HO->Prop
 | some (.lst _)=>True
 | some (.dK _)=>True
 | some (.dT _)=>True
 | some (.set _ _)=>True
 | some (.ins _ _ _)=>True
 | some (.ext _)=>True
 | _=>False
section
variable {P:Program} {w:World} {H:Hp} {h h':Heap} {x e:Addr} {o':HO}
theorem HOk.write (ok:HOk P w H h) (mu:Mut (H x)) (he:e=x ∨ H e=some (.own x)) (k:∀ b u,b ≠ e->h.get? b=some u->h'.get? b=some u) (heo:∃ u,h'.get? e=some u)
  (new:zb6 P w (upd H x o') h' x o'):HOk P w (upd H x o') h':=fun b u q=>by
 have nown:∀ c y,H c=some (.own y)->c ≠ x:=fun c y r z=>by subst z;rw [r] at mu;exact mu
 have ntup:∀ c xs,H c=some (.tup xs)->c ≠ x:=fun c xs r z=>by subst z;rw [r] at mu;exact mu
 by_cases hb:b=x
 ·subst hb;rw [zat] at q;cases q;exact new
 ·rw [zaw hb] at q
  by_cases hbe:b=e
  ·have q':H b=some (.own x):=by
    rcases he with z | z
    ·exact absurd (hbe.trans z) hb
    ·rw [hbe];exact z
   rw [q] at q';cases q'
   obtain ⟨v,hv⟩:=heo
   exact ⟨v,by rw [hbe];exact hv⟩
  ·refine (ok b u q).stay (fun c v hc r=>k c v ?_ r) (fun c r=>by rw [zaw (nown c b r)];exact r) fun c xs r=>by rw [zaw (ntup c xs r)];exact r
   rcases hc with rfl | hc
   ·exact hbe
   ·rintro rfl
    rcases he with z | z
    ·exact nown c b hc z
    ·rw [hc] at z;cases z;exact hb rfl
end
structure Un (fs ex:List Addr) (H H':Hp) (h h':Heap):Prop where
 keep:∀ b o,h.get? b=some o->H b=none->b ∉ fs->b ∉ ex->h'.get? b=some o
 slot:∀ b o,h.get? b=some o->H b=none->b ∈ fs->b ∉ ex->∃ sl,h'.get? b=some { o with slots:=sl }
 free:∀ b o,h.get? b=some o->H b=none->b ∉ ex->H' b=none
 there:∀ b o,h.get? b=some o->b ∉ ex->∃ o',h'.get? b=some o'
 tups:∀ b xs,H b=some (.tup xs)->H' b=some (.tup xs)
 frzs:∀ b o u,H b=some (.frz o u)->H' b=some (.frz o u)
 tbls:∀ b ps,H b=some (.tbl ps)->∃ more,H' b=some (.tbl (ps ++ more))
section
variable {fs fs' ex ex':List Addr} {H H1 H2:Hp} {h h1 h2 h':Heap} {a x e:Addr} {o:HO}
theorem Un.any (u:Un fs ex H H1 h h1) {b:Addr} {ob:Obj} (q:h.get? b=some ob) (n:H b=none) (hx:b ∉ ex):∃ sl,h1.get? b=some { ob with slots:=sl }:=by
 by_cases hb:b ∈ fs
 ·exact u.slot b ob q n hb hx
 ·exact ⟨ob.slots,u.keep b ob q n hb hx⟩
theorem Un.kept (k:∀ b u,h.get? b=some u->h'.get? b=some u):Un fs ex H H h h' :=
 ⟨fun b ob q _ _ _=>k b ob q,fun b ob q _ _ _=>⟨ob.slots,k b ob q⟩,fun _ _ _ n _=>n,fun b ob q _=>⟨ob,k b ob q⟩,fun _ _ q=>q,fun _ _ _ q=>q,fun _ ps q=>⟨#[],by rw [q];simp⟩⟩
theorem Un.refl:Un fs ex H H h h:=Un.kept fun _ _ q=>q
theorem Un.laid (k:∀ b u,h.get? b=some u->h'.get? b=some u) (hp:h.objs.size<=a) (hn:H a=none):Un fs ex H (upd H a o) h h' where
 keep:=fun b u q _ _ _=>k b u q
 slot:=fun b u q _ _ _=>⟨u.slots,k b u q⟩
 free:=fun b u q n _=>by rw [zaw (Nat.ne_of_lt (Nat.lt_of_lt_of_le (Heap.lt_size q) hp))];exact n
 there:=fun b u q _=>⟨u,k b u q⟩
 tups:=fun b xs q=>by rw [zaw (zaL q hn)];exact q
 frzs:=fun b u xs q=>by rw [zaw (zaL q hn)];exact q
 tbls:=fun b ps q=>⟨#[],by rw [zaw (zaL q hn),q];simp⟩
theorem Un.write (mu:Mut (H x)) (he:e=x ∨ H e=some (.own x)) (k:∀ b u,b ≠ e->h.get? b=some u->h'.get? b=some u) (heo:∃ u,h'.get? e=some u):Un fs ex H (upd H x o) h h':=by
 have hx:∀ b,H b=none->b ≠ x:=fun b n z=>by subst z;rw [n] at mu;exact mu
 have hb:∀ b,H b=none->b ≠ e:=fun b n z=>by
  subst z
  rcases he with r | r
  ·exact hx b n r
  ·rw [n] at r;cases r
 have hm:∀ b u,H b=some u -> ¬ Mut (some u)->b ≠ x:=fun b u q nm z=>by subst z;rw [q] at mu;exact nm mu
 refine ⟨fun b u q n _ _=>k b u (hb b n) q,fun b u q n _ _=>⟨u.slots,k b u (hb b n) q⟩,fun b u q n _=>by rw [zaw (hx b n)];exact n,fun b u q _=>?_,
  fun b xs q=>by rw [zaw (hm b _ q fun z=>z)];exact q,fun b u xs q=>by rw [zaw (hm b _ q fun z=>z)];exact q,fun b ps q=>⟨#[],by rw [zaw (hm b _ q fun z=>z),q];simp⟩⟩
 by_cases hbe:b=e
 ·subst hbe;exact heo
 ·exact ⟨u,k b u hbe q⟩
end
def trk (h:Heap) (H:Hp):List Addr:=(List.range h.objs.size).filter fun a=>(H a).isSome
def hidT (h:Heap) (H:Hp):Heap:=PySem.W.hideAll h (trk h H)
theorem zid (h:Heap) (H:Hp):(hidT h H).objs.size=h.objs.size:=PySem.W.hideAll_size _ _
theorem zj0 {h:Heap} {H:Hp} {b:Addr} {o:Obj} (e:h.get? b=some o) (n:H b=none):(hidT h H).get? b=some o :=
 PySem.W.hideAll_get _ e fun hm=>by
  have q:(H b).isSome=true:=(List.mem_filter.mp hm).2
  rw [n] at q;simp at q
theorem zlk {h:Heap} {H:Hp} {b:Addr} {o:Obj} (e:(hidT h H).get? b=some o):h.get? b=some o/\H b=none:=by
 have e':h.get? b=some o:=PySem.W.of_hideAll (trk h H) e
 refine ⟨e',?_⟩
 cases q:H b with
 | none=>rfl
 | some x =>
  have hm:b ∈ trk h H:=List.mem_filter.mpr ⟨List.mem_range.mpr (Heap.lt_size e'),by simp [q]⟩
  have z:(hidT h H).get? b=none:=PySem.W.hideAll_none (trk h H) hm
  rw [z] at e;cases e
structure Mod (K:PySem.W.Frag) (mg:Str->Option Value) (base:Heap):Prop where
 kin:K.In base
 glob:base.Ns mainGlobals mg
 blt:∃ mb,base.Ns builtinsNs mb/\∀ x:Str,x ≠ "__name__" -> mb x=bootBuiltins x
 nolimit:base.NoLimit
structure Cx where
 prog:Program
 w:World
 K:PySem.W.Frag
 mg:Str->Option Value
 base:Heap
 A:Around
 N:List Str
 s₀ : Shared
 H₀ : Hp
 env:Env
 outer:List Env
 stack:List Env
 ex:List Addr
 fn:Str->Bool
 calm:Bool
 pn:List (Addr × Obj)
 xe:Value->Shared->Prop
def frs (l:List Env):List Addr:=l.filterMap (·.frame)
abbrev Cx.fs (X:Cx):List Addr:=frs X.outer
def Vis (sc:Scope) (x:Str):Prop:=sc.names.lookup x=some .local ∨ sc.names.lookup x=some .cell ∨ sc.names.lookup x=some .free
def Loc (sc:Scope) (x:Str):Prop:=sc.names.lookup x=some .local ∨ sc.names.lookup x=some .cell
def Look (env:Env) (h:Heap) (m:Str->Option Value) (x:Str) (u:Value):Prop :=
 (env.kindOf x=some .local/\m x=some u) ∨ ((env.kindOf x=some .cell ∨ env.kindOf x=some .free)/\∃ c,env.cells.lookup x=some c/\h.IsCell c (some u))
structure Cx.Ok (X:Cx):Prop where
 mod:Mod X.K X.mg X.base
 kind:X.env.scope.kind=.function
 glob:X.env.globals=mainGlobals
 blt:X.env.builtins=builtinsNs
 above:X.s₀.heap.objs.size<=X.env.locals
 inj:∀ x y c,X.env.cells.lookup x=some c->X.env.cells.lookup y=some c->x=y
 has:∀ x,(X.env.kindOf x=some .cell ∨ X.env.kindOf x=some .free)->∃ c,X.env.cells.lookup x=some c
 cab:∀ x c,X.fn x=true->X.env.cells.lookup x=some c->X.s₀.heap.objs.size<=c
 hd:X.calm=true->X.A.handled=none
 frames:X.A.frames=some X.stack
 stk:X.stack=X.outer ∨ (X.stack=X.env :: X.outer/\X.env.frame=some X.env.locals)
 exf:∀ b ∈ X.ex,b ≠ X.env.locals/\∀ x c,X.env.cells.lookup x=some c->c ≠ b
 bs:∀ b o,X.base.get? b=some o->X.s₀.heap.get? b=some o/\X.H₀ b=none
 bsz:X.base.objs.size<=X.s₀.heap.objs.size
 noex:∀ b o,X.base.get? b=some o->b ∉ X.ex
 exfs:∀ b ∈ X.ex,b ∉ X.fs
 funs:X.s₀.heap.FunFrames X.base X.outer
 frf:∀ b ∈ X.fs,X.H₀ b=none
structure Inv (X:Cx) (pins:List (Addr × Obj)) (σ : List (Option V)) (H:Hp) (s:Shared):Prop where
 ok:X.Ok
 os:s.os=X.s₀.os
 bare:AllBare s.gens
 base:Un X.fs X.ex X.H₀ H X.s₀.heap s.heap
 loc:∃ m,s.heap.Ns X.env.locals m/\∀ (i:Nat) (x:Str) (v:V),X.N[i]?=some x -> σ[i]?=some (some v)->Vis X.env.scope x->∃ u,RelV v u/\Look X.env s.heap m x u
 cell:∀ x c,X.env.cells.lookup x=some c->∃ v,s.heap.IsCell c v
 free:H X.env.locals=none
 freeC:∀ x c,X.env.cells.lookup x=some c->H c=none
 pin:∀ p ∈ X.pn ++ pins,s.heap.get? p.1=some p.2/\H p.1=none/\p.1 ≠ X.env.locals/\p.1 ∉ X.fs/\∀ v,p.2.data ≠ .cell v
 hok:HOk X.prog X.w H s.heap
 len : σ.length=X.N.length
section
variable {X:Cx} {pins:List (Addr × Obj)} {σ : List (Option V)} {H H':Hp} {s:Shared} {h':Heap}
theorem Cx.Ok.nofr (ok:X.Ok) {b:Addr} {o:Obj} (e:X.base.get? b=some o):b ∉ X.fs:=fun hb=>by
 have:=(ok.funs.mem hb).1
 rw [e] at this;cases this
theorem Inv.bs (I:Inv X pins σ H s):∀ b o,X.base.get? b=some o->s.heap.get? b=some o/\H b=none:=fun b o e =>
 ⟨I.base.keep b o (I.ok.bs b o e).1 (I.ok.bs b o e).2 (I.ok.nofr e) (I.ok.noex b o e),I.base.free b o (I.ok.bs b o e).1 (I.ok.bs b o e).2 (I.ok.noex b o e)⟩
theorem Inv.bk (I:Inv X pins σ H s):∀ b o,X.base.get? b=some o->s.heap.get? b=some o:=fun b o e=>(I.bs b o e).1
theorem Inv.mod (I:Inv X pins σ H s):Mod X.K X.mg X.base:=I.ok.mod
theorem Inv.kIn (I:Inv X pins σ H s):X.K.In s.heap:=I.ok.mod.kin.keeps I.bk
theorem Inv.fr (I:Inv X pins σ H s):∃ m,Fr X.base X.env.locals s.heap m :=
 let ⟨m,hn,_⟩:=I.loc
 ⟨m,hn,I.bk,Nat.le_trans I.ok.bsz I.ok.above⟩
theorem Inv.lt (I:Inv X pins σ H s):X.env.locals < s.heap.objs.size:=let ⟨_,hn,_⟩:=I.loc;hn.lt
theorem Inv.sz (I:Inv X pins σ H s):X.s₀.heap.objs.size<=s.heap.objs.size:=Nat.le_trans I.ok.above (Nat.le_of_lt I.lt)
theorem Inv.nofs (I:Inv X pins σ H s) {a:Addr} (h:s.heap.objs.size<=a):a ∉ X.fs:=fun hb=>by
 obtain ⟨_,o,ho,_⟩:=I.ok.funs.mem hb
 exact absurd (Nat.lt_of_lt_of_le (Heap.lt_size ho) (Nat.le_trans I.sz h)) (Nat.lt_irrefl _)
theorem Inv.cne (I:Inv X pins σ H s):∀ x c,X.env.cells.lookup x=some c->c ≠ X.env.locals:=fun x c e z=>by
 obtain ⟨v,o,ho,hd⟩:=I.cell x c e
 obtain ⟨m,⟨o',es,ep,ho',hd',_⟩,_⟩:=I.loc
 rw [z,ho'] at ho;cases ho;rw [hd'] at hd;cases hd
theorem Inv.funs (I:Inv X pins σ H s):s.heap.FunFrames X.base X.outer:=by
 have all:∀ (l:List Env),(∀ b ∈ frs l,b ∈ X.fs)->X.s₀.heap.FunFrames X.base l->s.heap.FunFrames X.base l:=by
  intro l
  induction l with
  | nil=>intro _ _;trivial
  | cons env r ih =>
   intro hs hl
   obtain ⟨hk,⟨L,o,hf,hn,ho,hd⟩,hr⟩:=hl
   have hL:L ∈ X.fs:=hs L (by unfold frs;rw [List.filterMap_cons,hf];exact List.mem_cons_self)
   obtain ⟨sl,e⟩:=I.base.slot L o ho (I.ok.frf L hL) hL fun z=>I.ok.exfs L z hL
   exact ⟨hk,⟨L,_,hf,hn,e,hd⟩,ih (fun b hb=>hs b (by unfold frs;rw [List.filterMap_cons,hf];exact List.mem_cons_of_mem _ hb)) hr⟩
 exact all X.outer (fun _ hb=>hb) I.ok.funs
theorem Inv.stack (I:Inv X pins σ H s):s.heap.FunFrames X.base X.stack:=by
 rcases I.ok.stk with e | ⟨e,hf⟩
 ·rw [e];exact I.funs
 ·rw [e]
  obtain ⟨m,hn,_⟩:=I.loc
  refine .cons (by rw [I.ok.kind];decide) hf hn ?_ I.funs
  exact Heap.get?_none_of_le (Nat.le_trans I.ok.bsz I.ok.above)
theorem Inv.stkSub (I:Inv X pins σ H s):∀ b ∈ frs X.stack,b ∈ X.env.locals :: X.fs:=fun b hb=>by
 rcases I.ok.stk with e | ⟨e,hf⟩
 ·rw [e] at hb;exact List.mem_cons_of_mem _ hb
 ·rw [e] at hb
  unfold frs at hb
  rw [List.filterMap_cons,hf] at hb
  exact hb
theorem Inv.stkFree (I:Inv X pins σ H s):∀ b ∈ frs X.stack,H b=none:=fun b hb=>by
 rcases List.mem_cons.mp (I.stkSub b hb) with e | hb
 ·rw [e];exact I.free
 ·obtain ⟨_,o,ho,_⟩:=I.ok.funs.mem hb
  exact I.base.free b o ho (I.ok.frf b hb) fun z=>I.ok.exfs b z hb
theorem Inv.step {g':Array GenState} {t':Nat} {d':Drawn} {ch:List Addr} (I:Inv X pins σ H s)
  (hch:∀ b ∈ ch,(b ∈ X.ex ∨ X.s₀.heap.objs.size<=b)/\b ≠ X.env.locals/\(∀ x c,X.env.cells.lookup x=some c->c ≠ b)/\∀ p ∈ X.pn ++ pins,p.1 ≠ b)
  (keep:∀ b o,b ≠ X.env.locals->b ∉ X.fs->b ∉ ch->s.heap.get? b=some o->H b=none->h'.get? b=some o)
  (slot:∀ b o,b ≠ X.env.locals->b ∈ X.fs->b ∉ ch->s.heap.get? b=some o->H b=none->∃ sl,h'.get? b=some { o with slots:=sl }) (free:∀ b o,b ∉ ch->s.heap.get? b=some o->H b=none->H' b=none)
  (there:∀ b o,b ∉ ch->s.heap.get? b=some o->∃ o',h'.get? b=some o')
  (tups:∀ b xs,H b=some (.tup xs)->H' b=some (.tup xs)) (frzs:∀ b o u,H b=some (.frz o u)->H' b=some (.frz o u)) (tbls:∀ b ps,H b=some (.tbl ps)->∃ more,H' b=some (.tbl (ps ++ more)))
  (ns:∀ m,s.heap.Ns X.env.locals m->h'.Ns X.env.locals m) (hok:HOk X.prog X.w H' h') (hg:AllBare g') :
  Inv X pins σ H' { s with heap:=h',gens:=g',drawn:=d',toks:=t' }:=by
 have neL:∀ b o,X.s₀.heap.get? b=some o->b ≠ X.env.locals:=fun b o e=>Nat.ne_of_lt (Nat.lt_of_lt_of_le (Heap.lt_size e) I.ok.above)
 have neC:∀ b o,X.s₀.heap.get? b=some o->b ∉ X.ex->b ∉ ch:=fun b o e hx hb=>by
  rcases (hch b hb).1 with z | z
  ·exact hx z
  ·exact absurd (Nat.lt_of_lt_of_le (Heap.lt_size e) z) (Nat.lt_irrefl _)
 have cellK:∀ x c,X.env.cells.lookup x=some c->∀ v,s.heap.IsCell c v->h'.IsCell c v:=fun x c e v ⟨o,ho,hd⟩=>by
  have nch:c ∉ ch:=fun z=>(hch c z).2.2.1 x c e rfl
  by_cases hc:c ∈ X.fs
  ·obtain ⟨sl,q⟩:=slot c o (I.cne x c e) hc nch ho (I.freeC x c e)
   exact ⟨_,q,hd⟩
  ·exact ⟨o,keep c o (I.cne x c e) hc nch ho (I.freeC x c e),hd⟩
 refine ⟨I.ok,I.os,hg,⟨fun b o e n hb hx=>?_,fun b o e n hb hx=>?_,fun b o e n hx=>?_,fun b o e hx=>?_,fun b xs e=>tups b xs (I.base.tups b xs e),fun b o xs e=>frzs b o xs (I.base.frzs b o xs e),fun b ps e=>?_⟩,?_,fun x c e=>?_,?_,fun x c e=>?_,fun p hp=>?_,hok,I.len⟩
 ·exact keep b o (neL b o e) hb (neC b o e hx) (I.base.keep b o e n hb hx) (I.base.free b o e n hx)
 ·obtain ⟨sl,e1⟩:=I.base.slot b o e n hb hx
  obtain ⟨sl',e2⟩:=slot b _ (neL b o e) hb (neC b o e hx) e1 (I.base.free b o e n hx)
  exact ⟨sl',e2⟩
 ·obtain ⟨o',e1⟩:=I.base.there b o e hx
  exact free b o' (neC b o e hx) e1 (I.base.free b o e n hx)
 ·obtain ⟨o',e1⟩:=I.base.there b o e hx
  exact there b o' (neC b o e hx) e1
 ·obtain ⟨m1,e1⟩:=I.base.tbls b ps e
  obtain ⟨m2,e2⟩:=tbls b _ e1
  exact ⟨m1 ++ m2,by rw [e2,Array.append_assoc]⟩
 ·obtain ⟨m,hn,hl⟩:=I.loc
  refine ⟨m,ns m hn,fun i x v e1 e2 e3=>?_⟩
  obtain ⟨u,r,l⟩:=hl i x v e1 e2 e3
  refine ⟨u,r,?_⟩
  rcases l with l | ⟨k,c,e,z⟩
  ·exact .inl l
  ·exact .inr ⟨k,c,e,cellK x c e _ z⟩
 ·obtain ⟨v,z⟩:=I.cell x c e
  exact ⟨v,cellK x c e v z⟩
 ·obtain ⟨m,⟨o,_,_,ho,_⟩,_⟩:=I.loc
  exact free _ o (fun z=>(hch _ z).2.1 rfl) ho I.free
 ·obtain ⟨v,o,ho,hd⟩:=I.cell x c e
  exact free c o (fun z=>(hch c z).2.2.1 x c e rfl) ho (I.freeC x c e)
 ·obtain ⟨e,n,ne,nf,d⟩:=I.pin p hp
  have nch:p.1 ∉ ch:=fun z=>(hch p.1 z).2.2.2 p hp rfl
  exact ⟨keep p.1 p.2 ne nf nch e n,free p.1 p.2 nch e n,ne,nf,d⟩
theorem Inv.un {t':Nat} (I:Inv X pins σ H s) (u:Un X.fs [] H H' s.heap h') (hok:HOk X.prog X.w H' h'):Inv X pins σ H' { s with heap:=h',toks:=t' }:=by
 obtain ⟨m,⟨o,es,ep,ho,r⟩,_⟩:=id I.loc
 obtain ⟨sl,hL⟩:=u.any ho I.free (by simp)
 exact I.step (g':=s.gens) (d':=s.drawn) (ch:=[]) (fun _ z=>nomatch z) (fun b o _ hb _ e n=>u.keep b o e n hb (by simp)) (fun b o _ hb _ e n=>u.slot b o e n hb (by simp)) (fun b o _ e n=>u.free b o e n (by simp)) (fun b o _ e=>u.there b o e (by simp)) u.tups u.frzs u.tbls (fun m' hm=>by
  obtain ⟨o',es',ep',ho',r'⟩:=hm
  rw [ho] at ho';cases ho'
  exact ⟨_,es',ep',hL,r'⟩) hok I.bare
theorem Inv.call {g':Array GenState} {t':Nat} {d':Drawn} {ch:List Addr} (I:Inv X pins σ H s) (u:Un (frs X.stack) ch H H' s.heap h') (hok:HOk X.prog X.w H' h') (hg:AllBare g')
  (hch:∀ b ∈ ch,(b ∈ X.ex ∨ X.s₀.heap.objs.size<=b)/\b ≠ X.env.locals/\(∀ x c,X.env.cells.lookup x=some c->c ≠ b)/\∀ p ∈ X.pn ++ pins,p.1 ≠ b) :
  Inv X pins σ H' { s with heap:=h',gens:=g',drawn:=d',toks:=t' }:=by
 obtain ⟨m,⟨o,es,ep,ho,r⟩,_⟩:=id I.loc
 obtain ⟨sl,hL⟩:=u.any ho I.free fun z=>(hch _ z).2.1 rfl
 exact I.step (ch:=ch) hch (fun b o hL hb hc e n=>u.keep b o e n (fun z=>(List.mem_cons.mp (I.stkSub b z)).elim hL hb) hc) (fun b o _ _ hc e n=>u.any e n hc) (fun b o hc e n=>u.free b o e n hc) (fun b o hc e=>u.there b o e hc) u.tups u.frzs u.tbls (fun m' hm=>by
  obtain ⟨o',es',ep',ho',r'⟩:=hm
  rw [ho] at ho';cases ho'
  exact ⟨_,es',ep',hL,r'⟩) hok hg
theorem Inv.turned {t':Nat} {it:Addr} (I:Inv X pins σ H s) (k:∀ b o,b ≠ it->s.heap.get? b=some o->h'.get? b=some o) (hn:H it=none) (hL:it ≠ X.env.locals)
  (h1:it ∈ X.ex ∨ X.s₀.heap.objs.size<=it) (h2:∀ x c,X.env.cells.lookup x=some c->c ≠ it) (h3:∀ p ∈ X.pn ++ pins,p.1 ≠ it):Inv X pins σ H { s with heap:=h',toks:=t' }:=by
 have nit:∀ b u,H b=some u->b ≠ it:=fun b u e z=>by rw [z,hn] at e;cases e
 refine I.step (g':=s.gens) (d':=s.drawn) (ch:=[it]) (fun b hb=>?_) (fun b o _ _ hc e _=>k b o (fun z=>hc (by simp [z])) e) (fun b o _ _ hc e _=>⟨o.slots,k b o (fun z=>hc (by simp [z])) e⟩) (fun _ _ _ _ n=>n)
  (fun b o hc e=>⟨o,k b o (fun z=>hc (by simp [z])) e⟩) (fun _ _ e=>e) (fun _ _ _ e=>e) (fun b ps e=>⟨#[],by rw [e];simp⟩) (fun m hm=>?_) (fun b u e=>?_) I.bare
 ·have e:b=it:=by simpa using hb
  subst e
  exact ⟨h1,hL,h2,h3⟩
 ·obtain ⟨o,es,ep,ho,r⟩:=hm
  exact ⟨o,es,ep,k _ o (Ne.symm hL) ho,r⟩
 ·refine (I.hok b u e).stay (fun c v hc q=>k c v ?_ q) (fun _ q=>q) fun _ _ q=>q
  rcases hc with z | z
  ·rw [z];exact nit b u e
  ·exact nit c _ z
theorem Inv.tok (I:Inv X pins σ H s) (t:Nat):Inv X pins σ H { s with toks:=t }:=I.un (h':=s.heap) (t':=t) Un.refl I.hok
theorem Inv.kept {t':Nat} (I:Inv X pins σ H s) (k:∀ b u,s.heap.get? b=some u->h'.get? b=some u):Inv X pins σ H { s with heap:=h',toks:=t' }:=I.un (Un.kept k) (I.hok.kept k)
theorem Inv.laid {a:Addr} {o:HO} {t':Nat} (I:Inv X pins σ H s) (k:∀ b u,s.heap.get? b=some u->h'.get? b=some u) (hp:s.heap.objs.size<=a) (new:zb6 X.prog X.w (upd H a o) h' a o) :
  Inv X pins σ (upd H a o) { s with heap:=h',toks:=t' }:=I.un (Un.laid k hp (I.hok.fresh hp)) (I.hok.laid k hp new)
theorem Inv.write {x e:Addr} {o:HO} {t':Nat} (I:Inv X pins σ H s) (mu:Mut (H x)) (he:e=x ∨ H e=some (.own x)) (k:∀ b u,b ≠ e->s.heap.get? b=some u->h'.get? b=some u) (heo:∃ u,h'.get? e=some u)
  (new:zb6 X.prog X.w (upd H x o) h' x o):Inv X pins σ (upd H x o) { s with heap:=h',toks:=t' }:=I.un (Un.write mu he k heo) (I.hok.write mu he k heo new)
theorem Inv.pins_of {pins':List (Addr × Obj)} (I:Inv X pins σ H s) (h:∀ p ∈ pins',s.heap.get? p.1=some p.2/\H p.1=none/\p.1 ≠ X.env.locals/\p.1 ∉ X.fs/\∀ v,p.2.data ≠ .cell v):Inv X pins' σ H s :=
 ⟨I.ok,I.os,I.bare,I.base,I.loc,I.cell,I.free,I.freeC,fun p hp=>(List.mem_append.mp hp).elim (fun z=>I.pin p (List.mem_append_left _ z)) (h p),I.hok,I.len⟩
theorem zg6 {N:List Str} (hN:N.Nodup) {i j:Nat} {x:Str} (a:N[i]?=some x) (b:N[j]?=some x):i=j:=by
 obtain ⟨h1,e1⟩:=List.getElem?_eq_some_iff.mp a
 obtain ⟨h2,e2⟩:=List.getElem?_eq_some_iff.mp b
 exact (List.getElem_inj hN).mp (e1.trans e2.symm)
theorem zfE {M:Model} {A:Around} {E:Value->Shared->Prop} {i:Nat} {x:Str} {v:V} {u:Value} {Q:Unit->Shared->Prop} (I:Inv X pins σ H s) (hN:X.N.Nodup) (hi:X.N[i]?=some x) (hx:Loc X.env.scope x) (r:RelV v u)
  (h:∀ s',Inv X pins (σ.set i (some v)) H s'->(∃ a,Heap.SameBut a s.heap s'.heap/\(a=X.env.locals ∨ X.env.cells.lookup x=some a))->Q () s') (hf:X.fn x=true ∨ X.env.scope.names.lookup x=some .local:=by first | exact .inl rfl | exact .inr rfl | assumption):wpAny M A (storeName X.env x u) Q E s:=by
 obtain ⟨m,hn,hl⟩:=id I.loc
 have hcls:(X.env.scope.kind == .class || (X.env.scope.kind == .module && X.env.locals != X.env.globals))=false:=by rw [I.ok.kind];rfl
 have hiσ : i < σ.length:=by rw [I.len];exact (List.getElem?_eq_some_iff.mp hi).1
 have cne:=I.cne
 have tracked:∀ {a:Addr} {h':Heap},(∃ o,s.heap.get? a=some o/\H a=none)->Heap.SameBut a s.heap h'->HOk X.prog X.w H h':=fun {a h'} ha hs b ob e=>by
  obtain ⟨_,_,hfree⟩:=ha
  refine (I.hok b ob e).stay (fun c w' hc q=>(hs.2 c ?_).trans q) (fun _ q=>q) fun _ _ q=>q
  rintro rfl
  rcases hc with rfl | hc
  ·rw [hfree] at e;cases e
  ·rw [hfree] at hc;cases hc
 rcases hx with hk | hk
 ·refine wpAny_storeName_local hk hn (fun h' hn' hs=>?_) hcls
  obtain ⟨oL,_,_,hoL,_⟩:=id hn
  refine h _ ⟨I.ok,I.os,I.bare,⟨fun b o e n hb hx=>?_,fun b o e n hb hx=>?_,I.base.free,fun b o e hx=>?_,I.base.tups,I.base.frzs,I.base.tbls⟩,⟨_,hn',fun j y v' e1 e2 e3=>?_⟩,fun y c e=>?_,I.free,I.freeC,fun p hp=>?_,tracked ⟨oL,hoL,I.free⟩ hs,by simpa using I.len⟩ ⟨_,hs,.inl rfl⟩
  ·exact (hs.2 b (Nat.ne_of_lt (Nat.lt_of_lt_of_le (Heap.lt_size e) I.ok.above))).trans (I.base.keep b o e n hb hx)
  ·obtain ⟨sl,e1⟩:=I.base.slot b o e n hb hx
   exact ⟨sl,(hs.2 b (Nat.ne_of_lt (Nat.lt_of_lt_of_le (Heap.lt_size e) I.ok.above))).trans e1⟩
  ·obtain ⟨o',e1⟩:=I.base.there b o e hx
   exact ⟨o',(hs.2 b (Nat.ne_of_lt (Nat.lt_of_lt_of_le (Heap.lt_size e) I.ok.above))).trans e1⟩
  ·by_cases hj:j=i
   ·subst hj
    rw [hi] at e1;cases e1
    rw [List.getElem?_set_self hiσ] at e2
    cases e2
    exact ⟨u,r,.inl ⟨hk,by simp⟩⟩
   ·rw [List.getElem?_set_ne (Ne.symm hj)] at e2
    obtain ⟨u',r',q⟩:=hl j y v' e1 e2 e3
    refine ⟨u',r',?_⟩
    rcases q with ⟨k,e⟩ | ⟨k,c,e,z⟩
    ·refine .inl ⟨k,?_⟩
     have:y ≠ x:=fun e=>hj (zg6 hN e1 (e ▸ hi))
     simp [this,e]
    ·exact .inr ⟨k,c,e,z.sameBut hs (cne y c e)⟩
  ·obtain ⟨w',z⟩:=I.cell y c e
   exact ⟨w',z.sameBut hs (cne y c e)⟩
  ·obtain ⟨e,n,ne,nf,d⟩:=I.pin p hp
   exact ⟨(hs.2 p.1 ne).trans e,n,ne,nf,d⟩
 ·have hfn:X.fn x=true:=by
   rcases hf with z | z
   ·exact z
   ·rw [z] at hk;cases hk
  obtain ⟨c,hc⟩:=I.ok.has x (.inl hk)
  obtain ⟨w',z⟩:=I.cell x c hc
  refine wpAny_storeName_cell I.ok.kind hk hc z (fun h' hc' hs=>?_)
  obtain ⟨oc,hoc,hocd⟩:=id z
  refine h { s with heap:=h' } ⟨I.ok,I.os,I.bare,⟨fun b o e n hb hx=>?_,fun b o e n hb hx=>?_,I.base.free,fun b o e hx=>?_,I.base.tups,I.base.frzs,I.base.tbls⟩,⟨m,hn.sameBut hs (Ne.symm (cne x c hc)),fun j y v' e1 e2 e3=>?_⟩,fun y c' e=>?_,I.free,I.freeC,fun p hp=>?_,tracked ⟨oc,hoc,I.freeC x c hc⟩ hs,by simpa using I.len⟩ ⟨c,hs,.inr hc⟩
  ·exact (hs.2 b (Nat.ne_of_lt (Nat.lt_of_lt_of_le (Heap.lt_size e) (I.ok.cab x c hfn hc)))).trans (I.base.keep b o e n hb hx)
  ·obtain ⟨sl,e1⟩:=I.base.slot b o e n hb hx
   exact ⟨sl,(hs.2 b (Nat.ne_of_lt (Nat.lt_of_lt_of_le (Heap.lt_size e) (I.ok.cab x c hfn hc)))).trans e1⟩
  ·obtain ⟨o',e1⟩:=I.base.there b o e hx
   exact ⟨o',(hs.2 b (Nat.ne_of_lt (Nat.lt_of_lt_of_le (Heap.lt_size e) (I.ok.cab x c hfn hc)))).trans e1⟩
  ·by_cases hj:j=i
   ·subst hj
    rw [hi] at e1;cases e1
    rw [List.getElem?_set_self hiσ] at e2
    cases e2
    exact ⟨u,r,.inr ⟨.inl hk,c,hc,hc'⟩⟩
   ·rw [List.getElem?_set_ne (Ne.symm hj)] at e2
    obtain ⟨u',r',q⟩:=hl j y v' e1 e2 e3
    refine ⟨u',r',?_⟩
    rcases q with q | ⟨k,c',e,z'⟩
    ·exact .inl q
    ·refine .inr ⟨k,c',e,z'.sameBut hs ?_⟩
     rintro rfl
     exact hj (zg6 hN e1 (I.ok.inj _ _ _ e hc ▸ hi))
  ·by_cases hcc:c'=c
   ·subst hcc;exact ⟨_,hc'⟩
   ·obtain ⟨w2,z2⟩:=I.cell y c' e
    exact ⟨w2,z2.sameBut hs hcc⟩
  ·obtain ⟨e,n,ne,nf,d⟩:=I.pin p hp
   refine ⟨(hs.2 p.1 ?_).trans e,n,ne,nf,d⟩
   intro q
   rw [q,hoc] at e
   have q':oc=p.2:=Option.some.inj e
   exact d w' (by rw [← q'];exact hocd)
theorem zd7 {M:Model} {A:Around} {E:Value->Shared->Prop} {i:Nat} {x:Str} {v:V} {u:Value} {Q:Unit->Shared->Prop} (I:Inv X pins σ H s) (hN:X.N.Nodup) (hi:X.N[i]?=some x) (hx:Loc X.env.scope x) (r:RelV v u)
  (h:∀ s',Inv X pins (σ.set i (some v)) H s'->Q () s') (hf:X.fn x=true ∨ X.env.scope.names.lookup x=some .local:=by first | exact .inl rfl | exact .inr rfl | assumption):wpAny M A (storeName X.env x u) Q E s :=
 zfE I hN hi hx r (fun s' I' _=>h s' I') hf
theorem Inv.call' {s':Shared} {ch:List Addr} (I:Inv X pins σ H s) (ho:s'.os=s.os) (u:Un (frs X.stack) ch H H' s.heap s'.heap) (hok:HOk X.prog X.w H' s'.heap) (hg:AllBare s'.gens)
  (hch:∀ b ∈ ch,(b ∈ X.ex ∨ X.s₀.heap.objs.size<=b)/\b ≠ X.env.locals/\(∀ x c,X.env.cells.lookup x=some c->c ≠ b)/\∀ p ∈ X.pn ++ pins,p.1 ≠ b):Inv X pins σ H' s':=by
 obtain ⟨h',g',d',t',o'⟩:=s'
 have e:o'=s.os:=ho
 subst e
 exact I.call (g':=g') (t':=t') (d':=d') u hok hg hch
end
abbrev XK:=Value->Option Addr->Hp->Prop
abbrev St:=List (Option V)
abbrev VK:=V->Hp->Prop
abbrev TE:=St->Hp->VK->Prop
abbrev TT:=St->Hp->(Bool->Hp->Prop)->Prop
abbrev TA:=St->Hp->(List V->Hp->Prop)->Prop
structure Ends where
 nx:St->Hp->Prop
 rt:VK
 bk:St->Hp->Prop:=fun _ _=>False
 ct:St->Hp->Prop:=fun _ _=>False
abbrev TS:=Ends->St->Hp->Prop
def EP (X:Cx) (pins:List (Addr × Obj)) (σ : St) (Q:VK) (u:Value) (s':Shared):Prop:=∃ v H',Inv X pins σ H' s'/\RelV v u/\Q v H'
def TP (X:Cx) (pins:List (Addr × Obj)) (σ : St) (Q:Bool->Hp->Prop) (b:Bool) (s':Shared):Prop:=∃ H',Inv X pins σ H' s'/\Q b H'
def AP (X:Cx) (pins:List (Addr × Obj)) (σ : St) (Q:List V->Hp->Prop) (us:List Value) (s':Shared):Prop:=∃ vs H',Inv X pins σ H' s'/\Vals vs us/\Q vs H'
def SP (X:Cx) (pins:List (Addr × Obj)) (D:Ends) (f:Flow) (s':Shared):Prop :=
 match f with
 | .next=>∃ σ' H',Inv X pins σ' H' s'/\D.nx σ' H'
 | .brk=>∃ σ' H',Inv X pins σ' H' s'/\D.bk σ' H'
 | .cont=>∃ σ' H',Inv X pins σ' H' s'/\D.ct σ' H'
 | .ret u=>∃ v σ' H',Inv X pins σ' H' s'/\RelV v u/\D.rt v H'
def PE (X:Cx) (e:Expr) (t:TE):Prop :=
 ∀ (pins:List (Addr × Obj)) (s:Shared) (σ : St) (H:Hp) (Q:VK),Inv X pins σ H s->t σ H Q->wpAny (model X.prog X.w) X.A (eval e X.env) (EP X pins σ Q) X.xe s
def PT (X:Cx) (e:Expr) (t:TT):Prop :=
 ∀ (pins:List (Addr × Obj)) (s:Shared) (σ : St) (H:Hp) (Q:Bool->Hp->Prop),Inv X pins σ H s->t σ H Q->wpAny (model X.prog X.w) X.A (isTrue e X.env (eval e X.env)) (TP X pins σ Q) X.xe s
def PW (X:Cx) (e:Expr) (t:TT):Prop :=
 ∀ (whole:Sem Value) (pins:List (Addr × Obj)) (s:Shared) (σ : St) (H:Hp) (Q:Bool->Hp->Prop),Inv X pins σ H s->t σ H Q->wpAny (model X.prog X.w) X.A (isTrue e X.env whole) (TP X pins σ Q) X.xe s
theorem PW.pt {X:Cx} {e:Expr} {t:TT} (h:PW X e t):PT X e t:=h _
def PA (X:Cx) (es:List Expr) (t:TA):Prop :=
 ∀ (pos:Pos) (pins:List (Addr × Obj)) (s:Shared) (σ : St) (H:Hp) (Q:List V->Hp->Prop),Inv X pins σ H s->t σ H Q->wpAny (model X.prog X.w) X.A (spliced (backTo pos (starEach es X.env))) (AP X pins σ Q) X.xe s
def PS (X:Cx) (st:Stmt) (t:TS):Prop :=
 ∀ (pins:List (Addr × Obj)) (s:Shared) (σ : St) (H:Hp) (D:Ends),Inv X pins σ H s->t D σ H->wpAny (model X.prog X.w) X.A (exec st X.env) (SP X pins D) X.xe s
def PSs (X:Cx) (st:List Stmt) (t:TS):Prop :=
 ∀ (pins:List (Addr × Obj)) (s:Shared) (σ : St) (H:Hp) (D:Ends),Inv X pins σ H s->t D σ H->wpAny (model X.prog X.w) X.A (execs st X.env) (SP X pins D) X.xe s
theorem thn {α : Type} {t:Sem α} {Q Q' : α -> Shared->Prop} {M:Model} {A:Around} {E:Value->Shared->Prop} {s:Shared} (h:wpAny M A t Q E s) (hQ:∀ a s,Q a s->Q' a s):wpAny M A t Q' E s:=wpAny_mono h hQ fun _ _ x=>x
section
variable {X:Cx}
def tVar (i:Nat):TE:=fun σ H Q=>∃ v,σ[i]?=some (some v)/\Q v H
def tC (v:V):TE:=fun _ H Q=>Q v H
theorem zk2 {i:Nat} {x:Str} {pos:Pos} (hN:X.N[i]?=some x) (hv:Vis X.env.scope x) (hd:(x == ("__debug__" : Str))=false:=by decide) (hcd:(x == ("__classdict__" : Str))=false:=by decide):PE X (.Name x pos) (tVar i):=by
 intro pins s σ H Q I h
 obtain ⟨v,e,h⟩:=h
 obtain ⟨m,hn,hl⟩:=I.loc
 obtain ⟨u,r,l⟩:=hl i x v hN e hv
 have fin:EP X pins σ Q u s:=⟨v,H,I,r,h⟩
 rcases l with ⟨hk,hm⟩ | ⟨hk,c,hc,hcell⟩
 ·exact wpAny_Name (wpAny_loadName_local I.ok.kind hk hn hm fin) hd
 ·rcases hk with hk | hk
  ·exact wpAny_Name (wpAny_loadName_cell I.ok.kind hk hc hcell fin) hd
  ·exact wpAny_Name (wpAny_loadName_free I.ok.kind hk hc hcell fin hcd) hd
theorem zmJ {i j pos}:PE X (.Constant (.int i) j pos) (tC (.int i)):=fun _ _ _ H _ I h=>wpAny_Constant_int ⟨.int i,H,I.tok _,⟨_,rfl⟩,h⟩
theorem zoc {b j pos}:PE X (.Constant (.bool b) j pos) (tC (.bl b)):=fun _ _ _ H _ I h=>Constant_bool ⟨.bl b,H,I,rfl,h⟩
theorem zmK {j pos}:PE X (.Constant .none j pos) (tC .non):=fun _ _ _ H _ I h=>Constant_none ⟨.non,H,I,rfl,h⟩
theorem zg7 {x j pos}:PE X (.Constant (.str x) j pos) (tC (.str x)):=fun _ _ _ H _ I h=>Calls.Constant_str ⟨.str x,H,I.tok _,⟨_,rfl⟩,h⟩
def Gl (X:Cx) (x:Str):Prop:=X.env.kindOf x=some .globalImplicit
theorem zdH {E:Value->Shared->Prop} {pins:List (Addr × Obj)} {s:Shared} {σ : St} {H:Hp} {x:Str} {u:Value} {pos:Pos} {Q:Value->Shared->Prop} (I:Inv X pins σ H s) (hg:Gl X x) (hm:X.mg x=some u) (h:Q u s)
  (hd:(x == ("__debug__" : Str))=false:=by decide):wpAny (model X.prog X.w) X.A (eval (.Name x pos) X.env) Q E s :=
 Calls.Name_function_global I.ok.kind hg (Calls.loadGlobal_global (by rw [I.ok.glob];exact I.mod.glob.keeps I.bk) hm h) hd
theorem zee {E:Value->Shared->Prop} {pins:List (Addr × Obj)} {s:Shared} {σ : St} {H:Hp} {x:Str} {u:Value} {pos:Pos} {Q:Value->Shared->Prop} (I:Inv X pins σ H s) (hg:Gl X x) (hm:X.mg x=none) (hv:bootBuiltins x=some u) (h:Q u s)
  (hn:x ≠ "__name__" := by decide) (hd:(x == ("__debug__" : Str))=false:=by decide):wpAny (model X.prog X.w) X.A (eval (.Name x pos) X.env) Q E s:=by
 obtain ⟨mb,h1,h2⟩:=I.mod.blt
 exact Calls.Name_function_global I.ok.kind hg (Calls.loadGlobal_builtin (by rw [I.ok.glob];exact I.mod.glob.keeps I.bk) hm (by rw [I.ok.blt];exact h1.keeps I.bk) ((h2 x hn).trans hv) h) hd
theorem zgy {x:Str} {v:V} {u:Value} {pos:Pos} (hg:Gl X x) (hm:X.mg x=some u) (r:RelV v u) (hd:(x == ("__debug__" : Str))=false:=by decide):PE X (.Name x pos) (tC v) :=
 fun _ _ _ H _ I h=>zdH I hg hm ⟨v,H,I,r,h⟩ hd
theorem zie {x:Str} {v:V} {u:Value} {pos:Pos} (hg:Gl X x) (hm:X.mg x=none) (hv:bootBuiltins x=some u) (r:RelV v u) (hn:x ≠ "__name__" := by decide) (hd:(x == ("__debug__" : Str))=false:=by decide):PE X (.Name x pos) (tC v) :=
 fun _ _ _ H _ I h=>zee I hg hm hv ⟨v,H,I,r,h⟩ hn hd
variable {a b:Expr} {ta tb:TE} {pos:Pos}
def PC (X:Cx) (op:CmpOp) (a b:Expr) (t:TE):Prop :=
 ∀ (pins:List (Addr × Obj)) (s:Shared) (σ : St) (H:Hp) (Q:VK),Inv X pins σ H s->t σ H Q ->
  wpAny (model X.prog X.w) X.A (eval a X.env) (fun v s₁=>wpAny (model X.prog X.w) X.A (eval b X.env) (fun u s₂=>wpAny (model X.prog X.w) X.A (compareOp op v u) (EP X pins σ Q) X.xe s₂) X.xe s₁) X.xe s
theorem zg8 (b:Expr) {op:CmpOp} (h:op ≠ .In) (h2:op ≠ .NotIn):behindInMarks op b=false:=by
 have e1:(op == CmpOp.In)=false:=by cases op <;> first | rfl | exact absurd rfl h
 have e2:(op == CmpOp.NotIn)=false:=by cases op <;> first | rfl | exact absurd rfl h2
 cases b <;> simp [behindInMarks,e1,e2]
def tIsN (ta:TE):TE:=fun σ H Q=>ta σ H fun x H1=>Q (.bl (decide (x=.non))) H1
def zod (ta:TE):TE:=fun σ H Q=>ta σ H fun x H1=>Q (.bl (!decide (x=.non))) H1
theorem RelV.none_iff {x:V} {v:Value} (r:RelV x v):(v == Value.none)=decide (x=.non):=by
 cases x with
 | non=>cases r;rfl
 | bl _=>cases r;rfl
 | int _=>obtain ⟨t,rfl⟩:=r;rfl
 | str _=>obtain ⟨t,rfl⟩:=r;rfl
 | byt _=>obtain ⟨t,rfl⟩:=r;rfl
 | flt _=>obtain ⟨t,rfl⟩:=r;rfl
 | ref _=>cases r;rfl
 | ty _=>cases r;rfl
theorem zif {j pos'} (ha:PE X a ta):PC X .Is a (.Constant .none j pos') (tIsN ta):=by
 intro pins s σ H Q I h
 refine thn (ha pins s σ H _ I h) fun v s1 ⟨x,H1,I1,r1,q1⟩=>?_
 exact Constant_none (is_none_gen ⟨.bl _,H1,I1,by rw [r1.none_iff];rfl,q1⟩)
theorem zll {j pos'} (ha:PE X a ta):PC X .IsNot a (.Constant .none j pos') (zod ta):=by
 intro pins s σ H Q I h
 refine thn (ha pins s σ H _ I h) fun v s1 ⟨x,H1,I1,r1,q1⟩=>?_
 exact Constant_none (isnot_none_gen ⟨.bl _,H1,I1,by rw [r1.none_iff];rfl,q1⟩)
def tB (t:TE):TT:=fun σ H Q=>t σ H fun x H1=>∃ c,x=.bl c/\Q c H1
theorem zmL {op:CmpOp} {t:TE} (h:PC X op a b t) (h1:behindInMarks op b=false:=by first | exact zg8 _ (by decide) (by decide) | rfl):PE X (.Compare a [op] [b] pos) t:=fun pins s σ H Q I hw=>wpAny_Compare1 (h pins s σ H Q I hw) h1
theorem zig {op:CmpOp} {t:TE} (h:PC X op a b t) (h1:behindInMarks op b=false:=by first | exact zg8 _ (by decide) (by decide) | rfl):PT X (.Compare a [op] [b] pos) (tB t):=by
 intro pins s σ H Q I hw
 refine wpAny_isTrue_Compare1 (thn (h pins s σ H _ I hw) fun v s1 h1=>thn h1 fun u s2 h2=>thn h2 fun c s3 ⟨x,H1,I1,r1,q1⟩=>?_) h1
 obtain ⟨d,rfl,q⟩:=q1
 cases r1
 exact wpAny_truthy_bool ⟨H1,I1,q⟩
theorem zmM {e:Expr} {t:TE} (h:PE X e t) (he:∀ whole,isTrue e X.env whole=(do let v ← whole;standAt e.pos;holding [v] (truthy v)):=by intro _;rfl):PT X e (tB t):=by
 intro pins s σ H Q I hw
 refine isTrue_plain (thn (h pins s σ H _ I hw) fun v s1 ⟨x,H1,I1,r1,q1⟩=>?_) (he _)
 obtain ⟨d,rfl,q⟩:=q1
 cases r1
 exact wpAny_truthy_bool ⟨H1,I1,q⟩
variable {tA tB':TT} {rest:List Expr}
def tAnd (t u:TT):TT:=fun σ H Q=>t σ H fun c H1=>if c=true then u σ H1 Q else Q false H1
def tOr (t u:TT):TT:=fun σ H Q=>t σ H fun c H1=>if c=true then Q true H1 else u σ H1 Q
def tNot (t:TT):TT:=fun σ H Q=>t σ H fun c H1=>Q (!c) H1
theorem zlm (ha:PT X a tA):PW X (.BoolOp .And [a] pos) tA:=by
 intro wh pins s σ H Q I h
 refine isTrue_and (thn (ha pins s σ H Q I h) fun c s1 e=>?_)
 cases c with
 | true=>exact isTrue_and_nil e
 | false=>exact e
theorem zmN (ha:PT X a tA):PW X (.BoolOp .Or [a] pos) tA:=by
 intro wh pins s σ H Q I h
 refine isTrue_or (thn (ha pins s σ H Q I h) fun c s1 e=>?_)
 cases c with
 | false=>exact isTrue_or_nil e
 | true=>exact e
theorem zmO (ha:PT X a tA) (hb:PW X (.BoolOp .And (b :: rest) pos) tB'):PW X (.BoolOp .And (a :: b :: rest) pos) (tAnd tA tB'):=by
 intro wh pins s σ H Q I h
 refine isTrue_and (thn (ha pins s σ H _ I h) fun c s1 ⟨H1,I1,q1⟩=>?_)
 cases c with
 | true=>exact hb wh pins s1 σ H1 Q I1 q1
 | false=>exact ⟨H1,I1,q1⟩
theorem zoe (ha:PT X a tA) (hb:PW X (.BoolOp .Or (b :: rest) pos) tB'):PW X (.BoolOp .Or (a :: b :: rest) pos) (tOr tA tB'):=by
 intro wh pins s σ H Q I h
 refine isTrue_or (thn (ha pins s σ H _ I h) fun c s1 ⟨H1,I1,q1⟩=>?_)
 cases c with
 | true=>exact ⟨H1,I1,q1⟩
 | false=>exact hb wh pins s1 σ H1 Q I1 q1
theorem zmP (ha:PT X a tA):PT X (.UnaryOp .Not a pos) (tNot tA):=by
 intro pins s σ H Q I h
 exact isTrue_not (ha pins s σ H (fun c H1=>Q (!c) H1) I h)
def zof (ta tb:TE):TE:=fun σ H Q=>ta σ H fun x H1=>∃ c,x=.bl c/\if c=true then tb σ H1 Q else Q (.bl false) H1
def tOrV (ta tb:TE):TE:=fun σ H Q=>ta σ H fun x H1=>∃ c,x=.bl c/\if c=true then Q (.bl true) H1 else tb σ H1 Q
def zog (ta:TE):TE:=fun σ H Q=>ta σ H fun x H1=>∃ c,x=.bl c/\Q (.bl (!c)) H1
theorem zmQ {op} {t:TE} (h:PE X a t):PE X (.BoolOp op [a] pos) t:=fun pins s σ H Q I hw=>BoolOp_one (h pins s σ H Q I hw)
theorem zmR (ha:PE X a ta) (hb:PE X (.BoolOp .And (b :: rest) pos) tb):PE X (.BoolOp .And (a :: b :: rest) pos) (zof ta tb):=by
 intro pins s σ H Q I h
 refine BoolOp_and (thn (ha pins s σ H _ I h) fun v s1 ⟨x,H1,I1,r1,q1⟩=>?_)
 obtain ⟨c,rfl,q1⟩:=q1
 cases r1
 refine wpAny_truthy_bool ?_
 cases c with
 | true=>exact hb pins s1 σ H1 Q I1 q1
 | false=>exact ⟨.bl false,H1,I1,rfl,q1⟩
theorem zoh (ha:PE X a ta) (hb:PE X (.BoolOp .Or (b :: rest) pos) tb):PE X (.BoolOp .Or (a :: b :: rest) pos) (tOrV ta tb):=by
 intro pins s σ H Q I h
 refine BoolOp_or (thn (ha pins s σ H _ I h) fun v s1 ⟨x,H1,I1,r1,q1⟩=>?_)
 obtain ⟨c,rfl,q1⟩:=q1
 cases r1
 refine wpAny_truthy_bool ?_
 cases c with
 | false=>exact hb pins s1 σ H1 Q I1 q1
 | true=>exact ⟨.bl true,H1,I1,rfl,q1⟩
theorem zmS (ha:PE X a ta):PE X (.UnaryOp .Not a pos) (zog ta):=by
 intro pins s σ H Q I h
 refine UnaryOp_ (thn (ha pins s σ H _ I h) fun v s1 ⟨x,H1,I1,r1,q1⟩=>?_)
 obtain ⟨c,rfl,q1⟩:=q1
 cases r1
 exact not_of (wpAny_truthy_bool ⟨.bl (!c),H1,I1,rfl,q1⟩)
end
def SqL (K:PySem.W.Frag) (H:Hp) (a:Addr) (xs:List V):Prop :=
 Rd H a (.lst xs) ∨
  ∃ (o:Obj) (its:Array Value) (n:Nat),K.lookup a=some o/\o.cls=.type "list" /\ o.dict=none/\o.data=.seq its n/\its.size<=sizeLine/\Vals xs its.toList
def SqT (K:PySem.W.Frag) (H:Hp) (a:Addr) (xs:List V):Prop :=
 Rd H a (.tup xs) ∨
  ∃ (o:Obj) (its:Array Value) (n:Nat),K.lookup a=some o/\o.cls=.type "tuple" /\ o.data=.seq its n/\its.size<=sizeLine/\Vals xs its.toList
def absV:Value->Option V
 | .none=>some .non
 | .bool b=>some (.bl b)
 | .int i _=>some (.int i)
 | .str x _=>some (.str x)
 | .bytes b _=>some (.byt b)
 | .float b _=>some (.flt b)
 | .ref a=>some (.ref a)
 | .type n=>some (.ty n)
 | _=>none
theorem RelV.abs {x:V} {u:Value} (r:RelV x u):absV u=some x:=by
 cases x with
 | non=>cases r;rfl
 | bl _=>cases r;rfl
 | int _=>obtain ⟨t,rfl⟩:=r;rfl
 | str _=>obtain ⟨t,rfl⟩:=r;rfl
 | byt _=>obtain ⟨t,rfl⟩:=r;rfl
 | flt _=>obtain ⟨t,rfl⟩:=r;rfl
 | ref _=>cases r;rfl
 | ty _=>cases r;rfl
theorem RelV.inj {x y:V} {u:Value} (r:RelV x u) (q:RelV y u):x=y:=Option.some.inj (r.abs.symm.trans q.abs)
theorem Vals.inj:∀ {xs ys:List V} {us:List Value},Vals xs us->Vals ys us->xs=ys
 | _,_,_,.nil,.nil=>rfl
 | _,_,_,.cons r t,.cons r' t'=>by rw [r.inj r',Vals.inj t t']
section
variable {X:Cx} {pins:List (Addr × Obj)} {σ : St} {H:Hp} {s:Shared} {a:Addr} {xs ys:List V}
theorem SqL.of {K:PySem.W.Frag} (h:H a=some (.lst xs)):SqL K H a xs:=.inl (.inl h)
theorem SqT.of {K:PySem.W.Frag} (h:H a=some (.tup xs)):SqT K H a xs:=.inl (.inl h)
theorem Inv.list (I:Inv X pins σ H s) (h:SqL X.K H a xs):∃ its:List Value,Vals xs its/\PlainL s.heap a its.toArray/\xs.length<=sizeLine:=by
 rcases h with h | ⟨o,its,n,hk,hc,hd,hs,hz,r⟩
 ·obtain ⟨z,its,n,r,e⟩:=h.ok I.hok
  exact ⟨its,r,⟨_,n,e,rfl,rfl,rfl⟩,z⟩
 ·refine ⟨its.toList,r,⟨o,n,I.kIn a o hk,hc,hd,by simpa using hs⟩,?_⟩
  have e:=r.length
  simp only [Array.length_toList] at e
  omega
theorem Inv.tuple (I:Inv X pins σ H s) (h:SqT X.K H a xs):∃ its:List Value,Vals xs its/\IsTup s.heap a its.toArray/\xs.length<=sizeLine:=by
 rcases h with h | ⟨o,its,n,hk,hc,hs,hz,r⟩
 ·obtain ⟨z,its,r,p⟩:=h.ok I.hok
  exact ⟨its,r,p,z⟩
 ·refine ⟨its.toList,r,⟨o,I.kIn a o hk,hc,n,by simpa using hs⟩,?_⟩
  have e:=r.length
  simp only [Array.length_toList] at e
  omega
theorem Inv.list_inj (I:Inv X pins σ H s) (h:SqL X.K H a xs) (h':SqL X.K H a ys):xs=ys:=by
 obtain ⟨its,r,⟨o,n,e,_,_,d⟩,_⟩:=I.list h
 obtain ⟨its',r',⟨o',n',e',_,_,d'⟩,_⟩:=I.list h'
 rw [e] at e';cases e'
 rw [d] at d'
 injection d' with d1 _
 have:its=its':=by simpa using congrArg Array.toList d1
 subst this
 exact r.inj r'
theorem Inv.tuple_inj (I:Inv X pins σ H s) (h:SqT X.K H a xs) (h':SqT X.K H a ys):xs=ys:=by
 obtain ⟨its,r,⟨o,e,_,n,d⟩,_⟩:=I.tuple h
 obtain ⟨its',r',⟨o',e',_,n',d'⟩,_⟩:=I.tuple h'
 rw [e] at e';cases e'
 rw [d] at d'
 injection d' with d1 _
 have:its=its':=by simpa using congrArg Array.toList d1
 subst this
 exact r.inj r'
end
abbrev Cx.wish (X:Cx) (E:Value->Shared->Prop):Cx:={ X with xe:=E }
abbrev Cx.nox (X:Cx):Cx:=X.wish fun _ _=>False
theorem Cx.Ok.wish {X:Cx} (ok:X.Ok) (E:Value->Shared->Prop):(X.wish E).Ok :=
 ⟨ok.mod,ok.kind,ok.glob,ok.blt,ok.above,ok.inj,ok.has,ok.cab,ok.hd,ok.frames,ok.stk,ok.exf,ok.bs,ok.bsz,ok.noex,ok.exfs,ok.funs,ok.frf⟩
theorem Cx.Ok.unwish {X:Cx} {E:Value->Shared->Prop} (ok:(X.wish E).Ok):X.Ok :=
 ⟨ok.mod,ok.kind,ok.glob,ok.blt,ok.above,ok.inj,ok.has,ok.cab,ok.hd,ok.frames,ok.stk,ok.exf,ok.bs,ok.bsz,ok.noex,ok.exfs,ok.funs,ok.frf⟩
section
variable {X:Cx} {pins:List (Addr × Obj)} {σ : St} {H:Hp} {s:Shared} {E:Value->Shared->Prop}
theorem Inv.wish (I:Inv X pins σ H s) (E:Value->Shared->Prop):Inv (X.wish E) pins σ H s:=⟨I.ok.wish E,I.os,I.bare,I.base,I.loc,I.cell,I.free,I.freeC,I.pin,I.hok,I.len⟩
theorem Inv.unwish (I:Inv (X.wish E) pins σ H s):Inv X pins σ H s:=⟨I.ok.unwish,I.os,I.bare,I.base,I.loc,I.cell,I.free,I.freeC,I.pin,I.hok,I.len⟩
theorem SP.unwish {D:Ends} {f:Flow} {s':Shared} (h:SP (X.wish E) pins D f s'):SP X pins D f s':=by
 cases f with
 | next=>obtain ⟨σ',H',I,q⟩:=h;exact ⟨σ',H',I.unwish,q⟩
 | brk=>obtain ⟨σ',H',I,q⟩:=h;exact ⟨σ',H',I.unwish,q⟩
 | cont=>obtain ⟨σ',H',I,q⟩:=h;exact ⟨σ',H',I.unwish,q⟩
 | ret u=>obtain ⟨v,σ',H',I,r,q⟩:=h;exact ⟨v,σ',H',I.unwish,r,q⟩
theorem PSs.nox {st:List Stmt} {t:TS} (h:PSs X.nox st t):PSs X st t:=fun pins s σ H D I hw =>
 wpAny_mono (h pins s σ H D (I.wish _) hw) (fun _ _ q=>q.unwish) fun _ _ z=>False.elim z
end
section
variable {X:Cx} {st:Stmt} {rest:List Stmt} {t u:TS} {e:Expr} {te:TE} {pos:Pos}
def zoi:TS:=fun D σ H=>D.nx σ H
def tSeq (t u:TS):TS:=fun D σ H=>t { D with nx:=u D } σ H
theorem zln:PSs X [] zoi:=fun _ _ σ H _ I h=>wpAny_execs_nil ⟨σ,H,I,h⟩
theorem zd8 (h1:PS X st t) (h2:PSs X rest u):PSs X (st :: rest) (tSeq t u):=by
 intro pins s σ H D I h
 refine wpAny_execs_cons (thn (h1 pins s σ H { D with nx:=u D } I h) fun f s1 q=>?_)
 cases f with
 | next =>
  obtain ⟨σ',H',I',q⟩:=q
  exact h2 pins s1 σ' H' D I' q
 | ret v=>exact q
 | brk=>exact q
 | cont=>exact q
theorem zfc (h1:PS X st t):PSs X [st] t:=by
 intro pins s σ H D I h
 refine wpAny_execs_cons (thn (h1 pins s σ H D I h) fun f s1 q=>?_)
 cases f with
 | next=>exact wpAny_execs_nil q
 | ret v=>exact q
 | brk=>exact q
 | cont=>exact q
theorem Inv.quiet {pins:List (Addr × Obj)} {σ : St} {H:Hp} {s:Shared} (I:Inv X pins σ H s):interactive X.env=false:=by simp [interactive,I.ok.kind]
def zj1 (te:TE):TS:=fun D σ H=>te σ H fun _ H1=>D.nx σ H1
theorem zef (he:PE X e te) (hs:swapsWith e none pos.line X.env=pure false:=by rfl):PS X (.Expr e pos) (zj1 te):=by
 intro pins s σ H D I h
 exact wpAny_Expr_any (thn (he pins s σ H _ I h) fun v s1 ⟨x,H1,I1,r1,q1⟩=>⟨σ,H1,I1,q1⟩) I.quiet hs
def tRet (te:TE):TS:=fun D σ H=>te σ H D.rt
theorem zmT (he:PE X e te):PS X (.Return (some e) pos) (tRet te):=by
 intro pins s σ H D I h
 exact wpAny_Return_some (thn (he pins s σ H _ I h) fun v s1 ⟨x,H1,I1,r1,q1⟩=>⟨x,σ,H1,I1,r1,q1⟩)
def tIfS (c:TT) (t u:TS):TS:=fun D σ H=>c σ H fun b H1=>if b=true then t D σ H1 else u D σ H1
theorem zmU {c:Expr} {a b:List Stmt} {tc:TT} (hc:PT X c tc) (ha:PSs X a t) (hb:PSs X b u):PS X (.If c a b pos) (tIfS tc t u):=by
 intro pins s σ H D I h
 refine wpAny_If (thn (hc pins s σ H _ I h) fun d s1 ⟨H1,I1,q1⟩=>?_)
 cases d with
 | true=>exact ha pins s1 σ H1 D I1 q1
 | false=>exact hb pins s1 σ H1 D I1 q1
end
abbrev TG:=V->St->Hp->(St->Hp->Prop)->Prop
abbrev TGs:=List V->St->Hp->(St->Hp->Prop)->Prop
def PG (X:Cx) (target:Expr) (t:TG):Prop :=
 ∀ (pins:List (Addr × Obj)) (s:Shared) (σ : St) (H:Hp) (v:V) (u:Value) (Q:St->Hp->Prop),Inv X pins σ H s->RelV v u->t v σ H Q ->
  wpAny (model X.prog X.w) X.A (assign target X.env u) (fun _ s'=>∃ σ' H',Inv X pins σ' H' s'/\Q σ' H') X.xe s
def PGs (X:Cx) (ts:List Expr) (t:TGs):Prop :=
 ∀ (pins:List (Addr × Obj)) (s:Shared) (σ : St) (H:Hp) (vs:List V) (us:List Value) (Q:St->Hp->Prop),Inv X pins σ H s->Vals vs us->t vs σ H Q ->
  wpAny (model X.prog X.w) X.A (assignInOrder ((assignEach ts X.env).map (·.2)) us) (fun _ s'=>∃ σ' H',Inv X pins σ' H' s'/\Q σ' H') X.xe s
section
variable {X:Cx} {pos:Pos}
def zlo (i:Nat):TG:=fun v σ H Q=>Q (σ.set i (some v)) H
theorem zaF {i:Nat} {x:Str} (hN:X.N.Nodup) (hi:X.N[i]?=some x) (hx:Loc X.env.scope x) (hf:X.fn x=true ∨ X.env.scope.names.lookup x=some .local:=by first | exact .inl rfl | exact .inr rfl | assumption):PG X (.Name x pos) (zlo i):=by
 intro pins s σ H v u Q I r h
 exact wpAny_assign_Name (zd7 I hN hi hx r (fun s' I'=>⟨_,H,I',h⟩) hf)
def gNil:TGs:=fun vs σ H Q=>vs=[]/\Q σ H
def zoj (t:TG) (u:TGs):TGs:=fun vs σ H Q=>∃ v r,vs=v :: r/\t v σ H fun σ' H'=>u r σ' H' Q
theorem zlp:PGs X [] gNil:=by
 intro pins s σ H vs us Q I r h
 obtain ⟨e,h⟩:=h
 subst e
 cases r
 exact assignInOrder_nil ⟨σ,H,I,h⟩
theorem zj2 {e:Expr} {es:List Expr} {t:TG} {u:TGs} (h1:PG X e t) (h2:PGs X es u)
  (hs:(assignEach (e :: es) X.env).map (·.2)=assign e X.env :: (assignEach es X.env).map (·.2):=by rfl):PGs X (e :: es) (zoj t u):=by
 intro pins s σ H vs us Q I r h
 obtain ⟨v,vr,e1,h⟩:=h
 subst e1
 cases r with
 | cons r rr =>
  rw [hs]
  refine assignInOrder_cons (thn (h1 pins s σ H _ _ _ I r h) fun _ s1 ⟨σ1,H1,I1,q1⟩=>?_)
  exact h2 pins s1 σ1 H1 _ _ Q I1 rr q1
def gTup (K:PySem.W.Frag) (n:Nat) (t:TGs):TG:=fun v σ H Q=>∃ a xs,v=.ref a/\SqT K H a xs/\xs.length=n/\t xs σ H Q
theorem zmV {es:List Expr} {k:Nat} {t:TGs} {n:Nat} (hc:X.calm=true) (h:PGs X es t)
  (hn:(assignEach es X.env).length=n:=by rfl) (hst:(assignEach es X.env).findIdx? (·.1)=none:=by rfl):PG X (.Tuple es k pos) (gTup X.K n t):=by
 intro pins s σ H v u Q I r hw
 obtain ⟨a,xs,e1,hq,hl,hw⟩:=hw
 subst e1
 cases r
 obtain ⟨its,rv,ht,hz⟩:=I.tuple hq
 refine assign_Tuple_tuple (I.ok.hd hc) ht (by simp [hn,← hl,rv.length]) hst fun h' hx=>?_
 have I1:Inv X pins σ H { s with heap:=h' }:=I.kept (t':=s.toks) fun b o e=>hx b o (Nat.ne_of_lt (Heap.lt_size e)) e
 exact h pins _ σ H xs _ Q I1 (by simpa using rv) hw
def tAsg (te:TE) (g:TG):TS:=fun D σ H=>te σ H fun x H1=>g x σ H1 D.nx
theorem zmW {tg e:Expr} {te:TE} {g:TG} (he:PE X e te) (hg:PG X tg g) (hs:swapsWithSole [tg] e pos.line X.env=pure false:=by rfl) (hw:swappedStores [tg] e X.env=pure none:=by rfl)
  (h1:(assignEach [tg] X.env).map (·.2)=[assign tg X.env]:=by rfl):PS X (.Assign [tg] e pos) (tAsg te g):=by
 intro pins s σ H D I h
 refine wpAny_Assign_stores (thn (he pins s σ H _ I h) fun v s1 ⟨x,H1,I1,r1,q1⟩=>?_) hs hw
 rw [h1]
 exact thn (hg pins s1 σ H1 x v _ I1 r1 q1) fun _ s2 q=>q
theorem zk3 {i:Nat} {x:Str} {e:Expr} {te:TE} {pos':Pos} (hN:X.N.Nodup) (hi:X.N[i]?=some x) (hx:Loc X.env.scope x) (he:PE X e te) (hs:swapsWith e (some (.Name x pos')) pos.line X.env=pure false:=by rfl) (hf:X.fn x=true ∨ X.env.scope.names.lookup x=some .local:=by first | exact .inl rfl | exact .inr rfl | assumption) :
  PS X (.Assign [.Name x pos'] e pos) (tAsg te (zlo i)):=by
 intro pins s σ H D I h
 refine wpAny_Assign_Name (thn (he pins s σ H _ I h) fun v s1 ⟨y,H1,I1,r1,q1⟩=>?_) hs
 exact zd7 I1 hN hi hx r1 (fun s2 I2=>⟨_,H1,I2,q1⟩) hf
end
section
variable {X:Cx} {pos:Pos}
def zmX (c:TT) (tb:TS):TS:=fun D σ H=>∃ W:Nat->St->Hp->Prop,(∃ m,W m σ H)/\∀ m σ H,W m σ H ->
 c σ H fun b H1=>if b=true then ∃ N:St->Hp->Prop,(∀ σ' H',N σ' H'->∃ m',m' < m/\W m' σ' H')/\tb { D with nx:=N,ct:=N,bk:=D.nx } σ H1 else D.nx σ H1
theorem zj3 {c:Expr} {body:List Stmt} {tc:TT} {tb:TS} (hp:PassesOwn (model X.prog X.w) X.A X.env X.xe) (hc:PT X c tc) (hb:PSs X body tb):PS X (.While c body [] pos) (zmX tc tb):=by
 intro pins s σ H D I h
 obtain ⟨W,⟨m0,w0⟩,turn⟩:=h
 refine wpAny_While (codeAny_whileLoop (fun n s'=>∃ σ' H',Inv X pins σ' H' s'/\W n σ' H') ?_ m0 ⟨σ,H,I,w0⟩)
 rintro n s1 ⟨σ1,H1,I1,w1⟩
 refine wpAny_passesOwn hp (thn (hc pins s1 σ1 H1 _ I1 (turn n σ1 H1 w1)) fun b s2 ⟨H2,I2,q2⟩=>?_)
 cases b with
 | true =>
  obtain ⟨N,hN,q2⟩:=q2
  rw [if_pos rfl]
  refine wpAny_passesOwn hp (thn (hb pins s2 σ1 H2 _ I2 q2) fun f s3 q3=>?_)
  cases f with
  | next =>
   obtain ⟨σ3,H3,I3,n3⟩:=q3
   obtain ⟨m',hm,w3⟩:=hN σ3 H3 n3
   exact ⟨m',hm,σ3,H3,I3,w3⟩
  | cont =>
   obtain ⟨σ3,H3,I3,n3⟩:=q3
   obtain ⟨m',hm,w3⟩:=hN σ3 H3 n3
   exact ⟨m',hm,σ3,H3,I3,w3⟩
  | brk=>exact q3
  | ret v=>exact q3
 | false =>
  rw [if_neg Bool.false_ne_true]
  exact wpAny_execs_nil ⟨σ1,H2,I2,q2⟩
end
structure It where
 go:Nat->Hp->Prop
 yld:Nat->Hp->V->Hp->Prop
 stop:Nat->Hp->Prop
def FpOk (X:Cx) (pins:List (Addr × Obj)) (H:Hp) (b:Addr):Prop :=
 H b=none/\b ≠ X.env.locals/\b ∉ X.fs/\(b ∈ X.ex ∨ X.s₀.heap.objs.size<=b)/\(∀ x c,X.env.cells.lookup x=some c->c ≠ b)/\∀ p ∈ X.pn ++ pins,p.1 ≠ b
theorem Inv.fpOk {X:Cx} {pins:List (Addr × Obj)} {σ : St} {H H':Hp} {s:Shared} {b:Addr} (I:Inv X pins σ H s) (hb:s.heap.objs.size<=b) (hn:H' b=none):FpOk X pins H' b:=by
 refine ⟨hn,Nat.ne_of_gt (Nat.lt_of_lt_of_le I.lt hb),I.nofs hb,.inr (Nat.le_trans I.sz hb),fun x c e z=>?_,fun p hp z=>?_⟩
 ·obtain ⟨v,q⟩:=I.cell x c e
  exact absurd (Nat.lt_of_lt_of_le q.lt (by rw [z];exact hb)) (Nat.lt_irrefl _)
 ·exact absurd (Nat.lt_of_lt_of_le (Heap.lt_size (I.pin p hp).1) (by rw [z];exact hb)) (Nat.lt_irrefl _)
structure Turn (P:Program) (w:World) (K:PySem.W.Frag) (tg:Expr) (J:It) (fp:List Addr) (it:Addr) (tn:Nat->Heap->Prop):Prop where
 mem:it ∈ fp
 obj:∀ i h,tn i h->∀ b ∈ fp,∃ o,h.get? b=some o/\∀ v,o.data ≠ .cell v
 keep:∀ i h h',tn i h->(∀ b ∈ fp,∀ o,h.get? b=some o->h'.get? b=some o)->tn i h'
 item:∀ (X:Cx),X.prog=P->X.w=w->X.K=K->X.calm=true->∀ (i:Nat) (pins:List (Addr × Obj)) (s:Shared) (σ : St) (H:Hp) (E:Value->Shared->Prop),Inv X pins σ H s->(∀ b ∈ fp,FpOk X pins H b)->tn i s.heap->J.go i H ->
  wpAny (model P w) X.A (pyNext (.ref it)) (fun r s1=>∃ u,r=some u /\
   wpAny (model P w) X.A (letOwnedTupleGo tg (.ref it) u) (fun _ s2=>∃ x H',Inv X pins σ H' s2/\RelV x u/\J.yld i H x H'/\tn (i+1) s2.heap/\∀ b ∈ fp,H' b=none) E s1) E s
 done:∀ (X:Cx),X.prog=P->X.w=w->X.K=K->X.calm=true->∀ (i:Nat) (pins:List (Addr × Obj)) (s:Shared) (σ : St) (H:Hp) (E:Value->Shared->Prop),Inv X pins σ H s->(∀ b ∈ fp,FpOk X pins H b)->tn i s.heap->J.stop i H ->
  wpAny (model P w) X.A (pyNext (.ref it)) (fun r s1=>r=none/\Inv X pins σ H s1) E s
 self:∀ (A:Around) (i:Nat) (s:Shared) (Q:Value->Shared->Prop) (E:Value->Shared->Prop),tn i s.heap->Q (.ref it) s->wpAny (model P w) A (pyIter (.ref it)) Q E s
abbrev TI:=St->Hp->(It->Hp->Prop)->Prop
def PIE (X:Cx) (pins:List (Addr × Obj)) (σ : St) (tg:Expr) (R:It->Hp->Prop) (itv:Value) (s2:Shared):Prop :=
 ∃ (it:Addr) (fp:List Addr) (tn:Nat->Heap->Prop) (J:It) (H':Hp),itv=.ref it/\Inv X pins σ H' s2/\Turn X.prog X.w X.K tg J fp it tn/\tn 0 s2.heap/\(∀ b ∈ fp,FpOk X pins H' b)/\R J H'
def PI (X:Cx) (tg iter:Expr) (wi:TI):Prop :=
 ∀ (pins:List (Addr × Obj)) (s:Shared) (σ : St) (H:Hp) (R:It->Hp->Prop),Inv X pins σ H s->wi σ H R ->
  wpAny (model X.prog X.w) X.A (eval iter X.env) (fun v s1=>wpAny (model X.prog X.w) X.A (pyIter v) (PIE X pins σ tg R) X.xe s1) X.xe s
theorem zj4 {M:Model} {A:Around} {E:Value->Shared->Prop} {s:Shared} {tg:Expr} {it:Addr} {u:Value} {o:Obj} {n:String} {vs:Array Value} {Q:Unit->Shared->Prop} (ho:s.heap.get? it=some o) (hc:o.cls=.type n) (hd:o.data=.fields vs)
  (hn:["enumerate", "zip", "dict_itemiterator", "dict_reverseitemiterator", "odict_iterator", "itertools.zip_longest", "itertools.pairwise"].contains n=false) (hQ:Q () s):wpAny M A (letOwnedTupleGo tg (.ref it) u) Q E s:=by
 unfold letOwnedTupleGo
 cases tg <;> first
  | exact wpAny_pure hQ
  | (cases u <;> first
    | exact wpAny_pure hQ
    | (
      refine wpAny_bind (wpAny_load ho ?_)
      rw [hc,hd]
      show wpAny M A (if (["enumerate", "zip", "dict_itemiterator", "dict_reverseitemiterator", "odict_iterator", "itertools.zip_longest", "itertools.pairwise"].contains n && vs[0]? == some (rawInt _))=true then _ else _) Q E s
      rw [if_neg (by intro h;rw [hn,Bool.false_and] at h;cases h)]
      exact wpAny_pure hQ))
def Itl (K:PySem.W.Frag) (a:Addr):It :=
 ⟨fun i H=>∃ xs x,SqL K H a xs/\xs[i]?=some x,fun i H x H'=>H'=H/\∀ xs,SqL K H a xs->xs[i]?=some x,fun i H=>∃ xs,SqL K H a xs/\xs.length<=i⟩
def Itt (K:PySem.W.Frag) (a:Addr):It :=
 ⟨fun i H=>∃ xs x,SqT K H a xs/\xs[i]?=some x,fun i H x H'=>H'=H/\∀ xs,SqT K H a xs->xs[i]?=some x,fun i H=>∃ xs,SqT K H a xs/\xs.length<=i⟩
def Itr (lo:Int) (n:Nat):It:=⟨fun i _=>i < n,fun i H x H'=>H'=H/\x=.int (lo+i),fun i _=>n<=i⟩
theorem zih {P:Program} {w:World} {K:PySem.W.Frag} {tg:Expr} (a it:Addr):Turn P w K tg (Itl K a) [it] it (fun i h=>h.IsListIter it a i) where
 mem:=by simp
 obj:=fun i h st b hb=>by
  have e:b=it:=by simpa using hb
  subst e
  obtain ⟨o,e,c,d⟩:=st
  exact ⟨o,e,fun v z=>by rw [d] at z;cases z⟩
 keep:=fun i h h' st k=>st.at fun o e=>k it (by simp) o e
 item:=by
  intro X hP hw hK hc i pins s σ H E I hf st hg
  subst hP hw hK
  obtain ⟨xs,x,hq,hx⟩:=hg
  obtain ⟨its,rv,p,hz⟩:=I.list hq
  obtain ⟨u,hu,ru⟩:=rv.get hx
  obtain ⟨f0,f1,f2,f3,f4,f5⟩:=hf it (by simp)
  refine wpAny_pyNext_list_item st p.isList (x:=u) (by simpa using hu) fun h' st' sb=>?_
  have I1:Inv X pins σ H { s with heap:=h' }:=I.turned (t':=s.toks) (fun b o hb e=>(sb.2 b hb).trans e) f0 f1 f3 f4 f5
  obtain ⟨o,e,c,d⟩:=id st'
  exact ⟨u,rfl,zj4 (s:={ s with heap:=h' }) e c d (by decide) ⟨x,H,I1,ru,⟨rfl,fun ys hy=>by rw [I.list_inj hy hq];exact hx⟩,st',fun b hb=>(hf b hb).1⟩⟩
 done:=by
  intro X hP hw hK hc i pins s σ H E I hf st hg
  subst hP hw hK
  obtain ⟨xs,hq,hx⟩:=hg
  obtain ⟨its,rv,p,hz⟩:=I.list hq
  obtain ⟨f0,f1,f2,f3,f4,f5⟩:=hf it (by simp)
  have hl:=rv.length
  exact wpAny_pyNext_list_end (I.ok.hd hc) st p.isList (by simp;omega) fun h' eb=>⟨rfl,I.turned (t':=s.toks) (fun b o hb e=>eb b o hb e) f0 f1 f3 f4 f5⟩
 self:=fun _ _ _ _ _ st h=>wpAny_pyIter_listiter st h
theorem zhE {P:Program} {w:World} {K:PySem.W.Frag} {tg:Expr} (a it:Addr):Turn P w K tg (Itt K a) [it] it (fun i h=>h.IsTupleIter it a i) where
 mem:=by simp
 obj:=fun i h st b hb=>by
  have e:b=it:=by simpa using hb
  subst e
  obtain ⟨o,e,c,d⟩:=st
  exact ⟨o,e,fun v z=>by rw [d] at z;cases z⟩
 keep:=fun i h h' st k=>st.at fun o e=>k it (by simp) o e
 item:=by
  intro X hP hw hK hc i pins s σ H E I hf st hg
  subst hP hw hK
  obtain ⟨xs,x,hq,hx⟩:=hg
  obtain ⟨its,rv,p,hz⟩:=I.tuple hq
  obtain ⟨u,hu,ru⟩:=rv.get hx
  obtain ⟨f0,f1,f2,f3,f4,f5⟩:=hf it (by simp)
  refine wpAny_pyNext_tuple_item st (show s.heap.IsTuple a its.toArray from p) (x:=u) (by simpa using hu) fun h' st' sb=>?_
  have I1:Inv X pins σ H { s with heap:=h' }:=I.turned (t':=s.toks) (fun b o hb e=>(sb.2 b hb).trans e) f0 f1 f3 f4 f5
  obtain ⟨o,e,c,d⟩:=id st'
  exact ⟨u,rfl,zj4 (s:={ s with heap:=h' }) e c d (by decide) ⟨x,H,I1,ru,⟨rfl,fun ys hy=>by rw [I.tuple_inj hy hq];exact hx⟩,st',fun b hb=>(hf b hb).1⟩⟩
 done:=by
  intro X hP hw hK hc i pins s σ H E I hf st hg
  subst hP hw hK
  obtain ⟨xs,hq,hx⟩:=hg
  obtain ⟨its,rv,p,hz⟩:=I.tuple hq
  obtain ⟨f0,f1,f2,f3,f4,f5⟩:=hf it (by simp)
  have hl:=rv.length
  exact wpAny_pyNext_tuple_end (I.ok.hd hc) st (show s.heap.IsTuple a its.toArray from p) (by simp;omega) fun h' eb=>⟨rfl,I.turned (t':=s.toks) (fun b o hb e=>eb b o hb e) f0 f1 f3 f4 f5⟩
 self:=fun _ _ _ _ _ st h=>wpAny_pyIter_tupleiter st h
theorem zhF {P:Program} {w:World} {K:PySem.W.Frag} {tg:Expr} (it:Addr) (lo:Int) (n:Nat):Turn P w K tg (Itr lo n) [it] it (fun i h=>IsRangeIter h it (lo+(i:Nat) * 1) ((n:Int) - (i:Nat)) 1) where
 mem:=by simp
 obj:=fun i h st b hb=>by
  have e:b=it:=by simpa using hb
  subst e
  exact ⟨_,st,fun v z=>by
   have z':Data.fields _=Data.cell v:=z
   cases z'⟩
 keep:=fun i h h' st k=>k it (by simp) _ st
 item:=by
  intro X hP hw hK hc i pins s σ H E I hf st hg
  subst hP hw hK
  obtain ⟨f0,f1,f2,f3,f4,f5⟩:=hf it (by simp)
  have W:=Walks.range (prog:=X.prog) (w:=X.w) (I.ok.hd hc) it lo 1 n
  refine W.item i s _ _ hg st fun v h' tk hv st' kk=>?_
  obtain ⟨t,rfl⟩:=hv
  have I1:Inv X pins σ H { s with heap:=h',toks:=tk }:=I.turned (fun b o hb e=>kk b o (by simpa using hb) e) f0 f1 f3 f4 f5
  refine ⟨_,rfl,zj4 (s:={ s with heap:=h',toks:=tk }) (n := "range_iterator") st' rfl rfl (by decide) ⟨.int (lo+i),H,I1,⟨t,?_⟩,⟨rfl,rfl⟩,st',fun b hb=>(hf b hb).1⟩⟩
  rw [Int.mul_one]
 done:=by
  intro X hP hw hK hc i pins s σ H E I hf st hg
  subst hP hw hK
  obtain ⟨f0,f1,f2,f3,f4,f5⟩:=hf it (by simp)
  exact wpAny_pyNext_range_end (I.ok.hd hc) st (by have:n<=i:=hg;omega) fun h' eb=>⟨rfl,I.turned (t':=s.toks) (fun b o hb e=>eb b o hb e) f0 f1 f3 f4 f5⟩
 self:=fun _ _ _ _ _ st h=>wpAny_pyIter_rangeiter st h
section
variable {X:Cx} {tg:Expr}
theorem zg9 {pins:List (Addr × Obj)} {σ : St} {H:Hp} {s:Shared} {R:It->Hp->Prop} {E:Value->Shared->Prop} {lo hi:Int} {t u v:Tok} {tk:Nat} (I:Inv X pins σ H s) (h1 : -(2 ^ 62)<=lo) (h2:lo < 2 ^ 62) (h3 : -(2 ^ 62)<=hi) (h4:hi < 2 ^ 62)
  (q:R (Itr lo (hi - lo).toNat) H):wpAny (model X.prog X.w) X.A (pyIter (.ref s.heap.objs.size)) (PIE X pins σ tg R) E { s with heap:=s.heap.push { cls:=.type "range", data:=.fields #[.int lo t,.int hi u,.int 1 v] },toks:=tk }:=by
 refine wpAny_pyIter_range (IsRange.new ..) (small_one h1 h2 h3 h4) ?_
 have I1:Inv X pins σ H { s with heap:=s.heap.push { cls:=.type "range", data:=.fields #[.int lo t,.int hi u,.int 1 v] },toks:=tk }:=I.kept fun b o e=>Heap.get?_push_of_some _ e
 refine ⟨(s.heap.push { cls:=.type "range", data:=.fields #[.int lo t,.int hi u,.int 1 v] }).objs.size,[(s.heap.push { cls:=.type "range", data:=.fields #[.int lo t,.int hi u,.int 1 v] }).objs.size],_,_,H,rfl,
  I1.kept (t':=tk) fun b o e=>Heap.get?_push_of_some _ e,zhF _ lo (hi - lo).toNat,?_,fun b hb=>?_,q⟩
 ·have e1:lo+((0:Nat):Int) * 1=lo:=by simp
  have e2:(((hi - lo).toNat:Nat):Int) - ((0:Nat):Int)=Builtin.Range.rangeSize lo hi 1:=by rw [rangeSize_one];split <;> omega
  show IsRangeIter _ _ (lo+((0:Nat):Int) * 1) ((((hi - lo).toNat:Nat):Int) - ((0:Nat):Int)) 1
  rw [e1,e2]
  exact Heap.get?_push_size _ rfl
 ·have e:b=(s.heap.push { cls:=.type "range", data:=.fields #[.int lo t,.int hi u,.int 1 v] }).objs.size:=by simpa using hb
  subst e
  exact I1.fpOk (Nat.le_refl _) (I1.hok.fresh (Nat.le_refl _))
def zok (ta:TA):TI:=fun σ H R=>ta σ H fun vs H1=>∃ j:Int,vs=[.int j] /\ -(2 ^ 62)<=j/\j < 2 ^ 62/\R (Itr 0 j.toNat) H1
def zol (ta:TA):TI:=fun σ H R=>ta σ H fun vs H1=>∃ i j:Int,vs=[.int i,.int j]/\(-(2 ^ 62)<=i/\i < 2 ^ 62 /\ -(2 ^ 62)<=j/\j < 2 ^ 62)/\R (Itr i (j - i).toNat) H1
theorem zii {a:Expr} {ta:TA} {p pos:Pos} (hg:Gl X "range") (hm:X.mg "range" = none) (ha:PA X [a] ta) (hs:starEach [a] X.env=[(false,eval a X.env)]:=by rfl):PI X tg (.Call (.Name "range" p) [a] [] pos) (zok ta):=by
 intro pins s σ H R I h
 refine Call_ (zee I hg hm boot_range (PyProof.Rows.callWith_type1 (thn (ha pos pins s σ H _ I h) fun us s1 ⟨vs,H1,I1,r1,q1⟩=>?_) hs rfl))
 obtain ⟨j,e,q1,q2,q⟩:=q1
 subst e
 cases r1 with
 | cons r rr =>
  cases rr
  obtain ⟨t,rfl⟩:=r
  exact call_range_1 (zg9 I1 (by omega) (by omega) q1 q2 (by simpa using q))
theorem zij {a b:Expr} {ta:TA} {p pos:Pos} (hg:Gl X "range") (hm:X.mg "range" = none) (ha:PA X [a,b] ta) (hs:starEach [a,b] X.env=[(false,eval a X.env),(false,eval b X.env)]:=by rfl) (hs2:starEach [b] X.env=[(false,eval b X.env)]:=by rfl) :
  PI X tg (.Call (.Name "range" p) [a,b] [] pos) (zol ta):=by
 intro pins s σ H R I h
 refine Call_ (zee I hg hm boot_range (PyProof.Rows.callWith_type1 (thn (ha pos pins s σ H _ I h) fun us s1 ⟨vs,H1,I1,r1,q1⟩=>?_) (by rw [hs,hs2]) (by rw [hs2];rfl)))
 obtain ⟨i,j,e,⟨q1,q2,q3,q4⟩,q⟩:=q1
 subst e
 cases r1 with
 | cons r rr =>
  cases rr with
  | cons r' rr =>
   cases rr
   obtain ⟨t,rfl⟩:=r
   obtain ⟨t',rfl⟩:=r'
   exact call_range_2 (zg9 I1 q1 q2 q3 q4 q)
def tFor (wi:TI) (g:TG) (tb:TS):TS:=fun D σ H=>wi σ H fun J H1=>∃ W:Nat->Nat->St->Hp->Prop,(∃ m,W 0 m σ H1)/\∀ i m σ H,W i m σ H ->
 (J.stop i H/\D.nx σ H) ∨ (J.go i H/\∃ N:St->Hp->Prop,(∀ σ' H',N σ' H'->∃ m',m' < m/\W (i+1) m' σ' H')/\∀ x H',J.yld i H x H'->g x σ H' fun σ2 H2=>tb { D with nx:=N,ct:=N,bk:=D.nx } σ2 H2)
def zfF (fp:List Addr) (h:Heap):List (Addr × Obj):=fp.filterMap fun b=>(h.get? b).map fun o=>(b,o)
theorem zc5 {fp:List Addr} {h:Heap} {b:Addr} {o:Obj} (hb:b ∈ fp) (e:h.get? b=some o):(b,o) ∈ zfF fp h:=List.mem_filterMap.mpr ⟨b,hb,by rw [e];rfl⟩
theorem zik {fp:List Addr} {h:Heap} {p:Addr × Obj} (hp:p ∈ zfF fp h):p.1 ∈ fp/\h.get? p.1=some p.2:=by
 obtain ⟨b,hb,e⟩:=List.mem_filterMap.mp hp
 cases q:h.get? b with
 | none=>rw [q] at e;cases e
 | some o =>
  rw [q] at e
  have e':(b,o)=p:=Option.some.inj e
  subst e'
  exact ⟨hb,q⟩
theorem Inv.pinned {pins:List (Addr × Obj)} {σ : St} {H:Hp} {s:Shared} {fp:List Addr} (I:Inv X pins σ H s) (hf:∀ b ∈ fp,FpOk X pins H b) (ho:∀ b ∈ fp,∃ o,s.heap.get? b=some o/\∀ v,o.data ≠ .cell v):Inv X (pins ++ zfF fp s.heap) σ H s :=
 I.pins_of fun p hp=>(List.mem_append.mp hp).elim (fun z=>I.pin p (List.mem_append_right _ z)) fun z=>by
  obtain ⟨hb,e⟩:=zik z
  obtain ⟨f0,f1,f2,_⟩:=hf p.1 hb
  obtain ⟨o,e',d⟩:=ho p.1 hb
  rw [e] at e';cases e'
  exact ⟨e,f0,f1,f2,d⟩
theorem Inv.unpinned {pins pl:List (Addr × Obj)} {σ : St} {H:Hp} {s:Shared} (I:Inv X (pins ++ pl) σ H s):Inv X pins σ H s:=I.pins_of fun p hp=>I.pin p (List.mem_append_right _ (List.mem_append_left _ hp))
theorem zmY {iter:Expr} {body:List Stmt} {wi:TI} {g:TG} {tb:TS} {pos:Pos} (hp:PassesOwn (model X.prog X.w) X.A X.env X.xe) (hc:X.calm=true) (hi:PI X tg iter wi) (hg:PG X tg g) (hb:PSs X body tb)
  (hs:∀ x,foldedSetIterable iter X.env x=pure x:=by intro _;rfl):PS X (.For tg iter body [] pos) (tFor wi g tb):=by
 intro pins s σ H D I h
 refine wpAny_For (thn (hi pins s σ H _ I h) fun v s1 h1=>thn h1 fun itv s2 h2=>?_) hs
 obtain ⟨it,fp,tn,J,H2,e,I2,T,st2,f2,W,⟨m0,w0⟩,turn⟩:=h2
 subst e
 have stat:∀ {H':Hp},(∀ b ∈ fp,H' b=none)->∀ b ∈ fp,FpOk X pins H' b:=fun hn b hb=>⟨hn b hb,(f2 b hb).2⟩
 refine codeAny_forLoop_any (fun n s'=>∃ i σ' H',Inv X pins σ' H' s'/\tn i s'.heap/\(∀ b ∈ fp,H' b=none)/\W i n σ' H') ?_ m0 ⟨0,σ,H2,I2,st2,fun b hb=>(f2 b hb).1,w0⟩
 rintro n s3 ⟨i,σ3,H3,I3,st3,fr3,w3⟩
 rcases turn i n σ3 H3 w3 with ⟨stop,qn⟩ | ⟨go,N,hN,step⟩
 ·refine wpAny_passesOwn hp (thn (T.done X rfl rfl rfl hc i pins s3 σ3 H3 X.xe I3 (stat fr3) st3 stop) fun r s4 ⟨hr,I4⟩=>?_)
  subst hr
  exact wpAny_execs_nil ⟨σ3,H3,I4,qn⟩
 ·refine wpAny_passesOwn hp (thn (T.item X rfl rfl rfl hc i pins s3 σ3 H3 X.xe I3 (stat fr3) st3 go) fun r s4 ⟨u,hr,h4⟩=>?_)
  subst hr
  refine wpAny_passesOwn hp (thn h4 fun _ s5 ⟨x,H5,I5,r5,y5,st5,fr5⟩=>?_)
  have I5':=I5.pinned (stat fr5) (T.obj _ _ st5)
  refine wpAny_passesOwn hp (thn (hg _ s5 σ3 H5 x u _ I5' r5 (step x H5 y5)) fun _ s6 ⟨σ6,H6,I6,q6⟩=>?_)
  refine wpAny_passesOwn hp (thn (hb _ s6 σ6 H6 _ I6 q6) fun f s7 q7=>?_)
  have again:∀ {σ7:St} {H7:Hp},Inv X (pins ++ zfF fp s5.heap) σ7 H7 s7->N σ7 H7->∃ m,m < n/\∃ i σ' H',Inv X pins σ' H' s7/\tn i s7.heap/\(∀ b ∈ fp,H' b=none)/\W i m σ' H':=fun {σ7 H7} I7 n7=>by
   obtain ⟨m',hm,w7⟩:=hN σ7 H7 n7
   refine ⟨m',hm,i+1,σ7,H7,I7.unpinned,T.keep _ _ _ st5 fun b hb o e=>(I7.pin (b,o) (List.mem_append_right _ (List.mem_append_right _ (zc5 hb e)))).1,fun b hb=>?_,w7⟩
   obtain ⟨o,e,d⟩:=T.obj _ _ st5 b hb
   exact (I7.pin (b,o) (List.mem_append_right _ (List.mem_append_right _ (zc5 hb e)))).2.1
  cases f with
  | next=>obtain ⟨σ7,H7,I7,n7⟩:=q7;exact again I7 n7
  | cont=>obtain ⟨σ7,H7,I7,n7⟩:=q7;exact again I7 n7
  | brk=>obtain ⟨σ7,H7,I7,q7⟩:=q7;exact ⟨σ7,H7,I7.unpinned,q7⟩
  | ret v=>obtain ⟨x7,σ7,H7,I7,r7,q7⟩:=q7;exact ⟨x7,σ7,H7,I7.unpinned,r7,q7⟩
end
abbrev R2:=V->V->Hp->VK->Prop
def OpR (X:Cx) (f:Value->Value->Sem Value) (r:R2):Prop :=
 ∀ (pins:List (Addr × Obj)) (s:Shared) (σ : St) (H:Hp) (x y:V) (v u:Value) (Q:VK),Inv X pins σ H s->RelV x v->RelV y u->r x y H Q ->
  wpAny (model X.prog X.w) X.A (f v u) (EP X pins σ Q) X.xe s
def UnR (X:Cx) (f:Value->Sem Value) (r:V->Hp->VK->Prop):Prop :=
 ∀ (pins:List (Addr × Obj)) (s:Shared) (σ : St) (H:Hp) (x:V) (v:Value) (Q:VK),Inv X pins σ H s->RelV x v->r x H Q ->
  wpAny (model X.prog X.w) X.A (f v) (EP X pins σ Q) X.xe s
def zdm (X:Cx) (f:Value) (r:List V->Hp->VK->Prop):Prop :=
 ∀ (pins:List (Addr × Obj)) (s:Shared) (σ : St) (H:Hp) (xs:List V) (us:List Value) (Q:VK),Inv X pins σ H s->Vals xs us->r xs H Q ->
  wpAny (model X.prog X.w) X.A (call f us) (EP X pins σ Q) X.xe s
def tOp (r:R2) (ta tb:TE):TE:=fun σ H Q=>ta σ H fun x H1=>tb σ H1 fun y H2=>r x y H2 Q
def tUn (r:V->Hp->VK->Prop) (ta:TE):TE:=fun σ H Q=>ta σ H fun x H1=>r x H1 Q
def rI (C:Int->Int->Prop) (g:Int->Int->V):R2:=fun x y H Q=>∃ i j,x=.int i/\y=.int j/\C i j/\Q (g i j) H
def rI0 (g:Int->Int->V):R2:=fun x y H Q=>∃ i j,x=.int i/\y=.int j/\Q (g i j) H
def rU (g:Int->V):V->Hp->VK->Prop:=fun x H Q=>∃ i,x=.int i/\Q (g i) H
section
variable {X:Cx} {a b c:Expr} {ta tb tc:TE} {pos:Pos}
theorem binT (ha:PE X a ta) (hb:PE X b tb) {pins:List (Addr × Obj)} {s:Shared} {σ : St} {H:Hp} {R:V->V->Hp->Prop} (I:Inv X pins σ H s)
  (h:ta σ H fun x H1=>tb σ H1 fun y H2=>R x y H2) {Q:Value->Shared->Prop} {f:Value->Value->Sem Value}
  (hf:∀ v u s2 x y H2,Inv X pins σ H2 s2->RelV x v->RelV y u->R x y H2->wpAny (model X.prog X.w) X.A (f v u) Q X.xe s2) :
  wpAny (model X.prog X.w) X.A (eval a X.env) (fun v s₁=>wpAny (model X.prog X.w) X.A (eval b X.env) (fun u s₂=>wpAny (model X.prog X.w) X.A (f v u) Q X.xe s₂) X.xe s₁) X.xe s:=by
 refine thn (ha pins s σ H _ I h) fun v s1 ⟨x,H1,I1,r1,q1⟩=>?_
 refine thn (hb pins s1 σ H1 _ I1 q1) fun u s2 ⟨y,H2,I2,r2,q2⟩=>?_
 exact hf v u s2 x y H2 I2 r1 r2 q2
theorem zmZ {op:Operator} {r:R2} (ho:OpR X (binaryOp op) r) (ha:PE X a ta) (hb:PE X b tb):PE X (.BinOp a op b pos) (tOp r ta tb):=by
 intro pins s σ H Q I h
 exact wpAny_BinOp (binT ha hb I h fun v u s2 x y H2 I2 rx ry q=>ho pins s2 σ H2 x y v u Q I2 rx ry q)
theorem zom {op:UnaryOp} {r:V->Hp->VK->Prop} (ho:UnR X (unaryOp op) r) (ha:PE X a ta):PE X (.UnaryOp op a pos) (tUn r ta):=by
 intro pins s σ H Q I h
 exact UnaryOp_ (thn (ha pins s σ H _ I h) fun v s1 ⟨x,H1,I1,r1,q1⟩=>ho pins s1 σ H1 x v Q I1 r1 q1)
theorem opI {f:Value->Value->Sem Value} {C:Int->Int->Prop} {g:Int->Int->Int}
  (rule:∀ (i j:Int) (t u:Tok) (s:Shared) (Q:Value->Shared->Prop) (E:Value->Shared->Prop),C i j->Q (.int (g i j) s.toks) { s with toks:=s.toks+1 }->wpAny (model X.prog X.w) X.A (f (.int i t) (.int j u)) Q E s) :
  OpR X f (rI C fun i j=>.int (g i j)):=by
 intro pins s σ H x y v u Q I rx ry h
 obtain ⟨i,j,rfl,rfl,hc,q⟩:=h
 obtain ⟨t,rfl⟩:=rx
 obtain ⟨t',rfl⟩:=ry
 exact rule i j t t' s _ _ hc ⟨.int (g i j),H,I.tok _,⟨_,rfl⟩,q⟩
theorem opI0 {f:Value->Value->Sem Value} {g:Int->Int->Int}
  (rule:∀ (i j:Int) (t u:Tok) (s:Shared) (Q:Value->Shared->Prop) (E:Value->Shared->Prop),Q (.int (g i j) s.toks) { s with toks:=s.toks+1 }->wpAny (model X.prog X.w) X.A (f (.int i t) (.int j u)) Q E s) :
  OpR X f (rI0 fun i j=>.int (g i j)):=by
 intro pins s σ H x y v u Q I rx ry h
 obtain ⟨i,j,rfl,rfl,q⟩:=h
 obtain ⟨t,rfl⟩:=rx
 obtain ⟨t',rfl⟩:=ry
 exact rule i j t t' s _ _ ⟨.int (g i j),H,I.tok _,⟨_,rfl⟩,q⟩
theorem opB0 {f:Value->Value->Sem Value} {g:Int->Int->Bool}
  (rule:∀ (i j:Int) (t u:Tok) (s:Shared) (Q:Value->Shared->Prop) (E:Value->Shared->Prop),Q (.bool (g i j)) s->wpAny (model X.prog X.w) X.A (f (.int i t) (.int j u)) Q E s) :
  OpR X f (rI0 fun i j=>.bl (g i j)):=by
 intro pins s σ H x y v u Q I rx ry h
 obtain ⟨i,j,rfl,rfl,q⟩:=h
 obtain ⟨t,rfl⟩:=rx
 obtain ⟨t',rfl⟩:=ry
 exact rule i j t t' s _ _ ⟨.bl (g i j),H,I,rfl,q⟩
def CPow (i j:Int):Prop:=0<=j/\j<=1000000/\i.natAbs < 2 ^ 64
def CMul (i j:Int):Prop:=(-(2 ^ 64) < i/\i < 2 ^ 64) ∨ (-(2 ^ 64) < j/\j < 2 ^ 64)
theorem CMul.ok {i j:Int} (h:CMul i j):IntMulOk i j:=by
 rcases h with ⟨h1,h2⟩ | ⟨h1,h2⟩
 ·exact .of_left (intBits_le_64 h1 h2)
 ·exact .of_right (intBits_le_64 h1 h2)
theorem zm0:OpR X (binaryOp .Add) (rI0 fun i j=>.int (i+j)):=opI0 fun _ _ _ _ _ _ _ q=>add_int q
theorem zm1:OpR X (binaryOp .Sub) (rI0 fun i j=>.int (i - j)):=opI0 fun _ _ _ _ _ _ _ q=>sub_int q
theorem zm2:OpR X (binaryOp .Mult) (rI CMul fun i j=>.int (i * j)):=opI fun _ _ _ _ _ _ _ hc q=>mul_int q hc.ok
theorem zm3:OpR X (binaryOp .Mod) (rI (fun _ j=>0 < j) fun i j=>.int (i % j)):=opI fun i j _ _ _ _ _ hc q=>by
 have h1:(0:Int) < j:=hc
 exact mod_int' (by omega) (by rw [Int.fmod_eq_emod_of_nonneg i (by omega)];exact q)
theorem zm4:OpR X (binaryOp .Pow) (rI CPow fun i j=>.int (i ^ j.toNat)):=opI fun _ _ _ _ _ _ _ hc q=>pow_int_small hc.1 hc.2.1 hc.2.2 q
theorem unI {f:Value->Sem Value} {g:Int->Int}
  (rule:∀ (i:Int) (t:Tok) (s:Shared) (Q:Value->Shared->Prop) (E:Value->Shared->Prop),Q (.int (g i) s.toks) { s with toks:=s.toks+1 }->wpAny (model X.prog X.w) X.A (f (.int i t)) Q E s) :
  UnR X f (rU fun i=>.int (g i)):=by
 intro pins s σ H x v Q I rx h
 obtain ⟨i,rfl,q⟩:=h
 obtain ⟨t,rfl⟩:=rx
 exact rule i t s _ _ ⟨.int (g i),H,I.tok _,⟨_,rfl⟩,q⟩
theorem zm5:UnR X (unaryOp .USub) (rU fun i=>.int (-i)):=unI fun _ _ _ _ _ q=>neg_int q
end
section
variable {X:Cx} {a b c:Expr} {ta tb tc:TE} {pos:Pos}
theorem zk4 {pins:List (Addr × Obj)} {σ : St} {H:Hp} {s:Shared} {Q:VK} {k k':Bool} (I:Inv X pins σ H s) (q:Q (.bl k) H) (e:k=k'):EP X pins σ Q (.bool k') s:=by
 subst e
 exact ⟨.bl k,H,I,rfl,q⟩
theorem zon:OpR X (compareOp .Lt) (rI0 fun i j=>.bl (decide (i < j))):=opB0 fun _ _ _ _ _ _ _ q=>lt_int q
theorem zoo:OpR X (compareOp .LtE) (rI0 fun i j=>.bl (decide (i<=j))):=opB0 fun _ _ _ _ _ _ _ q=>le_int q
theorem zop:OpR X (compareOp .Gt) (rI0 fun i j=>.bl (decide (j < i))):=opB0 fun _ _ _ _ _ _ _ q=>gt_int q
theorem zoq:OpR X (compareOp .GtE) (rI0 fun i j=>.bl (decide (j<=i))):=opB0 fun _ _ _ _ _ _ _ q=>ge_int q
theorem zil:OpR X (compareOp .In) (fun x y H Q=>∃ i j,x=.str i/\y=.str j/\Q (.bl (!(Builtin.Str.occurrences j i 0 j.length 1).isEmpty)) H):=by
 intro pins s σ H x y v u Q I rx ry h
 obtain ⟨i,j,rfl,rfl,q⟩:=h
 obtain ⟨t,rfl⟩:=rx
 obtain ⟨t',rfl⟩:=ry
 exact in_str (zk4 I q rfl)
theorem zfG:OpR X (compareOp .NotIn) (fun x y H Q=>∃ i j,x=.str i/\y=.str j/\Q (.bl (!(!(Builtin.Str.occurrences j i 0 j.length 1).isEmpty))) H):=by
 intro pins s σ H x y v u Q I rx ry h
 obtain ⟨i,j,rfl,rfl,q⟩:=h
 obtain ⟨t,rfl⟩:=rx
 obtain ⟨t',rfl⟩:=ry
 exact notIn_str (zk4 I q rfl)
theorem OpR.or {f:Value->Value->Sem Value} {r r':R2} (h:OpR X f r) (h':OpR X f r'):OpR X f (fun x y H Q=>r x y H Q ∨ r' x y H Q):=by
 intro pins s σ H x y v u Q I rx ry q
 rcases q with q | q
 ·exact h pins s σ H x y v u Q I rx ry q
 ·exact h' pins s σ H x y v u Q I rx ry q
theorem zaS (b:Expr) {op:CmpOp} (h:op ≠ .In:=by decide) (h2:op ≠ .NotIn:=by decide):behindInMarks op b=false:=by
 have e1:(op == CmpOp.In)=false:=by cases op <;> first | rfl | exact absurd rfl h
 have e2:(op == CmpOp.NotIn)=false:=by cases op <;> first | rfl | exact absurd rfl h2
 cases b <;> simp [behindInMarks,e1,e2]
theorem zim {op:CmpOp} {r:R2} (ho:OpR X (compareOp op) r) (ha:PE X a ta) (hb:PE X b tb) (hm:behindInMarks op b=false):PE X (.Compare a [op] [b] pos) (tOp r ta tb):=by
 intro pins s σ H Q I h
 exact wpAny_Compare1 (binT ha hb I h fun v u s2 x y H2 I2 rx ry q=>ho pins s2 σ H2 x y v u Q I2 rx ry q) hm
def zm6 (t:TE):TT:=fun σ H Q=>t σ H fun x H'=>∃ k,x=.bl k/\Q k H'
theorem zgz {op:CmpOp} {r:R2} (ho:OpR X (compareOp op) r) (ha:PE X a ta) (hb:PE X b tb) (hm:behindInMarks op b=false):PT X (.Compare a [op] [b] pos) (zm6 (tOp r ta tb)):=by
 intro pins s σ H Q I h
 refine wpAny_isTrue_Compare1 (thn (ha pins s σ H _ I h) fun v s1 ⟨x,H1,I1,r1,q1⟩=>thn (hb pins s1 σ H1 _ I1 q1) fun u s2 ⟨y,H2,I2,r2,q2⟩ =>
  thn (ho pins s2 σ H2 x y v u _ I2 r1 r2 q2) fun c s3 ⟨z,H3,I3,r3,k,e,q3⟩=>?_) hm
 subst e
 cases r3
 exact wpAny_truthy_bool ⟨H3,I3,q3⟩
def zk5 (r r':R2) (ta tb tc:TE):TE:=fun σ H Q=>ta σ H fun x H1=>tb σ H1 fun y H2=>r x y H2 fun z H3=>∃ k,z=.bl k /\
 (if k=true then tc σ H3 fun w' H4=>r' y w' H4 Q else Q (.bl false) H3)
theorem zj5 {op op':CmpOp} {r r':R2} (ho:OpR X (compareOp op) r) (ho':OpR X (compareOp op') r') (ha:PE X a ta) (hb:PE X b tb) (hc:PE X c tc)
  (hm:lastMarks [op,op'] [b,c]=false:=by with_unfolding_all rfl):PE X (.Compare a [op,op'] [b,c] pos) (zk5 r r' ta tb tc):=by
 intro pins s σ H Q I h
 refine Compare_chain (thn (ha pins s σ H _ I h) fun v s1 ⟨x,H1,I1,r1,q1⟩=>chain_link (thn (hb pins s1 σ H1 _ I1 q1) fun u s2 ⟨y,H2,I2,r2,q2⟩ =>
  thn (ho pins s2 σ H2 x y v u _ I2 r1 r2 q2) fun d s3 ⟨z,H3,I3,r3,k,e,q3⟩=>?_)) hm
 subst e
 cases r3
 refine wpAny_truthy_bool ?_
 cases k with
 | false=>exact ite_ff ⟨.bl false,H3,I3,rfl,q3⟩
 | true=>exact ite_tt (chain_last (thn (hc pins s3 σ H3 _ I3 q3) fun w' s4 ⟨z',H4,I4,r4,q4⟩=>ho' pins s4 σ H4 y z' u w' Q I4 r2 r4 q4))
theorem zj6 {op op':CmpOp} {r r':R2} (ho:OpR X (compareOp op) r) (ho':OpR X (compareOp op') r') (ha:PE X a ta) (hb:PE X b tb) (hc:PE X c tc)
  (hm:lastMarks [op,op'] [b,c]=false:=by with_unfolding_all rfl):PT X (.Compare a [op,op'] [b,c] pos) (zm6 (zk5 r r' ta tb tc)):=by
 intro pins s σ H Q I h
 refine isTrue_chain (thn (ha pins s σ H _ I h) fun v s1 ⟨x,H1,I1,r1,q1⟩=>test_link (thn (hb pins s1 σ H1 _ I1 q1) fun u s2 ⟨y,H2,I2,r2,q2⟩ =>
  thn (ho pins s2 σ H2 x y v u _ I2 r1 r2 q2) fun d s3 ⟨z,H3,I3,r3,k,e,q3⟩=>?_)) hm
 subst e
 cases r3
 refine wpAny_truthy_bool ?_
 cases k with
 | false =>
  obtain ⟨k',e',q'⟩:=q3
  cases e'
  exact ite_ff ⟨H3,I3,q'⟩
 | true =>
  refine ite_tt (test_last (thn (hc pins s3 σ H3 _ I3 q3) fun w' s4 ⟨z',H4,I4,r4,q4⟩=>thn (ho' pins s4 σ H4 y z' u w' _ I4 r2 r4 q4) fun d' s5 ⟨z2,H5,I5,r5,k2,e2,q5⟩=>?_))
  subst e2
  cases r5
  exact wpAny_truthy_bool ⟨H5,I5,q5⟩
theorem zha:(sizeLine:Nat) < 2 ^ 63:=by rw [sizeLine_eq];decide
theorem zhG:OpR X (binaryOp .Add) (fun x y H Q=>∃ i j,x=.str i/\y=.str j/\i.length+j.length<=sizeLine/\Q (.str (i ++ j)) H):=by
 intro pins s σ H x y v u Q I rx ry h
 obtain ⟨i,j,rfl,rfl,hz,q⟩:=h
 obtain ⟨t,rfl⟩:=rx
 obtain ⟨t',rfl⟩:=ry
 exact add_str (fun t' tk=>⟨.str (i ++ j),H,I.tok _,⟨_,rfl⟩,q⟩) hz
theorem zin {x:V} {us:List Value} (r:Vals [x] us):∃ u,us=[u]/\RelV x u:=by
 cases r with
 | cons r1 r2=>cases r2;exact ⟨_,rfl,r1⟩
theorem zm7 {x y:V} {us:List Value} (r:Vals [x,y] us):∃ u w',us=[u,w']/\RelV x u/\RelV y w':=by
 cases r with
 | cons r1 r2 =>
  cases r2 with
  | cons r3 r4=>cases r4;exact ⟨_,_,rfl,r1,r3⟩
theorem zio (hc:X.calm=true):zdm X (.builtin "max") (fun xs H Q=>∃ i j,xs=[.int i,.int j]/\Q (.int (if j > i then j else i)) H):=by
 intro pins s σ H xs us Q I r h
 obtain ⟨i,j,rfl,q⟩:=h
 obtain ⟨u,w',rfl,⟨t,rfl⟩,⟨t',rfl⟩⟩:=zm7 r
 refine max_two_ints (I.ok.hd hc) fun h' tk k=>⟨_,H,I.kept k,?_,q⟩
 by_cases hj:j > i
 ·rw [if_pos hj,if_pos hj];exact ⟨_,rfl⟩
 ·rw [if_neg hj,if_neg hj];exact ⟨_,rfl⟩
theorem ziq:zdm X (.type "int") (fun xs H Q=>(∃ i,xs=[.int i]/\Q (.int i) H) ∨ ∃ k,xs=[.bl k]/\Q (.int (if k then 1 else 0)) H):=by
 intro pins s σ H xs us Q I r h
 rcases h with ⟨i,rfl,q⟩ | ⟨k,rfl,q⟩
 ·obtain ⟨u,rfl,t,rfl⟩:=zin r
  exact call_int_int ⟨.int i,H,I,⟨_,rfl⟩,q⟩
 ·obtain ⟨u,rfl,r1⟩:=zin r
  cases r1
  exact call_int_bool ⟨.int (if k then 1 else 0),H,I.tok _,⟨_,rfl⟩,q⟩
def LenV (K:PySem.W.Frag) (x:V) (H:Hp) (n:Nat):Prop :=
 match x with
 | .str y=>y.length<=sizeLine/\n=y.length
 | .byt y=>y.size<=sizeLine/\n=y.size
 | .ref p=>(∃ xs,SqL K H p xs/\n=xs.length) ∨ ∃ xs,SqT K H p xs/\n=xs.length
 | _=>False
theorem zhb:zdm X (.builtin "len") (fun xs H Q=>∃ x n,xs=[x]/\LenV X.K x H n/\Q (.int n) H):=by
 intro pins s σ H xs us Q I r h
 obtain ⟨x,n,rfl,e,q⟩:=h
 obtain ⟨u,rfl,rx⟩:=zin r
 have hl:=zha
 have hs:sizeLine=16777216:=sizeLine_eq
 cases x with
 | str y =>
  obtain ⟨t,rfl⟩:=rx
  obtain ⟨hy,e'⟩:y.length<=sizeLine/\n=y.length:=e
  subst e'
  exact len_str (by omega) ⟨.int _,H,I.tok _,⟨_,rfl⟩,q⟩
 | byt y =>
  obtain ⟨t,rfl⟩:=rx
  obtain ⟨hy,e'⟩:y.size<=sizeLine/\n=y.size:=e
  subst e'
  exact PySem.W.len_bytes (by omega) ⟨.int _,H,I.tok _,⟨_,rfl⟩,q⟩
 | ref p =>
  cases rx
  have e':(∃ xs,SqL X.K H p xs/\n=xs.length) ∨ ∃ xs,SqT X.K H p xs/\n=xs.length:=e
  rcases e' with ⟨xs,hx,e'⟩ | ⟨xs,hx,e'⟩
  ·subst e'
   obtain ⟨its,r',pl,hz⟩:=I.list hx
   have hlen:=r'.length
   exact Calls.call_len_list pl.isList (by simp only [List.size_toArray];omega) ⟨.int xs.length,H,I.tok _,⟨_,by simp only [List.size_toArray];rw [hlen]⟩,q⟩
  ·subst e'
   obtain ⟨its,r',pl,hz⟩:=I.tuple hx
   have hlen:=r'.length
   exact len_tuple pl (by simp only [List.size_toArray];omega) ⟨.int xs.length,H,I.tok _,⟨_,by simp only [List.size_toArray];rw [hlen]⟩,q⟩
 | _=>exact (show False from e).elim
end
section
variable {prog:Program} {w:World} {A:Around} {E:Value->Shared->Prop} {s:Shared} {K:PySem.W.Frag} {x dx C f:Addr} {mA:Str->Option Value} {name:Str} {v:Value}
end
def putF (f:Str) (v:V):List (Str × V)->List (Str × V)
 | []=>[(f,v)]
 | (g,x) :: r=>if g=f then (g,v) :: r else (g,x) :: putF f v r
theorem zdf (f g:Str) (v:V):∀ fs:List (Str × V),(putF f v fs).lookup g=if g=f then some v else fs.lookup g
 | []=>by
  show List.lookup g [(f,v)]=_
  by_cases h:g=f
  ·have hb:(g == f)=true:=beq_iff_eq.mpr h
   simp only [List.lookup,hb,if_pos h]
  ·have hb:(g == f)=false:=beq_eq_false_iff_ne.mpr h
   simp only [List.lookup,hb,if_neg h]
 | (k,x) :: r=>by
  have ih:=zdf f g v r
  rw [show putF f v ((k,x) :: r)=(if k=f then (k,v) :: r else (k,x) :: putF f v r) from rfl]
  by_cases hk:k=f
  ·rw [if_pos hk]
   by_cases h:g=k
   ·have hb:(g == k)=true:=beq_iff_eq.mpr h
    simp only [List.lookup,hb,if_pos (h.trans hk)]
   ·have hb:(g == k)=false:=beq_eq_false_iff_ne.mpr h
    simp only [List.lookup,hb,if_neg (fun e:g=f=>h (e.trans hk.symm))]
  ·rw [if_neg hk]
   by_cases h:g=k
   ·have hb:(g == k)=true:=beq_iff_eq.mpr h
    simp only [List.lookup,hb,if_neg (fun e:g=f=>hk (h.symm.trans e))]
   ·have hb:(g == k)=false:=beq_eq_false_iff_ne.mpr h
    simp only [List.lookup,hb]
    exact ih
theorem zeg (f:Str) (v:V):∀ fs:List (Str × V),f ∈ (putF f v fs).map (·.1)/\∀ g,g ∈ fs.map (·.1)->g ∈ (putF f v fs).map (·.1)
 | []=>⟨by simp [putF],fun g h=>by simp at h⟩
 | (k,x) :: r=>by
  obtain ⟨i1,i2⟩:=zeg f v r
  rw [show putF f v ((k,x) :: r)=(if k=f then (k,v) :: r else (k,x) :: putF f v r) from rfl]
  by_cases hk:k=f
  ·rw [if_pos hk]
   subst hk
   exact ⟨by simp,fun g h=>by simpa using h⟩
  ·rw [if_neg hk]
   refine ⟨?_,fun g h=>?_⟩
   ·rw [List.map_cons]
    exact List.mem_cons_of_mem _ i1
   ·rw [List.map_cons] at h ⊢
    rcases List.mem_cons.mp h with e | e
    ·exact List.mem_cons.mpr (.inl e)
    ·exact List.mem_cons_of_mem _ (i2 g e)
section
variable {P:Program} {w:World} {H H':Hp} {h h':Heap} {a C dx:Addr} {fs fs':List (Str × V)}
end
section
variable {X:Cx} {pins:List (Addr × Obj)} {σ : St} {H:Hp} {s:Shared} {a C dx:Addr} {fs:List (Str × V)} {f:Str} {v:V} {A:Around} {E:Value->Shared->Prop}
theorem zlq {prog:Program} {w:World} {env:Env} {e:Expr} {f:Str} {pos:Pos} {s:Shared} {Q:Value->Shared->Prop} (hb:attributeBase e f env (eval e env)=eval e env)
  (h:wpAny (model prog w) A (eval e env) (fun o s₁=>wpAny (model prog w) A (getAttr o f true) Q E s₁) E s):wpAny (model prog w) A (eval (.Attribute e f pos) env) Q E s :=
 Attribute_any_ h (by rw [arm_eval_Attribute,hb])
end
section
variable {X:Cx} {o e value:Expr} {f:Str} {pos pos' tpos:Pos} {ta tv:TE}
end
section
variable {X:Cx} {pins:List (Addr × Obj)} {σ : St} {H:Hp} {s:Shared} {A:Around} {E:Value->Shared->Prop} {Q:Value->Shared->Prop} {c:Value} {b:Bool}
end
structure Room (k:Nat) (A:Around):Prop where
 hd:A.handled=none
 dp:A.depth+3 * k+5 < recursionLimit
 un:A.units+16 * k+200 < cLine
 gd:A.guards=some []
theorem Room.mono {j k:Nat} {A:Around} (r:Room k A) (h:j<=k):Room j A:=⟨r.hd,by have:=r.dp;omega,by have:=r.un;omega,r.gd⟩
theorem Room.deeper {k:Nat} {A:Around} (r:Room (k+1) A) (env:Env):Room k (A.deeper env) :=
 ⟨r.hd,by have:=r.dp;show A.depth+1+3 * k+5 < _;omega,by have:=r.un;show A.units+3+16 * k+200 < _;omega,r.gd⟩
theorem zhH {A:Around} {C:Addr} {us:List Value} {kw:List (Str × Value)}:(A.under (.builtin "type.__call__" ⟨.ref C :: us,kw⟩)).depth=A.depth+1:=by
 first | rfl | simp [Around.under,Code.weight,Code.isCreation,Code.isGuard,Code.isCaller,Code.frames,Code.isFrame,guardIds]
theorem zhI {A:Around} {C:Addr} {us:List Value} {kw:List (Str × Value)}:(A.under (.builtin "type.__call__" ⟨.ref C :: us,kw⟩)).units=A.units+1:=by
 first | rfl | simp [Around.under,Code.cUnits,Code.frames,Code.isFrame]
theorem Room.make {k:Nat} {A:Around} (r:Room (k+1) A) (C:Addr) (us:List Value) (kw:List (Str × Value)):Room k (A.under (.builtin "type.__call__" ⟨.ref C :: us,kw⟩)) :=
 ⟨r.hd,by have:=r.dp;rw [zhH];omega,by have:=r.un;rw [zhI];omega,(by first | exact r.gd | (simp [Around.under,guardIds];exact r.gd))⟩
theorem Room.depth {k:Nat} {A:Around} (r:Room k A):A.depth < recursionLimit:=by have:=r.dp;omega
theorem Room.units {k:Nat} {A:Around} (r:Room k A):A.units+64 < cLine:=by have:=r.un;omega
def tNil:TA:=fun _ H Q=>Q [] H
def zgA (ta:TE) (tr:TA):TA:=fun σ H Q=>ta σ H fun x H1=>tr σ H1 fun xs H2=>Q (x :: xs) H2
section
variable {X:Cx} {e:Expr} {es:List Expr} {te:TE} {t:TA} {pos:Pos}
theorem zcT:PA X [] tNil:=fun _ _ _ _ H Q I h=>Calls.spliced_nil ⟨[],H,I,.nil,h⟩
theorem zbw (ha:PE X e te) (hr:PA X es t) (hs:starEach (e :: es) X.env=(false,eval e X.env) :: starEach es X.env:=by rfl):PA X (e :: es) (zgA te t):=by
 intro pos pins s σ H Q I h
 rw [hs]
 show wpAny _ _ (spliced ((false,eval e X.env) :: backTo pos (starEach es X.env))) _ _ s
 refine Calls.spliced_cons (thn (ha pins s σ H _ I h) fun u s1 ⟨x,H1,I1,r1,q1⟩=>?_)
 exact thn (hr pos pins s1 σ H1 _ I1 q1) fun us s2 ⟨xs,H2,I2,r2,q2⟩=>⟨x :: xs,H2,I2,.cons r1 r2,q2⟩
def tTup (t:TA):TE:=fun σ H Q=>t σ H fun xs H1=>xs.length<=sizeLine/\∀ p,H1 p=none->Q (.ref p) (upd H1 p (.tup xs))
def tLst (t:TA):TE:=fun σ H Q=>t σ H fun xs H1=>xs.length<=sizeLine/\∀ p,H1 p=none->Q (.ref p) (upd H1 p (.lst xs))
theorem zm8 {x1} (h:PA X es t):PE X (.Tuple es x1 pos) (tTup t):=by
 intro pins s σ H Q I hq
 refine wpAny_Tuple_spliced (thn (h pos pins s σ H _ I hq) fun us s1 ⟨xs,H1,I1,r,z,q⟩=>⟨by rw [← r.length];exact z,?_⟩)
 have hf:H1 s1.heap.objs.size=none:=I1.hok.fresh (Nat.le_refl _)
 refine ⟨.ref s1.heap.objs.size,upd H1 s1.heap.objs.size (.tup xs),I1.laid (t':=s1.toks) (fun b u e=>Heap.get?_push_of_some _ e) (Nat.le_refl _) ?_,rfl,q _ hf⟩
 exact ⟨z,us,r,⟨_,Heap.get?_push_size _ rfl,rfl,_,rfl⟩⟩
theorem zk6 (h:PA X es t):PE X (.List es pos) (tLst t):=by
 intro pins s σ H Q I hq
 refine wpAny_List_spliced (thn (h pos pins s σ H _ I hq) fun us s1 ⟨xs,H1,I1,r,z,q⟩=>⟨by rw [← r.length];exact z,?_⟩)
 have hf:H1 s1.heap.objs.size=none:=I1.hok.fresh (Nat.le_refl _)
 refine ⟨.ref s1.heap.objs.size,upd H1 s1.heap.objs.size (.lst xs),I1.laid (t':=s1.toks) (fun b u e=>Heap.get?_push_of_some _ e) (Nat.le_refl _) ?_,rfl,q _ hf⟩
 exact ⟨z,us,0,r,Heap.get?_push_size _ rfl⟩
end
abbrev Sp:=List V->Hp->VK->XK->Prop
abbrev CXT:=List Env->Hp->Shared->XK->Value->Shared->Prop
structure Env0 (P:Program) (w:World) (K:PySem.W.Frag) (mg:Str->Option Value) (base:Heap) (A:Around) (outer:List Env) (s:Shared) (H:Hp):Prop where
 frames:A.frames=some outer
 mod:Mod K mg base
 bs:∀ b o,base.get? b=some o->s.heap.get? b=some o/\H b=none
 bsz:base.objs.size<=s.heap.objs.size
 funs:s.heap.FunFrames base outer
 frf:∀ b ∈ frs outer,H b=none
 hok:HOk P w H s.heap
 bare:AllBare s.gens
def CE (outer:List Env) (P:Program) (w:World) (H:Hp) (s:Shared) (Q:VK) (u:Value) (s':Shared):Prop :=
 ∃ v H',s'.os=s.os/\AllBare s'.gens/\Un (frs outer) [] H H' s.heap s'.heap/\HOk P w H' s'.heap/\RelV v u/\Q v H'
def CR (CX:CXT) (outer:List Env) (P:Program) (w:World) (H:Hp) (s:Shared) (Q:VK) (E:XK) (r:Result) (s':Shared):Prop :=
 match r with
 | .ok (.ret u)=>CE outer P w H s Q u s'
 | .ok _=>False
 | .error e=>CX outer H s E e s'
structure FnOk (P:Program) (w:World) (K:PySem.W.Frag) (mg:Str->Option Value) (base:Heap) (CX:CXT) (k:Nat) (f:Addr) (fd:FuncData) (ps:List Str) (sp:Sp):Prop where
 len:∀ vs H Q E,sp vs H Q E->vs.length=ps.length
 run:∀ (A:Around) (outer:List Env) (s:Shared) (H:Hp) (args:Args) (us:List Value) (vs:List V) (Q:VK) (E:XK),Room k A->Env0 P w K mg base A outer s H->BindsTo s fd args (ps.zip us)->Vals vs us->sp vs H Q E ->
  codeAny (model P w) A (.call (.ref f) args) (CR CX outer P w H s Q E) s
theorem Env0.make {P:Program} {w:World} {K:PySem.W.Frag} {mg:Str->Option Value} {base:Heap} {A:Around} {outer:List Env} {s:Shared} {H:Hp} (e:Env0 P w K mg base A outer s H) (C:Addr) (us:List Value) (kw:List (Str × Value)) :
  Env0 P w K mg base (A.under (.builtin "type.__call__" ⟨.ref C :: us,kw⟩)) outer s H:=⟨by first | exact e.frames | (simpa [Around.under,Code.envs,Code.isFrame,pushEnvs] using e.frames),e.mod,e.bs,e.bsz,e.funs,e.frf,e.hok,e.bare⟩
section
variable {X:Cx} {pins:List (Addr × Obj)} {σ : St} {H:Hp} {s s':Shared}
theorem Inv.env0 (I:Inv X pins σ H s):Env0 X.prog X.w X.K X.mg X.base X.A X.stack s H :=
 ⟨I.ok.frames,I.ok.mod,I.bs,Nat.le_trans I.ok.bsz I.sz,I.stack,I.stkFree,I.hok,I.bare⟩
theorem Inv.after {Q:VK} {u:Value} (I:Inv X pins σ H s) (h:CE X.stack X.prog X.w H s Q u s'):EP X pins σ Q u s':=by
 obtain ⟨v,H',os,bare,un,hok,r,q⟩:=h
 obtain ⟨hh,g,d,t,os'⟩:=s'
 obtain rfl:os'=s.os:=os
 exact ⟨v,H',I.call (h':=hh) (g':=g) (d':=d) (t':=t) (ch:=[]) un hok bare (fun b z=>absurd z (by simp)),r,q⟩
end
def zj7 (sp:Sp) (dvs:List V) (E:XK) (t:TA):TE:=fun σ H Q=>t σ H fun vs H1=>sp (vs ++ dvs) H1 Q E
def zcU (K:PySem.W.Frag) (fd:FuncData) (ps:List Str) (ds:List Value):Prop :=
 ∀ (s:Shared) (us:List Value),K.In s.heap->(us ++ ds).length=ps.length->BindsTo s fd ⟨us,[]⟩ (ps.zip (us ++ ds))
theorem zcU.all {K:PySem.W.Frag} {fd:FuncData} {ps:List Str} (h:∀ us:List Value,us.length=ps.length->bindArgs fd ⟨us,[]⟩=pure (ps.zip us)):zcU K fd ps []:=fun s us _ hl=>by
 rw [List.append_nil] at hl ⊢
 exact .of_eq (h us hl)
def zir (CX:CXT) (X:Cx) (E:XK):Prop:=∀ (pins:List (Addr × Obj)) (σ : St) (H:Hp) (s:Shared) (e:Value) (s':Shared),Inv X pins σ H s->CX X.stack H s E e s'->X.xe e s'
section
variable {X:Cx} {CX:CXT} {k:Nat} {f C:Addr} {fd:FuncData} {ps:List Str} {sp:Sp} {dvs:List V} {ds:List Value} {E:XK} {x m:Str} {p pos apos:Pos} {e o:Expr} {es:List Expr} {ta:TE} {t:TA}
theorem zk7 {pins:List (Addr × Obj)} {σ : St} {H:Hp} {s:Shared} {Q:VK} {us:List Value} {vs:List V} (F:FnOk X.prog X.w X.K X.mg X.base CX k f fd ps sp) (hr:Room k X.A) (hb:zcU X.K fd ps ds) (hd:Vals dvs ds) (hx:zir CX X E)
  (I:Inv X pins σ H s) (r:Vals vs us) (h:sp (vs ++ dvs) H Q E):wpAny (model X.prog X.w) X.A (call (.ref f) us) (EP X pins σ Q) X.xe s:=by
 have r2:Vals (vs ++ dvs) (us ++ ds):=r.append hd
 have hl:(us ++ ds).length=ps.length:=by rw [← r2.length];exact F.len _ _ _ _ h
 refine wpAny_call (codeAny_mono (F.run X.A X.stack s H ⟨us,[]⟩ (us ++ ds) (vs ++ dvs) Q E hr I.env0 (hb s us I.kIn hl) r2 h) fun r s' hq=>?_)
 cases r with
 | error e=>exact hx pins σ H s e s' I hq
 | ok fl =>
  cases fl with
  | ret u=>exact I.after hq
  | next=>exact False.elim hq
  | brk=>exact False.elim hq
  | cont=>exact False.elim hq
theorem zlr (F:FnOk X.prog X.w X.K X.mg X.base CX k f fd ps sp) (hr:Room k X.A) (hg:Gl X x) (hm:X.mg x=some (.ref f)) (hk:PySem.W.keepIn X.K (.ref f)=true) (hb:zcU X.K fd ps ds) (hd:Vals dvs ds) (hx:zir CX X E)
  (ha:PA X (e :: es) t) (hdb:(x == ("__debug__" : Str))=false:=by decide) (he:starEach (e :: es) X.env=(false,eval e X.env) :: starEach es X.env:=by rfl) (hpl:(backTo pos (starEach es X.env)).any (·.1)=false:=by rfl) :
  PE X (.Call (.Name x p) (e :: es) [] pos) (zj7 sp dvs E t):=by
 intro pins s σ H Q I h
 refine wpAny_Call_Name_kw (zdH I hg hm ?_ hdb)
 refine PySem.W.callWith_K (h₀:=X.base) I.ok.mod.kin hk (thn (ha pos pins s σ H _ I h) fun us s1 ⟨vs,H1,I1,r,q⟩=>⟨I1.kIn,?_⟩) he hpl
 exact zk7 F hr hb hd hx I1 r q
end
section
variable {X:Cx} {CX:CXT} {k:Nat} {f C:Addr} {fd:FuncData} {ps ks:List Str} {sp:Sp} {E:XK} {x m:Str} {p pos apos kpos:Pos} {e o:Expr} {es:List Expr} {kws:List Keyword} {te ta:TE} {t tk:TA} {nm:Option Str}
variable {g:List Value->List Value->List Value} {gV:List V->List V->List V}
end
structure zdI (N P:List Str) (sc:Scope):Prop where
 kind:sc.kind=.function
 co:sc.isCoroutine=false
 gen:sc.isGenerator=false
 nd:N.Nodup
 pre:N.take P.length=P
 par:∀ x ∈ P,sc.names.lookup x=some .local ∨ sc.names.lookup x=some .cell
 nofree:∀ y ∈ sc.names,y.2 ≠ .free
theorem zfH {kindOf:Str->Option NameKind} {x:Str}:∀ {binds:List (Str × Value)} {m:Str->Option Value},(∀ v,(x,v) ∉ binds)->bindL kindOf binds m x=m x
 | [],_,_=>rfl
 | (n,v) :: r,m,h=>by
  unfold bindL
  rw [zfH fun w hw=>h w (List.mem_cons_of_mem _ hw)]
  split
  ·have:x ≠ n:=by rintro rfl;exact h v List.mem_cons_self
   simp [this]
  ·rfl
theorem zfI {kindOf:Str->Option NameKind} {x:Str}:∀ {binds:List (Str × Value)} {m:Str->Option Value},(∀ v,(x,v) ∉ binds)->bindC kindOf binds m x=m x
 | [],_,_=>rfl
 | (n,v) :: r,m,h=>by
  unfold bindC
  rw [zfI fun w hw=>h w (List.mem_cons_of_mem _ hw)]
  split
  ·rfl
  ·have:x ≠ n:=by rintro rfl;exact h v List.mem_cons_self
   simp [this]
theorem zfJ {kindOf:Str->Option NameKind} {x:Str} {v:Value}:∀ {P:List Str} {vs:List Value} {i:Nat} {m:Str->Option Value},P.Nodup->P[i]?=some x->vs[i]?=some v->kindOf x=some .local ->
  bindL kindOf (P.zip vs) m x=some v
 | [],_,_,_,_,h,_,_=>by simp at h
 | _ :: _,[],_,_,_,_,h,_=>by simp at h
 | p :: P,w :: vs,0,m,nd,h1,h2,hk=>by
  simp at h1 h2;subst h1;subst h2
  show bindL kindOf ((p,w) :: P.zip vs) m p=_
  unfold bindL
  rw [zfH fun v hv=>(List.nodup_cons.mp nd).1 (List.of_mem_zip hv).1,if_pos hk]
  simp
 | p :: P,w :: vs,i+1,m,nd,h1,h2,hk=>by
  show bindL kindOf ((p,w) :: P.zip vs) m x=_
  unfold bindL
  exact zfJ (i:=i) (List.nodup_cons.mp nd).2 (by simpa using h1) (by simpa using h2) hk
theorem zfK {kindOf:Str->Option NameKind} {x:Str} {v:Value}:∀ {P:List Str} {vs:List Value} {i:Nat} {m:Str->Option Value},P.Nodup->P[i]?=some x->vs[i]?=some v->kindOf x ≠ some .local ->
  bindC kindOf (P.zip vs) m x=some v
 | [],_,_,_,_,h,_,_=>by simp at h
 | _ :: _,[],_,_,_,_,h,_=>by simp at h
 | p :: P,w :: vs,0,m,nd,h1,h2,hk=>by
  simp at h1 h2;subst h1;subst h2
  show bindC kindOf ((p,w) :: P.zip vs) m p=_
  unfold bindC
  rw [zfI fun v hv=>(List.nodup_cons.mp nd).1 (List.of_mem_zip hv).1,if_neg hk]
  simp
 | p :: P,w :: vs,i+1,m,nd,h1,h2,hk=>by
  show bindC kindOf ((p,w) :: P.zip vs) m x=_
  unfold bindC
  exact zfK (i:=i) (List.nodup_cons.mp nd).2 (by simpa using h1) (by simpa using h2) hk
def zeh (N:List Str) (vs:List V):St:=vs.map some ++ List.replicate (N.length - vs.length) none
def cxOf (CX:CXT) (P:Program) (w:World) (K:PySem.W.Frag) (mg:Str->Option Value) (base:Heap) (N:List Str) (qual:Str) (scope:Scope) (f:Addr) (cd:Value) (A:Around) (outer:List Env) (s:Shared) (H:Hp) (E:XK):Cx where
 prog:=P
 w:=w
 K:=K
 mg:=mg
 base:=base
 A:=A.deeper (envOfC qual scope s.heap.objs.size f cd)
 N:=N
 s₀:=s
 H₀:=H
 env:=envOfC qual scope s.heap.objs.size f cd
 outer:=outer
 stack:=envOfC qual scope s.heap.objs.size f cd :: outer
 ex:=[]
 calm:=true
 fn:=fun _=>true
 pn:=[]
 xe:=fun e s'=>wpAny (model P w) (A.deeper (envOfC qual scope s.heap.objs.size f cd)) (leaving (envOfC qual scope s.heap.objs.size f cd) e) (fun _ s''=>CX outer H s E e s'') (fun e' s''=>CX outer H s E e' s'') s'
theorem zhc {sc:Scope} {n:Nat} {x:Str} (h:sc.names.lookup x=some .cell):∃ c,(cellsFrom n sc.names []).lookup x=some c:=by
 have q:=PySem.W.cellsFrom_some sc.names n [] (.inl h)
 exact Option.isSome_iff_exists.mp q
theorem zis {CX:CXT} {P:Program} {w:World} {K:PySem.W.Frag} {mg:Str->Option Value} {base:Heap} {N ps:List Str} {qual:Str} {scope:Scope} {f:Addr} {cd:Value} {A:Around} {outer:List Env} {s s1:Shared} {H:Hp} {E:XK} {us:List Value} {vs:List V}
  (S:zdI N ps scope) (hd:A.handled=none) (e0:Env0 P w K mg base A outer s H) (hl:vs.length=ps.length) (r:Vals vs us)
  (x:InCallC s s.heap.objs.size (bindL (envOfC qual scope s.heap.objs.size f cd).kindOf (ps.zip us) fun _=>none) (cellsFrom (s.heap.objs.size+1) scope.names []) (bindC (envOfC qual scope s.heap.objs.size f cd).kindOf (ps.zip us) fun _=>none) s1) :
  Inv (cxOf CX P w K mg base N qual scope f cd A outer s H E) [] (zeh N vs) H s1:=by
 have hpl:ps.length<=N.length:=by have:=congrArg List.length S.pre;rw [List.length_take] at this;omega
 obtain ⟨h1,tk,rfl,hk⟩:=x.done
 have noA:∀ b:Addr,b ∉ (cxOf CX P w K mg base N qual scope f cd A outer s H E).ex:=fun b z=>absurd (show b ∈ ([]:List Addr) from z) (by simp)
 refine ⟨⟨e0.mod,S.kind,rfl,rfl,Nat.le_refl _,fun y z c h1 h2=>?_,fun y hy=>?_,fun y c _ h=>?_,fun _=>hd,Around.frames_deeper e0.frames,.inr ⟨rfl,rfl⟩,fun b z=>absurd z (noA b),e0.bs,e0.bsz,fun b _ _=>noA b,fun b z=>absurd z (noA b),e0.funs,e0.frf⟩,
  rfl,e0.bare,Un.kept hk,⟨_,x.toInCall.ns,fun i y v h1 h2 h3=>?_⟩,fun y c h=>⟨_,x.cell y c h⟩,e0.hok.fresh (Nat.le_refl _),fun y c h=>?_,fun p hp=>absurd (show p ∈ ([]:List (Addr × Obj)) from hp) (by simp),e0.hok.kept hk,?_⟩
 ·exact name_of_addr x.apart (PySem.mem_of_lookup h1) (PySem.mem_of_lookup h2)
 ·have hy:scope.names.lookup y=some .cell ∨ scope.names.lookup y=some .free:=hy
  rcases hy with hy | hy
  ·exact zhc hy
  ·exact absurd rfl (S.nofree _ (PySem.mem_of_lookup hy))
 ·exact Nat.le_of_lt (x.above y c (PySem.mem_of_lookup h))
 ·have hi:i < vs.length:=by
   unfold zeh at h2
   by_cases hi:i < vs.length
   ·exact hi
   ·rw [List.getElem?_append_right (by simpa using hi)] at h2
    rw [List.getElem?_replicate] at h2
    split at h2 <;> cases h2
  have ha:vs[i]?=some v:=by
   unfold zeh at h2
   rw [List.getElem?_append_left (by simpa using hi),List.getElem?_map] at h2
   cases e:vs[i]? with
   | none=>rw [e] at h2;cases h2
   | some a=>rw [e] at h2;cases h2;rfl
  obtain ⟨u,hu,rv⟩:=r.get ha
  have hp:ps[i]?=some y:=by
   rw [← S.pre,List.getElem?_take_of_lt (by omega)];exact h1
  have ndP:ps.Nodup:=by rw [← S.pre];exact S.nd.sublist (List.take_sublist _ _)
  refine ⟨u,rv,?_⟩
  rcases S.par y (List.mem_of_getElem? hp) with k | k
  ·exact .inl ⟨k,zfJ ndP hp hu k⟩
  ·obtain ⟨c,e⟩:=zhc (n:=s.heap.objs.size+1) k
   refine .inr ⟨.inl k,c,e,?_⟩
   have q:=x.cell y c e
   rw [zfK ndP hp hu (by show scope.names.lookup y ≠ _;rw [k];decide)] at q
   exact q
 ·exact e0.hok.fresh (Nat.le_of_lt (x.above y c (PySem.mem_of_lookup h)))
 ·unfold zeh
  show _=N.length
  rw [List.length_append,List.length_map,List.length_replicate]
  omega
theorem zm9 {CX:CXT} {P:Program} {w:World} {K:PySem.W.Frag} {mg:Str->Option Value} {base:Heap} {k:Nat} {f:Addr} {name qual:Str} {params:Arguments} {body:List Stmt} {scope:Scope} {dV kV doc pm cdv ct oc:Value} {an od:Option Addr}
  {osl:Array (Option Value)} {N ps:List Str} {sp:Sp} (lk:K.lookup f=some ⟨oc,od,.func (PySem.W.fnOf name qual params body scope dV kV doc pm an cdv ct),osl⟩) (hcd:PySem.W.codeIn K cdv qual=true) (S:zdI N ps scope)
  (len:∀ vs H Q E,sp vs H Q E->vs.length=ps.length)
  (hbody:∀ (A:Around) (outer:List Env) (s:Shared) (H:Hp) (vs:List V) (Q:VK) (E:XK),Room k (A.deeper (envOfC qual scope s.heap.objs.size f cdv))->sp vs H Q E ->
   ∃ t,PSs (cxOf CX P w K mg base N qual scope f cdv A outer s H E) body t/\t { nx:=fun _ H'=>Q .non H',rt:=Q } (zeh N vs) H) :
  FnOk P w K mg base CX (k+1) f (PySem.W.fnOf name qual params body scope dV kV doc pm an cdv ct) ps sp:=by
 refine ⟨len,fun A outer s H args us vs Q E hr e0 hb r hsp=>?_⟩
 have hl:=len _ _ _ _ hsp
 have KX:K.In s.heap:=e0.mod.kin.keeps fun b o e=>(e0.bs b o e).1
 have lim:s.heap.NoLimit:=e0.mod.nolimit.keeps fun b o e=>(e0.bs b o e).1
 have hkind:∀ y ∈ ps.zip us,scope.names.lookup y.1=some .local ∨ (scope.names.lookup y.1=some .cell/\((cellsFrom (s.heap.objs.size+1) scope.names []).lookup y.1).isSome=true):=fun ⟨n,v⟩ hy=>by
  rcases S.par n (List.of_mem_zip hy).1 with q | q
  ·exact .inl q
  ·exact .inr ⟨q,PySem.W.cellsFrom_some _ _ _ (.inl q)⟩
 refine codeAny_call_function hr.depth (KX _ _ lk) rfl S.co S.gen rfl (PySem.W.codeRec_of KX hcd) (hb _ _ _ _ ?_)
 refine wpAny_newFunctionEnv_cells S.kind hkind fun env he s1 x=>?_
 subst he
 refine ⟨lim.keeps x.toInCall.keep,codeAny_func ?_⟩
 obtain ⟨t,ht,hq⟩:=hbody A outer s H vs Q E (hr.deeper _) hsp
 have I:Inv (cxOf CX P w K mg base N qual scope f cdv A outer s H E) [] (zeh N vs) H s1:=zis S hr.hd e0 hl r x
 refine wpAny_mono (ht [] s1 (zeh N vs) H _ I hq) (fun fl s' hs=>?_) fun e s' hs=>hs
 have fin:∀ {σ':St} {H':Hp} {v:V} {u:Value},Inv (cxOf CX P w K mg base N qual scope f cdv A outer s H E) [] σ' H' s'->RelV v u->Q v H'->CE outer P w H s Q u s' :=
  fun {σ' H' v u} J rv q=>⟨v,H',J.os,J.bare,J.base,J.hok,rv,q⟩
 cases fl with
 | ret u =>
  obtain ⟨v,σ',H',J,rv,q⟩:=hs
  exact fin J rv q
 | next =>
  obtain ⟨σ',H',J,q⟩:=hs
  exact fin (v:=V.non) (u:=Value.none) J rfl q
 | brk =>
  obtain ⟨_,_,_,q⟩:=hs
  exact False.elim q
 | cont =>
  obtain ⟨_,_,_,q⟩:=hs
  exact False.elim q
section
variable {X:Cx} {x:Str} {p pos:Pos} {e:Expr} {es:List Expr} {t:TA} {id T:String} {r:List V->Hp->VK->Prop}
def tCB (r:List V->Hp->VK->Prop) (t:TA):TE:=fun σ H Q=>t σ H fun vs H1=>r vs H1 Q
theorem zc6 (hc:zdm X (.builtin id) r) (hg:Gl X x) (hm:X.mg x=none) (hv:bootBuiltins x=some (.builtin id)) (ha:PA X (e :: es) t) (hn:x ≠ "__name__" := by decide) (hdb:(x == ("__debug__" : Str))=false:=by decide)
  (he:starEach (e :: es) X.env=(false,eval e X.env) :: starEach es X.env:=by rfl) (hpl:(backTo pos (starEach es X.env)).any (·.1)=false:=by rfl):PE X (.Call (.Name x p) (e :: es) [] pos) (tCB r t):=by
 intro pins s σ H Q I h
 refine wpAny_Call_Name_kw (zee I hg hm hv ?_ hn hdb)
 exact PyProof.Rows.callWith_builtin1 (thn (ha pos pins s σ H _ I h) fun us s1 ⟨vs,H1,I1,r1,q1⟩=>hc pins s1 σ H1 vs us Q I1 r1 q1) he hpl
theorem zdn (hc:zdm X (.type T) r) (hg:Gl X x) (hm:X.mg x=none) (hv:bootBuiltins x=some (.type T)) (ha:PA X (e :: es) t) (hn:x ≠ "__name__" := by decide) (hdb:(x == ("__debug__" : Str))=false:=by decide)
  (he:starEach (e :: es) X.env=(false,eval e X.env) :: starEach es X.env:=by rfl) (hpl:(backTo pos (starEach es X.env)).any (·.1)=false:=by rfl):PE X (.Call (.Name x p) (e :: es) [] pos) (tCB r t):=by
 intro pins s σ H Q I h
 refine wpAny_Call_Name_kw (zee I hg hm hv ?_ hn hdb)
 exact PyProof.Rows.callWith_type1 (thn (ha pos pins s σ H _ I h) fun us s1 ⟨vs,H1,I1,r1,q1⟩=>hc pins s1 σ H1 vs us Q I1 r1 q1) he hpl
end
end L2
namespace HT
open PySem PyProof.Rows
section
open PySem.SeqAt
open PySem.AutoSeq1 (wpAny_loadPart')
open PySem.MeetsSeq PySem.MeetsSeq2 PySem.MeetsSeq3
end
section
variable {prog:Program} {w:World} {A:Around} {E:Value->Shared->Prop} {s:Shared}
def sIx (n d:Nat):Option Int->Nat
 | none=>d
 | some v=>if v < 0 then (v+(n:Int)).toNat else min v.toNat n
theorem zhd (n d:Nat):sIx n d none=d:=rfl
theorem zit (n d k:Nat):sIx n d (some (k:Int))=min k n:=by
 show (if (k:Int) < 0 then ((k:Int)+(n:Int)).toNat else min (k:Int).toNat n)=min k n
 rw [if_neg (by omega),Int.toNat_natCast]
end
end HT
namespace L2
open PySem PySem.Spec PyProof.Rows
abbrev TO:=St->Hp->(Option Int->Hp->Prop)->Prop
def PO (X:Cx) (e:Option Expr) (t:TO):Prop :=
 ∀ (pins:List (Addr × Obj)) (s:Shared) (σ : St) (H:Hp) (Q:Option Int->Hp->Prop),Inv X pins σ H s->t σ H Q ->
  wpAny (model X.prog X.w) X.A (evalPart e X.env) (fun u s'=>∃ o H',Inv X pins σ H' s'/\IsPart u o/\Q o H') X.xe s
def zls:TO:=fun _ H Q=>Q none H
def zor (t:TE):TO:=fun σ H Q=>t σ H fun x H1=>∃ i,x=.int i/\Q (some i) H1
section
variable {X:Cx} {e:Expr} {te:TE} {lo hi:Option Expr} {tl th:TO} {pos p2:Pos}
theorem zlt:PO X none zls:=by
 intro pins s σ H Q I h
 rw [evalPart_none]
 exact wpAny_pure ⟨none,H,I,.none,h⟩
theorem zlu (h:PE X e te):PO X (some e) (zor te):=by
 intro pins s σ H Q I hw
 rw [evalPart_some]
 refine thn (h pins s σ H _ I hw) fun u s1 ⟨x,H1,I1,r1,q1⟩=>?_
 obtain ⟨i,rfl,q⟩:=q1
 obtain ⟨t,rfl⟩:=r1
 exact ⟨some i,H1,I1,.int i t,q⟩
def SlR (X:Cx) (r:V->Option Int->Option Int->Hp->VK->Prop):Prop :=
 ∀ (pins:List (Addr × Obj)) (s:Shared) (σ : St) (H:Hp) (x:V) (v vl vu:Value) (lo hi:Option Int) (sl:Addr) (Q:VK),Inv X pins σ H s->RelV x v->s.heap.IsSliceOf sl vl vu .none->IsPart vl lo->IsPart vu hi->r x lo hi H Q ->
  ∃ T id,typeLookup (.type T) "__getitem__" = pure (some (.builtin id))/\s.TypeIs v T/\wpAny (model X.prog X.w) X.A (getItem v (.ref sl)) (EP X pins σ Q) X.xe s
theorem SlR.or {r r':V->Option Int->Option Int->Hp->VK->Prop} (h:SlR X r) (h':SlR X r'):SlR X (fun x lo hi H Q=>r x lo hi H Q ∨ r' x lo hi H Q):=by
 intro pins s σ H x v vl vu lo hi sl Q I rx hs pl pu q
 rcases q with q | q
 ·exact h pins s σ H x v vl vu lo hi sl Q I rx hs pl pu q
 ·exact h' pins s σ H x v vl vu lo hi sl Q I rx hs pl pu q
def tSl (r:V->Option Int->Option Int->Hp->VK->Prop) (te:TE) (tl th:TO):TE:=fun σ H Q=>te σ H fun x H1=>tl σ H1 fun l H2=>th σ H2 fun u H3=>r x l u H3 Q
theorem zj8 {r:V->Option Int->Option Int->Hp->VK->Prop} (hr:SlR X r) (he:PE X e te) (hl:PO X lo tl) (hu:PO X hi th):PE X (.Subscript e (.Slice lo hi none p2) pos) (tSl r te tl th):=by
 intro pins s σ H Q I h
 refine Subscript_ (thn (he pins s σ H _ I h) fun v s1 ⟨x,H1,I1,r1,q1⟩=>?_)
 refine wpAny_Slice (thn (hl pins s1 σ H1 _ I1 q1) fun vl s2 ⟨l,H2,I2,pl,q2⟩=>thn (hu pins s2 σ H2 _ I2 q2) fun vu s3 ⟨u,H3,I3,pu,q3⟩=>?_)
 rw [evalPart_none]
 refine wpAny_pure ?_
 have I4:Inv X pins σ H3 { s3 with heap:=s3.heap.push { cls:=.type "slice", data:=.fields #[vl,vu,.none] } }:=I3.kept (t':=s3.toks) fun b ob q=>Heap.get?_push_of_some _ q
 obtain ⟨T,id,hT,ht,hg⟩:=hr pins { s3 with heap:=s3.heap.push { cls:=.type "slice", data:=.fields #[vl,vu,.none] } } σ H3 x v vl vu l u s3.heap.objs.size Q I4 r1 (Heap.IsSliceOf.new ..) pl pu q3
 show wpAny (model X.prog X.w) X.A (subscriptTail e (.Slice lo hi none p2) v (.ref s3.heap.objs.size)) (EP X pins σ Q) X.xe { s3 with heap:=s3.heap.push { cls:=.type "slice", data:=.fields #[vl,vu,.none] } }
 exact tail_any (ops:=[.ref s3.heap.objs.size,v]) ht hT hg (by with_unfolding_all rfl)
def cutV (xs:List V) (lo hi:Option Int):List V:=(xs.drop (HT.sIx xs.length 0 lo)).take (HT.sIx xs.length xs.length hi - HT.sIx xs.length 0 lo)
theorem zgB (xs:List V) (lo hi:Option Int):(cutV xs lo hi).length<=xs.length:=by
 unfold cutV
 rw [List.length_take,List.length_drop]
 omega
end
def ixN (n:Nat) (i:Int):Option Nat:=if 0<=i then (if i < n then some i.toNat else none) else if -(n:Int)<=i then some (i+n).toNat else none
def atI {α : Type} (xs:List α) (i:Int):Option α:=(ixN xs.length i).bind fun j=>xs[j]?
theorem zlv {n:Nat} {i:Int} {j:Nat} (h:ixN n i=some j):seqIndex? i n=some j/\j < n /\ -(n:Int)<=i/\i < n:=by
 unfold ixN at h
 by_cases h0:0<=i
 ·rw [if_pos h0] at h
  by_cases h1:i < n
  ·rw [if_pos h1] at h
   have e:i.toNat=j:=Option.some.inj h
   exact ⟨by rw [seqIndex_of h0 h1,e],by omega,by omega,h1⟩
  ·rw [if_neg h1] at h;cases h
 ·rw [if_neg h0] at h
  by_cases h1 : -(n:Int)<=i
  ·rw [if_pos h1] at h
   have e:(i+n).toNat=j:=Option.some.inj h
   exact ⟨by rw [seqIndex_neg (by omega) h1,e],by omega,h1,by omega⟩
  ·rw [if_neg h1] at h;cases h
theorem zgC {α : Type} {xs:List α} {i:Int} {v : α} (h:atI xs i=some v):∃ j,seqIndex? i xs.length=some j/\xs[j]?=some v/\j < xs.length /\ -(xs.length:Int)<=i/\i < xs.length:=by
 unfold atI at h
 cases e:ixN xs.length i with
 | none=>rw [e] at h;cases h
 | some j =>
  rw [e] at h
  obtain ⟨h1,h2,h3,h4⟩:=zlv e
  exact ⟨j,h1,h,h2,h3,h4⟩
theorem zbi {α : Type} {xs:List α} {j:Nat} {v : α} (h:xs[j]?=some v):atI xs (j:Int)=some v:=by
 have hj:j < xs.length:=(List.getElem?_eq_some_iff.mp h).1
 have e:ixN xs.length (j:Int)=some j:=by
  unfold ixN
  rw [if_pos (by omega),if_pos (by omega)];simp
 unfold atI;rw [e];exact h
def zgD (b:Expr):Prop:=∀ o i,subscripted b false o i=operate [o,i] (getItem o i)
def IxR (X:Cx) (r:R2):Prop :=
 ∀ (value slice:Expr) (pins:List (Addr × Obj)) (s:Shared) (σ : St) (H:Hp) (x y:V) (v u:Value) (Q:VK),Inv X pins σ H s->RelV x v->RelV y u->r x y H Q ->
  subscripted slice false v u=operate [v,u] (getItem v u)->wpAny (model X.prog X.w) X.A (subscriptTail value slice v u) (EP X pins σ Q) X.xe s
def MtR (X:Cx) (id:String) (r:V->List V->Hp->VK->Prop):Prop :=
 ∀ (pins:List (Addr × Obj)) (s:Shared) (σ : St) (H:Hp) (x:V) (xs:List V) (v:Value) (us:List Value) (Q:VK),Inv X pins σ H s->RelV x v->Vals xs us->r x xs H Q ->
  wpAny (model X.prog X.w) X.A (call (.builtin id) (v :: us)) (EP X pins σ Q) X.xe s
section
variable {X:Cx} {a b:Expr} {ta tb:TE} {pos:Pos}
theorem IxR.or {r r':R2} (h:IxR X r) (h':IxR X r'):IxR X (fun x y H Q=>r x y H Q ∨ r' x y H Q):=by
 intro value slice pins s σ H x y v u Q I rx ry q hs
 rcases q with q | q
 ·exact h value slice pins s σ H x y v u Q I rx ry q hs
 ·exact h' value slice pins s σ H x y v u Q I rx ry q hs
theorem zna {r:R2} (hr:IxR X r) (ha:PE X a ta) (hb:PE X b tb) (hs:zgD b):PE X (.Subscript a b pos) (tOp r ta tb):=by
 intro pins s σ H Q I h
 exact Subscript_ (binT ha hb I h fun v u s2 x y H2 I2 rx ry q=>hr a b pins s2 σ H2 x y v u Q I2 rx ry q (hs _ _))
def rIxL (K:PySem.W.Frag):R2:=fun x y H Q=>∃ p xs i v,x=.ref p/\y=.int i/\SqL K H p xs/\atI xs i=some v/\Q v H
def rIxT (K:PySem.W.Frag):R2:=fun x y H Q=>∃ p xs i v,x=.ref p/\y=.int i/\SqT K H p xs/\atI xs i=some v/\Q v H
def rIxS:R2:=fun x y H Q=>∃ z i c,x=.str z/\y=.int i/\z.length<=sizeLine/\atI z.cps.toList i=some c/\Q (.str ⟨#[c]⟩) H
theorem zlw:IxR X (rIxL X.K):=by
 intro value slice pins s σ H x y v u Q I rx ry h hs
 obtain ⟨p,xs,i,z,rfl,rfl,hq,he,q⟩:=h
 cases rx
 obtain ⟨t,rfl⟩:=ry
 obtain ⟨its,r,pl,hz⟩:=I.list hq
 obtain ⟨j,h1,h2,h3,h4,h5⟩:=zgC he
 obtain ⟨w,ew,rw'⟩:=r.get h2
 have hl:=r.length
 have hn:=zha
 have fin:EP X pins σ Q w s:=⟨z,H,I,rw',q⟩
 by_cases h0:0<=i
 ·have hj:i.toNat=j:=by
   rw [seqIndex_of h0 h5] at h1
   exact Option.some.inj h1
  exact item_listR pl.isList h0 (by omega) (by rw [hj];simpa using ew) fin hs
 ·have hj:(i+(its.toArray.size:Int)).toNat=j:=by
   rw [seqIndex_neg (by omega) h4] at h1
   rw [List.size_toArray,← hl]
   exact Option.some.inj h1
  exact subscriptTail_builtinR (x:=w) pl.isList.typeIs slot_list_getitem.lookup
   (wpAny_getItem_list_neg (Q:=fun r s'=>r=w/\EP X pins σ Q r s') pl.isList (by omega) (by rw [List.size_toArray] <;> omega) (by omega) (by rw [hj];simpa using ew) ⟨rfl,fin⟩) hs
theorem znb:IxR X (rIxT X.K):=by
 intro value slice pins s σ H x y v u Q I rx ry h hs
 obtain ⟨p,xs,i,z,rfl,rfl,hq,he,q⟩:=h
 cases rx
 obtain ⟨t,rfl⟩:=ry
 obtain ⟨its,r,pl,hz⟩:=I.tuple hq
 obtain ⟨j,h1,h2,h3,h4,h5⟩:=zgC he
 obtain ⟨w,ew,rw'⟩:=r.get h2
 have hl:=r.length
 have hn:=zha
 have fin:EP X pins σ Q w s:=⟨z,H,I,rw',q⟩
 exact subscriptTail_builtinR (x:=w) pl.typeIs slot_tuple_getitem.lookup
  (getItem_tuple (j:=j) (Q:=fun r s'=>r=w/\EP X pins σ Q r s') pl (by omega) (by omega) (by rw [List.size_toArray,← hl];exact h1) (by simpa using ew) ⟨rfl,fin⟩) hs
theorem znc:IxR X rIxS:=by
 intro value slice pins s σ H x y v u Q I rx ry h hs
 obtain ⟨z,i,c,rfl,rfl,hz,he,q⟩:=h
 obtain ⟨t,rfl⟩:=rx
 obtain ⟨t',rfl⟩:=ry
 obtain ⟨j,h1,h2,h3,h4,h5⟩:=zgC he
 have hl:z.cps.toList.length=z.length:=by simp [Str.length]
 rw [hl] at h1 h4 h5
 have hn:=zha
 exact tail_any (typeIs_str s z t) slot_str_getitem.lookup (getItem_str (c:=c) (by
  have e1:decide (i < -(2 ^ 63:Int))=false:=decide_eq_false (by omega)
  have e2:decide (i ≥ 2 ^ 63)=false:=decide_eq_false (by omega)
  rw [e1,e2,Bool.or_false]) (by rw [h1];simpa using h2) ⟨.str ⟨#[c]⟩,H,I.tok _,⟨_,rfl⟩,q⟩) hs
def rIx (K:PySem.W.Frag):R2:=fun x y H Q=>rIxL K x y H Q ∨ rIxT K x y H Q ∨ rIxS x y H Q
theorem zk8:IxR X (rIx X.K):=zlw.or (znb.or znc)
theorem zfL (lo hi:Option Int) (n:Nat):(sliceBounds lo hi none n).1=((HT.sIx n 0 lo:Nat):Int)/\(sliceBounds lo hi none n).2.1=((HT.sIx n n hi:Nat):Int)/\(sliceBounds lo hi none n).2.2=1:=by
 refine ⟨?_,?_,rfl⟩
 ·cases lo with
  | none=>simp [sliceBounds,HT.sIx]
  | some i =>
   simp only [sliceBounds,HT.sIx,Option.getD_none,show (1:Int) > 0 by decide,if_true]
   by_cases h:i < 0
   ·simp only [h,if_true] <;> omega
   ·simp only [h,if_false] <;> omega
 ·cases hi with
  | none=>simp [sliceBounds,HT.sIx]
  | some i =>
   simp only [sliceBounds,HT.sIx,Option.getD_none,show (1:Int) > 0 by decide,if_true]
   by_cases h:i < 0
   ·simp only [h,if_true] <;> omega
   ·simp only [h,if_false] <;> omega
theorem zfd (its:List Value) (lo hi:Option Int):slicePick its.toArray lo hi none=((its.drop (HT.sIx its.length 0 lo)).take (HT.sIx its.length its.length hi - HT.sIx its.length 0 lo)).toArray:=by
 obtain ⟨h1,h2,h3⟩:=zfL lo hi its.toArray.size
 unfold slicePick
 rw [h1,h2,h3]
 simp only [sliceRange_one,pick_run,List.size_toArray] <;> rfl
def rSlL (K:PySem.W.Frag):V->Option Int->Option Int->Hp->VK->Prop:=fun x lo hi H Q=>∃ a xs,x=.ref a/\SqL K H a xs/\∀ p,H p=none->Q (.ref p) (upd H p (.lst (cutV xs lo hi)))
theorem zlx:SlR X (rSlL X.K):=by
 intro pins s σ H x v vl vu lo hi sl Q I rx hs pl pu h
 obtain ⟨a,xs,rfl,hx,q⟩:=h
 cases rx
 obtain ⟨its,r,ht,hz⟩:=I.list hx
 have hlen:=r.length
 refine ⟨"list", _,slot_list_getitem.lookup,ht.isList.typeIs,?_⟩
 refine wpAny_getItem_list_slice ht.isList hs pl pu .none (by simp) ?_ (by rw [List.size_toArray] <;> omega)
 rw [zfd,← hlen]
 refine ⟨.ref s.heap.objs.size,_,I.laid (t':=s.toks) (o:=.lst (cutV xs lo hi)) (fun b ob q=>Heap.get?_push_of_some _ q) (Nat.le_refl _) ?_,rfl,q _ (I.hok.fresh (Nat.le_refl _))⟩
 exact ⟨Nat.le_trans (zgB xs lo hi) hz,_,0,(r.drop (HT.sIx xs.length 0 lo)).take (HT.sIx xs.length xs.length hi - HT.sIx xs.length 0 lo),Heap.get?_push_size _ rfl⟩
theorem zdW:zdm X (.type "list") (fun xs H Q=>∃ p ys,xs=[.ref p]/\(SqL X.K H p ys ∨ SqT X.K H p ys)/\∀ l,H l=none->Q (.ref l) (upd H l (.lst ys))):=by
 intro pins s σ H xs us Q I r h
 obtain ⟨p,ys,rfl,hq,q⟩:=h
 obtain ⟨u,rfl,rx⟩:=zin r
 cases rx
 have fin:∀ (its:List Value),Vals ys its->ys.length<=sizeLine->∀ (h':Heap) (c':Nat),(∀ b o',s.heap.get? b=some o'->h'.get? b=some o') ->
   h'.get? s.heap.objs.size=some { cls:=.type "list", dict:=none,data:=.seq its.toArray c',slots:=#[] }->EP X pins σ Q (.ref s.heap.objs.size) { s with heap:=h' }:=fun its r' hz h' c' kp e =>
  ⟨.ref s.heap.objs.size,_,I.laid (t':=s.toks) kp (Nat.le_refl _) (show zb6 X.prog X.w _ h' _ (.lst ys) from ⟨hz,its,c',r',e⟩),rfl,q _ (I.hok.fresh (Nat.le_refl _))⟩
 rcases hq with hq | hq
 ·obtain ⟨its,r',pl,hz⟩:=I.list hq
  have hlen:=r'.length
  obtain ⟨o,ho,hc,n,hd⟩:=pl.isList
  exact call_list_seq p (.inl rfl) ho hc hd (fun h' c' kp e=>fin its r' hz h' c' kp e) (by simp only [List.size_toArray] <;> omega)
 ·obtain ⟨its,r',pl,hz⟩:=I.tuple hq
  have hlen:=r'.length
  obtain ⟨o,ho,hc,n,hd⟩:=pl
  exact call_list_seq p (.inr rfl) ho hc hd (fun h' c' kp e=>fin its r' hz h' c' kp e) (by simp only [List.size_toArray] <;> omega)
theorem zfe:zdm X (.type "tuple") (fun xs H Q=>∃ p ys,xs=[.ref p]/\((SqL X.K H p ys/\∀ l,H l=none->Q (.ref l) (upd H l (.tup ys))) ∨ (SqT X.K H p ys/\Q (.ref p) H))):=by
 intro pins s σ H xs us Q I r h
 obtain ⟨p,ys,rfl,h⟩:=h
 obtain ⟨u,rfl,rx⟩:=zin r
 cases rx
 rcases h with ⟨hq,q⟩ | ⟨hq,q⟩
 ·obtain ⟨its,r',pl,hz⟩:=I.list hq
  have hlen:=r'.length
  refine call_tuple_list pl.isList (fun h' kp=>?_) (by simp only [List.size_toArray] <;> omega)
  have I1:Inv X pins σ H { s with heap:=h' }:=I.kept (t':=s.toks) kp
  have I2:Inv X pins σ (upd H h'.objs.size (.tup ys)) { s with heap:=h'.push { cls:=.type "tuple", data:=.seq its.toArray } } :=
   I1.laid (t':=s.toks) (fun b o e=>Heap.get?_push_of_some _ e) (Nat.le_refl _) (show zb6 X.prog X.w _ _ _ (.tup ys) from ⟨hz,its,r',IsTup.new _ _⟩)
  exact ⟨.ref h'.objs.size,_,I2,rfl,q _ (I1.hok.fresh (Nat.le_refl _))⟩
 ·obtain ⟨its,r',pl,hz⟩:=I.tuple hq
  exact call_tuple_same pl ⟨.ref p,H,I,rfl,q⟩
def tyV (K:PySem.W.Frag) (T:String) (x:V) (H:Hp):Prop:=match x with
 | .str _=>T = "str"
 | .int _=>T = "int"
 | .ref p=>(T = "list" /\ ∃ xs,SqL K H p xs) ∨ (T = "tuple" /\ ∃ o,K.lookup p=some o/\o.cls=.type "tuple" /\ o.dict=none) ∨
   (T = "dict" /\ ((∃ kvs,H p=some (.dK kvs)) ∨ ∃ kvs,H p=some (.dT kvs))) ∨ (T = "set" /\ ∃ S n,H p=some (.set S n))
 | _=>False
theorem znd {pins:List (Addr × Obj)} {σ : St} {H:Hp} {s:Shared} {T:String} {x:V} {v:Value} (I:Inv X pins σ H s) (r:RelV x v) (ty:tyV X.K T x H) :
  s.TypeIs v T/\∀ a,v=.ref a->∃ ob,s.heap.get? a=some ob/\ob.dict=none:=by
 cases x with
 | str z =>
  obtain ⟨t,rfl⟩:=r
  cases (show T = "str" from ty)
  exact ⟨typeIs_str s z t,fun _ e=>nomatch e⟩
 | int i =>
  obtain ⟨t,rfl⟩:=r
  cases (show T = "int" from ty)
  exact ⟨typeIs_int s i t,fun _ e=>nomatch e⟩
 | ref p =>
  cases r
  rcases ty with ⟨rfl,xs,hq⟩ | ⟨rfl,o,hk,hc,hd⟩ | ⟨rfl,hk⟩ | ⟨rfl,S,n,hk⟩
  ·obtain ⟨its,_,pl,_⟩:=I.list hq
   refine ⟨pl.isList.typeIs,fun a e=>?_⟩
   cases e
   obtain ⟨o,n,e,c,hd,_⟩:=pl
   exact ⟨o,e,hd⟩
  ·refine ⟨⟨o,I.kIn p o hk,hc⟩,fun a e=>?_⟩
   cases e
   exact ⟨o,I.kIn _ o hk,hd⟩
  ·have z:∃ o,s.heap.get? p=some o/\o.ExactDict:=by
    rcases hk with ⟨kvs,hk⟩ | ⟨kvs,hk⟩
    ·obtain ⟨_,_,_,_,o,_,_,e,ex,_⟩:=I.hok p _ hk
     exact ⟨o,e,ex⟩
    ·obtain ⟨_,_,_,_,o,_,_,e,ex,_⟩:=I.hok p _ hk
     exact ⟨o,e,ex⟩
   obtain ⟨o,e,ex⟩:=z
   refine ⟨⟨o,e,ex.1⟩,fun a e2=>?_⟩
   cases e2
   exact ⟨o,e,ex.2.1⟩
  ·obtain ⟨o,_,_,_,e,ex,_⟩:=I.hok p _ hk
   refine ⟨⟨o,e,ex.1⟩,fun a e2=>?_⟩
   cases e2
   exact ⟨o,e,ex.2.1⟩
 | _=>exact False.elim ty
def tBM (K:PySem.W.Frag) (T:String) (r:V->List V->Hp->VK->Prop) (to:TE) (t:TA):TE:=fun σ H Q=>to σ H fun x H1=>tyV K T x H1/\t σ H1 fun xs H2=>r x xs H2 Q
variable {o e:Expr} {es:List Expr} {to:TE} {t:TA} {name:Str} {apos cpos:Pos} {T id:String} {r:V->List V->Hp->VK->Prop}
theorem zos (pa:PlainAttrs T) (slot:Slot T name id) (hty:typeOf (.builtin id)=pure (.type "method_descriptor")) (hm:MtR X id r) (ho:PE X o to) (ha:PA X (e :: es) t)
  (hbase:attributeBase o name X.env (eval o X.env)=eval o X.env:=by rfl)
  (hfew:((backTo cpos (starEach (e :: es) X.env)).all (fun x=>!x.1) && (backToKw cpos (keywordEach [] X.env)).all (fun x=>x.1.isSome)
   && decide ((e :: es).length+([]:List Keyword).length+(if ([]:List Keyword).isEmpty then 0 else 1) < 30))=true:=by rfl)
  (hline:(apos.endLine == cpos.line)=true:=by rfl) (hs:starEach (e :: es) X.env=(false,eval e X.env) :: starEach es X.env:=by rfl) (hplain:(backTo cpos (starEach es X.env)).any (·.1)=false:=by rfl) :
  PE X (.Call (.Attribute o name apos) (e :: es) [] cpos) (tBM X.K T r to t):=by
 intro pins s σ H Q I h
 refine wpAny_Call_method_late hbase hfew hline rfl (thn (ho pins s σ H _ I h) fun v s1 ⟨x,H1,I1,r1,ty,q1⟩=>?_)
 obtain ⟨h1,h2⟩:=znd I1 r1 ty
 refine ⟨T,id,pa,slot,hty,h1,h2,?_⟩
 have hA:=ha cpos pins s1 σ H1 _ I1 q1
 rw [hs] at hA ⊢
 refine Calls.callWith_builtin (by show (false || (backTo cpos (starEach es X.env)).any (·.1))=false;rw [hplain] <;> rfl) (Calls.evalArgs_plain ?_)
 exact thn hA fun us s2 ⟨vs,H2,I2,r2,q2⟩=>hm pins s2 σ H2 x vs v us Q I2 r1 r2 q2
end
def MtM (X:Cx) (id:String) (r:V->List V->Hp->VK->Prop):Prop :=
 ∀ (pins:List (Addr × Obj)) (s:Shared) (σ : St) (H:Hp) (x:V) (xs:List V) (v:Value) (us:List Value) (Q:VK),Inv X pins σ H s->RelV x v->Vals xs us->r x xs H Q ->
  wpAny (model X.prog X.w) X.A (call (.builtin id) (v :: us)) (EP X pins σ Q) X.xe s
theorem Vals.one:∀ {x:V} {us:List Value},Vals [x] us->∃ u,us=[u]/\RelV x u
 | _,_,.cons r .nil=>⟨_,rfl,r⟩
theorem Vals.reverse {xs:List V} {us:List Value} (h:Vals xs us):Vals xs.reverse us.reverse:=by
 induction h with
 | nil=>exact .nil
 | cons r t ih=>rw [List.reverse_cons,List.reverse_cons];exact Vals.append ih (.cons r .nil)
theorem Vals.rep {xs:List V} {us:List Value} (h:Vals xs us):∀ k:Nat,Vals (List.replicate k xs).flatten (List.replicate k us).flatten
 | 0=>.nil
 | k+1=>by
  rw [List.replicate_succ,List.replicate_succ,List.flatten_cons,List.flatten_cons]
  exact Vals.append h (Vals.rep h k)
theorem zfM (its:List Value):∀ (k:Nat) (acc:List Value),
  List.foldl (fun x1 x2=>x1 ++ x2) acc.toArray (List.replicate k its.toArray)=(acc ++ (List.replicate k its).flatten).toArray
 | 0,acc=>by simp
 | k+1,acc=>by
  have e:acc.toArray ++ its.toArray=(acc ++ its).toArray:=by simp
  have e2:(acc ++ its) ++ (List.replicate k its).flatten=acc ++ (List.replicate (k+1) its).flatten:=by
   rw [List.replicate_succ,List.flatten_cons,List.append_assoc]
  rw [← e2,← zfM its k (acc ++ its),← e,List.replicate_succ,List.foldl_cons]
section
variable {X:Cx} {pins:List (Addr × Obj)} {σ : St} {H:Hp} {s:Shared} {l b:Addr} {xs ys zs:List V}
theorem Inv.lset {its its':List Value} {n:Nat} {f:Array Value->Array Value} {t':Nat} (I:Inv X pins σ H s) (hH:H l=some (.lst xs))
  (e:s.heap.get? l=some { cls:=.type "list", data:=.seq its.toArray n }) (hf:f its.toArray=its'.toArray) (hv:Vals ys its') (hz:ys.length<=sizeLine) :
  Inv X pins σ (upd H l (.lst ys)) { s with heap:=s.heap.update l (Obj.mapSeq f),toks:=t' }:=by
 have q:=PySem.IsL.update e f
 rw [hf] at q
 refine I.write (x:=l) (e:=l) (by rw [hH];exact trivial) (.inl rfl) (fun b' u hb hu=>(Heap.get?_update_other s.heap (Obj.mapSeq f) (Ne.symm hb)).trans hu) ⟨_,q⟩ ?_
 exact ⟨hz,its',_,hv,q⟩
theorem Inv.lnew {its:List Value} {t':Nat} (I:Inv X pins σ H s) (hv:Vals ys its) (hz:ys.length<=sizeLine) :
  Inv X pins σ (upd H s.heap.objs.size (.lst ys)) { s with heap:=s.heap.push { cls:=.type "list", data:=.seq its.toArray },toks:=t' } :=
 I.laid (fun _ _ q=>Heap.get?_push_of_some _ q) (Nat.le_refl _) ⟨hz,its,0,hv,Heap.get?_push_size _ rfl⟩
theorem Inv.fresh (I:Inv X pins σ H s):H s.heap.objs.size=none:=I.hok.fresh (Nat.le_refl _)
theorem Inv.lstM (I:Inv X pins σ H s) (hH:H l=some (.lst xs)):xs.length<=sizeLine/\∃ (its:List Value) (n:Nat),Vals xs its/\xs.length=its.length/\s.heap.get? l=some { cls:=.type "list", data:=.seq its.toArray n }:=by
 obtain ⟨z,its,n,r,e⟩:=I.hok l _ hH
 exact ⟨z,its,n,r,r.length,e⟩
theorem zj9 {n:Nat} (h:n<=sizeLine):Builtin.List.listTooLong n=false:=by
 unfold Builtin.List.listTooLong
 exact decide_eq_false (by omega)
end
section
variable {X:Cx}
def zly:V->List V->Hp->VK->Prop:=fun x vs H Q=>∃ l xs y,x=.ref l/\vs=[y]/\H l=some (.lst xs)/\xs.length < sizeLine/\Q .non (upd H l (.lst (xs ++ [y])))
theorem zfN:MtM X "list.append" zly:=by
 intro pins s σ H x vs v us Q I rx rv h
 obtain ⟨l,xs,y,rfl,rfl,hH,hz,q⟩:=h
 cases rx
 obtain ⟨u,rfl,ru⟩:=rv.one
 obtain ⟨z,its,n,r,hl,e⟩:=I.lstM hH
 refine call_meets F.slot_list_append ⟨_,e,rfl⟩ F.entry_list_append (F.args_list_append_2 _ _) (PySem.list_append l its.toArray n u (by rw [List.size_toArray];omega)) ⟨e,?_⟩
 refine ⟨.non,_,I.lset (its':=its ++ [u]) hH e (by simp) (r.append (.cons ru .nil)) ?_,rfl,q⟩
 rw [List.length_append,List.length_singleton]
 omega
theorem zlz {α : Type} (xs:List α) (k:Nat):(List.replicate k xs).flatten.length=k * xs.length:=by
 induction k with
 | zero=>simp
 | succ k ih=>rw [List.replicate_succ,List.flatten_cons,List.length_append,ih,Nat.succ_mul,Nat.add_comm]
end
section
variable {prog:Program} {w:World} {A:Around} {E:Value->Shared->Prop} {s:Shared}
set_option maxRecDepth 100000 in
end
section
variable {X:Cx}
end
end L2
namespace Att
open PySem PySem.W PySem.Calls PyProof.Rows
theorem zei {P:Params} {h:Heap}:∀ (ns:List Int) (vs:List Value),WellAll P h vs (ns.map WData.int)->IntsAre vs ns:=by
 intro ns
 induction ns with
 | nil =>
  intro vs w
  rw [List.map_nil] at w
  cases w
  exact .nil
 | cons n ns ih =>
  intro vs w
  rw [List.map_cons] at w
  cases w with
  | cons a b =>
   cases a
   exact .cons _ _ (ih _ b)
theorem ziu {l:OpenLaw} {n:Nat} (hn:l.most=some n) {P:Params} {h:Heap} {args:List WData} {vals:List Value}
  (hpre:l.row.toRowW.claim.pre args=true) (hwl:WellAll P h vals args) :
  ∃ a vs ns,vals=[Value.ref a]/\args=[WData.list (ns.map WData.int)]/\h.get? a=some { cls:=.type "list", data:=.seq vs.toArray }/\IntsAre vs ns/\ns.length<=n:=by
 have hsh:WShape.hasAll [] args [.list .int]=true:=(pre_splitW hpre).1
 have hc:l.pre.holds [] { args:=args }=true:=(pre_splitW hpre).2
 obtain ⟨d,r,rfl,h1,h2⟩:=hasAllW_cons hsh
 obtain rfl:=hasAllW_nil h2
 obtain ⟨xs,rfl,h3⟩:=hasW_list h1
 obtain ⟨ns,rfl⟩:=items_int h3
 have hlen:ns.length<=n:=by
  unfold OpenLaw.pre at hc
  have h4:(WTm.not (.lt (.lit (.int (n:Int))) (.len (.arg 0)))).holds [] { args:=[.list (ns.map .int)] }=true:=by
   have h4:=(holds_andW hc).1
   rw [hn] at h4
   exact h4
  have h5:=condW_of h4 (w_not (w_lt w_lit (w_len_list (w_arg rfl))))
  rw [List.length_map] at h5
  refine Nat.le_of_not_lt fun q=>?_
  have q':(n:Int) < ((ns.length:Nat):Int):=by omega
  first
   | (rw [decide_eq_true q'] at h5;exact absurd h5 (by decide))
   | (simp at h5;omega)
 cases hwl with
 | cons w1 w2 =>
  cases w2
  cases w1 with
  | list ho hall=>exact ⟨_,_,ns,rfl,rfl,ho,zei ns _ hall,hlen⟩
theorem ziv (l:OpenLaw) (args:List WData):l.row.toRowW.claim.post args (.bool true) args=true :=
 postW_of (r:=l.row.toRowW) (X:=(true == true))
  (show WShape.has [] (.bool true) .bool=true by first | rfl | decide | simp [WShape.has,WShape.arms,WShape.armsAll])
  (show (WTm.eq .res (.lit (.bool true))).value [] { args:=args,res:=some (.bool true),after:=args }=some (.bool (true == true)) from w_eq_bool (w_res rfl) w_lit) rfl
theorem attach_call {l:OpenLaw} {n:Nat} {q:Program} {loose:List Str} {XP:(Str->Option Value)->Heap->Prop} {YP:World->Heap->Prop} {d:DefRec}
  (hn:l.most=some n) (hdf:d.params.defaults=[])
  (call:∀ (w:World) (s₀ s₁ : Shared) (mg mb:Str->Option Value) (fa:Addr) (o:Obj) (pm cd doc:Value) (a:Addr) (vs:List Value) (ns:List Int),
   Ground q loose [] XP w s₀ mg mb s₁.heap->YP w s₁.heap ->
   s₁.heap.get? fa=some o->o.data=.func (docDef d.name d.params d.body d.scope pm cd doc)->s₁.heap.CodeRec cd d.name->mg d.name=some (.ref fa) ->
   s₁.heap.get? a=some { cls:=.type "list", data:=.seq vs.toArray }->IntsAre vs ns->ns.length<=n->s₁.gens = #[] ->
   codeAny (model l.prog w) callerA (.call (.ref fa) ⟨[.ref a],[]⟩) (fun r s'=>r=.ok (.ret (.bool true))/\OldK s₁.heap s'.heap/\s'.os=s₁.os/\AllBare s'.gens) s₁) :
  WalkO q loose XP YP l.row.toRowW d [] (fun f vs=>PySem.call f vs):=by
 intro w s₀ s₁ mg mb G Y fa o pm cd doc dV kV ho hd hcd hD hmg hg args vals as hpre hlay hrd hwl hlo
 obtain rfl:dV=.none:=Dflts.none hD hdf
 obtain rfl:kV=.none:=Dflts.noKw hD
 obtain ⟨a,vs,ns,rfl,rfl,hobj,hints,hlen⟩:=ziu hn hpre hwl
 refine enter_call (codeAny_mono (call w s₀ s₁ mg mb fa o pm cd doc a vs ns G Y ho (fd_plain hd) hcd hmg hobj hints hlen hg) fun r s' hq=>?_)
 obtain ⟨rfl,h2,h3,h4⟩:=hq
 exact ⟨.inl ⟨.bool true,.bool true,[],rfl,fun _=>rfl,.bool true,ziv l _,fun _=>⟨List.Pairwise.nil,fun _ hm=>(nomatch hm)⟩⟩,h2,h3,h4⟩
section
variable {prog:Program} {w:World} {A:Around} {E:Value->Shared->Prop} {s:Shared} {K:Frag}
end
end Att
namespace L2
open PySem PySem.Spec PyProof.Rows
theorem zcV:∀ {vs:List Value} {ns:List Int},IntsAre vs ns->Vals (ns.map V.int) vs
 | _,_,.nil=>.nil
 | _,_,.cons n t h=>.cons ⟨t,rfl⟩ (zcV h)
def Only (H:Hp):Prop:=∀ b,H b=none ∨ ∃ o xs,H b=some (.frz o (.lst xs))
theorem zka {P:Program} {w:World} {K:PySem.W.Frag} {mg mb:Str->Option Value} {CX:CXT} {k:Nat} {fa a:Addr} {fd:FuncData} {x:Str} {sp:Sp} {s₁ : Shared} {vs:List Value} {ns:List Int}
  (KX:K.In s₁.heap) (hns:s₁.heap.Ns mainGlobals mg) (hb:s₁.heap.Ns builtinsNs mb) (hbb:∀ x:Str,x ≠ "__name__" -> mb x=bootBuiltins x) (hlim:s₁.heap.NoLimit) (hg:s₁.gens = #[])
  (ha:s₁.heap.get? a=some { cls:=.type "list", data:=.seq vs.toArray }) (hi:IntsAre vs ns) (hl:ns.length<=sizeLine) (hr:Room k callerA)
  (F:∀ base:Heap,K.In base->base.Ns mainGlobals mg->FnOk P w K mg base CX k fa fd [x] sp) (hbind:∀ (s:Shared) (u:Value),BindsTo s fd ⟨[u],[]⟩ [(x,u)])
  (hsp:∀ H:Hp,Only H->SqL K H a (ns.map V.int)->sp [.ref a] H (fun v _=>v=.bl true) fun _ _ _=>False)
  (hCX:∀ H e s',CX [] H s₁ (fun _ _ _=>False) e s'->False) :
  codeAny (model P w) callerA (.call (.ref fa) ⟨[.ref a],[]⟩) (fun r s'=>r=.ok (.ret (.bool true))/\OldK s₁.heap s'.heap/\s'.os=s₁.os/\AllBare s'.gens) s₁:=by
 have rv:=zcV hi
 have lenV:=hi.length
 have core:∀ H:Hp,Only H->SqL K H a (ns.map V.int)->HOk P w H s₁.heap->(∀ b,H b ≠ none->b=a)->(H a ≠ none->K.lookup a=none) ->
   codeAny (model P w) callerA (.call (.ref fa) ⟨[.ref a],[]⟩) (fun r s'=>r=.ok (.ret (.bool true))/\OldK s₁.heap s'.heap/\s'.os=s₁.os/\AllBare s'.gens) s₁:=by
  intro H hO hS hok hA hK
  have base_of:∀ {b:Addr} {o:Obj},s₁.heap.get? b=some o->H b=none->(hidT s₁.heap H).get? b=some o:=fun e n=>zj0 e n
  have noA:∀ {b:Addr} {o:Obj} {es:Array DictEntry} {ep:Nat},s₁.heap.get? b=some o->o.data=.dict es ep->H b=none:=fun {b o es ep} e d=>by
   cases q:H b with
   | none=>rfl
   | some u =>
    have e':b=a:=hA b (by rw [q];simp)
    subst e'
    rw [ha] at e;cases e
    have d':Data.seq vs.toArray _=Data.dict es ep:=d
    cases d'
  have nsK:∀ {b:Addr} {m:Str->Option Value},s₁.heap.Ns b m->(hidT s₁.heap H).Ns b m:=fun {b m} ⟨o,es,ep,e,d,r⟩=>⟨o,es,ep,base_of e (noA e d),d,r⟩
  have hKb:K.In (hidT s₁.heap H):=fun b o e=>base_of (KX b o e) (by
   cases q:H b with
   | none=>rfl
   | some u =>
    have e':b=a:=hA b (by rw [q];simp)
    subst e'
    rw [hK (by rw [q];simp)] at e;cases e)
  have hM:Mod K mg (hidT s₁.heap H):=⟨hKb,nsK hns,⟨mb,nsK hb,hbb⟩,let ⟨mc,h1,h2⟩:=hlim;⟨mc,nsK h1,h2⟩⟩
  have e0:Env0 P w K mg (hidT s₁.heap H) callerA [] s₁ H:=⟨rfl,hM,fun b o e=>zlk e,Nat.le_of_eq (zid _ _),trivial,fun b hb=>absurd (show b ∈ ([]:List Addr) from hb) (by simp),hok,.of_eq hg⟩
  refine codeAny_mono ((F _ hKb (nsK hns)).run callerA [] s₁ H ⟨[.ref a],[]⟩ [.ref a] [.ref a] _ _ hr e0 (hbind s₁ (.ref a)) (.cons rfl .nil) (hsp H hO hS)) fun r s' h=>?_
  cases r with
  | error e=>exact (hCX H e s' h).elim
  | ok fl =>
   cases fl with
   | next=>exact False.elim h
   | brk=>exact False.elim h
   | cont=>exact False.elim h
   | ret u =>
    obtain ⟨v,H',os,bare,un,hok',r',q⟩:=h
    have q':v=.bl true:=q
    subst q'
    obtain rfl:u=Value.bool true:=r'
    refine ⟨rfl,OldK.of_keep fun b o e=>?_,os,bare⟩
    cases q:H b with
    | none=>exact un.keep b o e q (by intro z;exact absurd (show b ∈ ([]:List Addr) from z) (by simp)) (by simp)
    | some u =>
     rcases hO b with z | ⟨ob,xs,z⟩
     ·rw [q] at z;cases z
     ·have z2:=un.frzs b ob _ z
      obtain ⟨e1,_⟩:=hok b _ z
      obtain ⟨e2,_⟩:=hok' b _ z2
      rw [e] at e1;cases e1
      exact e2
 cases hk:K.lookup a with
 | some o =>
  have e:=KX a o hk
  rw [ha] at e
  cases e
  refine core (fun _=>none) (fun _=>.inl rfl) (.inr ⟨_,vs.toArray,_,hk,rfl,rfl,rfl,by rw [List.size_toArray,lenV];exact hl,by simpa using rv⟩) (fun b u z=>by have z':(none:Option HO)=some u:=z;cases z') (fun b z=>absurd rfl z) fun z=>absurd rfl z
 | none =>
  refine core (fun b=>if b=a then some (.frz { cls:=.type "list", data:=.seq vs.toArray } (.lst (ns.map V.int))) else none) (fun b=>?_) (.inl (.inr ⟨{ cls:=.type "list", data:=.seq vs.toArray },if_pos rfl⟩)) (fun b u z=>?_) (fun b z=>?_) fun _=>hk
  ·by_cases hb:b=a
   ·exact .inr ⟨_,_,if_pos hb⟩
   ·exact .inl (if_neg hb)
  ·by_cases hb:b=a
   ·have z':=(if_pos hb).symm.trans z
    cases z'
    subst hb
    exact ⟨ha,by rw [List.length_map];exact hl,vs,_,rv,ha⟩
   ·have z':=(if_neg hb).symm.trans z
    cases z'
  ·by_cases hb:b=a
   ·exact hb
   ·exact absurd (if_neg hb) z
def zcf (s:Stmt):Arguments:=match s with
 | .FunctionDef _ a _ _ _ _ _ _ _ _=>a
 | _=>{ posonlyargs:=[],args:=[],vararg:=none,kwonlyargs:=[],kw_defaults:=[],kwarg:=none,defaults:=[] }
def zbo (s:Stmt):List Stmt:=match s with
 | .FunctionDef _ _ b _ _ _ _ _ _ _=>b
 | _=>[]
def zam (s:Stmt):Scope:=match s with
 | .FunctionDef _ _ _ _ _ _ sc _ _ _=>sc
 | _=>{ kind:=.function,names:=[],isGenerator:=false,isCoroutine:=false }
abbrev CX0:CXT:=fun _ _ _ _ _ _=>False
abbrev E0:XK:=fun _ _ _=>False
theorem zne {X:Cx}:zir CX0 X E0:=fun _ _ _ _ _ _ _ h=>h.elim
structure Fun (K:PySem.W.Frag) (x qual:Str) (st:Stmt) (f:Addr) (fd:FuncData):Prop where
 ex:∃ (oc:Value) (od:Option Addr) (kV doc pm:Value) (an:Option Addr) (cdv ct:Value) (osl:Array (Option Value)),
  fd=PySem.W.fnOf x qual (zcf st) (zbo st) (zam st) .none kV doc pm an cdv ct/\K.lookup f=some ⟨oc,od,.func fd,osl⟩/\PySem.W.codeIn K cdv qual=true
 kp:PySem.W.keepIn K (.ref f)=true
section
variable {P:Program} {w:World} {K:PySem.W.Frag} {mg:Str->Option Value} {base:Heap}
theorem Fun.ok {x qual:Str} {st:Stmt} {f:Addr} {fd:FuncData} {N ps:List Str} {k:Nat} {sp:Sp} (F:Fun K x qual st f fd) (S:zdI N ps (zam st)) (len:∀ vs H Q E,sp vs H Q E->vs.length=ps.length)
  (hbody:∀ (cdv:Value) (A:Around) (outer:List Env) (s:Shared) (H:Hp) (vs:List V) (Q:VK) (E:XK),Room k (A.deeper (envOfC qual (zam st) s.heap.objs.size f cdv))->sp vs H Q E ->
   ∃ t,PSs (cxOf CX0 P w K mg base N qual (zam st) f cdv A outer s H E).nox (zbo st) t/\t { nx:=fun _ H'=>Q .non H',rt:=Q } (zeh N vs) H):FnOk P w K mg base CX0 (k+1) f fd ps sp:=by
 obtain ⟨oc,od,kV,doc,pm,an,cdv,ct,osl,rfl,lk,hcd⟩:=F.ex
 refine zm9 lk hcd S len fun A outer s H vs Q E hr hsp=>?_
 obtain ⟨t,h,q⟩:=hbody cdv A outer s H vs Q E hr hsp
 exact ⟨t,h.nox,q⟩
theorem Fun.binds {x qual:Str} {st:Stmt} {f:Addr} {fd:FuncData} {ps:List Str} (F:Fun K x qual st f fd)
  (h:∀ (kV doc pm:Value) (an:Option Addr) (cdv ct:Value) (us:List Value),us.length=ps.length->bindArgs (PySem.W.fnOf x qual (zcf st) (zbo st) (zam st) .none kV doc pm an cdv ct) ⟨us,[]⟩=pure (ps.zip us)):zcU K fd ps []:=by
 obtain ⟨oc,od,kV,doc,pm,an,cdv,ct,osl,rfl,lk,hcd⟩:=F.ex
 exact .all (h kV doc pm an cdv ct)
end
section
variable {X:Cx}
end
def Same (H H':Hp):Prop:=∀ b o,H b=some o->H' b=some o
theorem Same.refl (H:Hp):Same H H:=fun _ _ h=>h
theorem Same.trans {H H1 H2:Hp} (a:Same H H1) (b:Same H1 H2):Same H H2:=fun c o h=>b c o (a c o h)
theorem Same.free {H H':Hp} (e:Same H H') {l:Addr} (h:H' l=Option.none):H l=Option.none:=by
 cases q:H l with
 | none=>rfl
 | some o =>
  rw [e l o q] at h
  cases h
theorem Same.seq {K:PySem.W.Frag} {H H':Hp} {a:Addr} {xs:List V} (e:Same H H') (h:SqL K H a xs):SqL K H' a xs:=by
 rcases h with (h | ⟨o,h⟩) | h
 ·exact .inl (.inl (e _ _ h))
 ·exact .inl (.inr ⟨o,e _ _ h⟩)
 ·exact .inr h
section
variable {X:Cx} {pins:List (Addr × Obj)} {σ : St} {H:Hp} {s:Shared} {h':Heap}
theorem Inv.turnedNew {t':Nat} {fp:List Addr} {p:Addr} {o:HO} (I:Inv X pins σ H s) (hf:∀ b ∈ fp,FpOk X pins H b)
  (k:∀ b o,b ∉ fp->s.heap.get? b=some o->h'.get? b=some o) (hp:s.heap.objs.size<=p) (new:zb6 X.prog X.w (upd H p o) h' p o) :
  Inv X pins σ (upd H p o) { s with heap:=h',toks:=t' }:=by
 have hn:H p=none:=I.hok.fresh hp
 have trk:∀ b u,H b=some u->b ∉ fp:=fun b u e z=>by rw [(hf b z).1] at e;cases e
 refine I.step (g':=s.gens) (d':=s.drawn) (ch:=fp) (fun b hb=>?_) (fun b o _ _ hc e _=>k b o hc e) (fun b o _ _ hc e _=>⟨o.slots,k b o hc e⟩)
  (fun b o _ e n=>by rw [zaw (Nat.ne_of_lt (Nat.lt_of_lt_of_le (Heap.lt_size e) hp))];exact n) (fun b o hc e=>⟨o,k b o hc e⟩)
  (fun b xs e=>by rw [zaw (zaL e hn)];exact e) (fun b ob u e=>by rw [zaw (zaL e hn)];exact e) (fun b ps e=>⟨#[],by rw [zaw (zaL e hn),e];simp⟩)
  (fun m hm=>?_) (fun b u e=>?_) I.bare
 ·obtain ⟨_,f1,_,f3,f4,f5⟩:=hf b hb
  exact ⟨f3,f1,f4,f5⟩
 ·obtain ⟨ob,es,ep,ho,r⟩:=hm
  exact ⟨ob,es,ep,k _ ob (fun z=>(hf _ z).2.1 rfl) ho,r⟩
 ·by_cases hb:b=p
  ·subst hb;rw [zat] at e;cases e;exact new
  ·rw [zaw hb] at e
   refine (I.hok b u e).stay (fun c v hc q=>k c v ?_ q) (fun c q=>by rw [zaw (zaL q hn)];exact q) fun c xs q=>by rw [zaw (zaL q hn)];exact q
   rcases hc with z | z
   ·rw [z];exact trk b u e
   ·exact trk c _ z
theorem Inv.turnedL {t':Nat} {fp:List Addr} (I:Inv X pins σ H s) (hf:∀ b ∈ fp,FpOk X pins H b)
  (k:∀ b o,b ∉ fp->s.heap.get? b=some o->h'.get? b=some o):Inv X pins σ H { s with heap:=h',toks:=t' }:=by
 have trk:∀ b u,H b=some u->b ∉ fp:=fun b u e z=>by rw [(hf b z).1] at e;cases e
 refine I.step (g':=s.gens) (d':=s.drawn) (ch:=fp) (fun b hb=>?_) (fun b o _ _ hc e _=>k b o hc e) (fun b o _ _ hc e _=>⟨o.slots,k b o hc e⟩)
  (fun _ _ _ _ n=>n) (fun b o hc e=>⟨o,k b o hc e⟩) (fun _ _ e=>e) (fun _ _ _ e=>e) (fun b ps e=>⟨#[],by rw [e];simp⟩) (fun m hm=>?_) (fun b u e=>?_) I.bare
 ·obtain ⟨_,f1,_,f3,f4,f5⟩:=hf b hb
  exact ⟨f3,f1,f4,f5⟩
 ·obtain ⟨ob,es,ep,ho,r⟩:=hm
  exact ⟨ob,es,ep,k _ ob (fun z=>(hf _ z).2.1 rfl) ho,r⟩
 ·refine (I.hok b u e).stay (fun c v hc q=>k c v ?_ q) (fun c q=>q) fun c xs q=>q
  rcases hc with z | z
  ·rw [z];exact trk b u e
  ·exact trk c _ z
end
def Ite (K:PySem.W.Frag) (a:Addr):It :=
 ⟨fun i H=>∃ xs x,SqL K H a xs/\xs[i]?=some x,
  fun i H v H'=>∃ p x,H p=none/\v=.ref p/\(∀ xs,SqL K H a xs->xs[i]?=some x)/\H'=upd H p (.tup [.int i,x]),
  fun i H=>∃ xs,SqL K H a xs/\xs.length<=i⟩
theorem ziw {P:Program} {w:World} {K:PySem.W.Frag} {elts:List Expr} {x1} {tp:Pos} (a e it:Addr) (hne:e ≠ it) :
  Turn P w K (.Tuple elts x1 tp) (Ite K a) [e,it] e (fun i h=>(∃ old,IsEnum h e it i old)/\h.IsListIter it a i) where
 mem:=by simp
 obj:=fun i h st b hb=>by
  obtain ⟨⟨old,he⟩,o,ho,c,d⟩:=st
  have hb':b=e ∨ b=it:=by simpa using hb
  rcases hb' with rfl | rfl
  ·exact ⟨_,he,fun v z=>by
    have z':Data.fields _=Data.cell v:=z
    cases z'⟩
  ·exact ⟨o,ho,fun v z=>by rw [d] at z;cases z⟩
 keep:=fun i h h' st k=>by
  obtain ⟨⟨old,he⟩,hi⟩:=st
  exact ⟨⟨old,k e (by simp) _ he⟩,hi.at fun o q=>k it (by simp) o q⟩
 item:=by
  intro X hP hw hK hc i pins s σ H E I hf st hg
  subst hP hw hK
  obtain ⟨⟨old,he⟩,hi⟩:=st
  obtain ⟨xs,x,hq,hx⟩:=hg
  obtain ⟨its,rv,p,hz⟩:=I.list hq
  obtain ⟨u,hu,ru⟩:=rv.get hx
  refine wpAny_pyNext_enum_item he hi p.isList (x:=u) (by simpa using hu) hne fun h1 out hi1 ht hsz kk=>?_
  refine ⟨_,rfl,wpAny_letOwnedTupleGo_enum out fun h2 he2 hs2=>?_⟩
  have hel:e < s.heap.objs.size:=Heap.lt_size he
  have hs2':Heap.SameBut e h1 h2:=hs2
  have ht2:h2.get? s.heap.objs.size=some { cls:=.type "tuple", data:=.seq #[.int i s.toks,u] }:=(hs2'.2 _ (Nat.ne_of_gt hel)).trans ht
  have kk2:∀ b o,b ∉ [e,it]->s.heap.get? b=some o->h2.get? b=some o:=fun b o hb q=>by
   have hbe:b ≠ e:=fun z=>hb (by simp [z])
   have hbi:b ≠ it:=fun z=>hb (by simp [z])
   exact (hs2'.2 b hbe).trans (kk b o hbe hbi q)
  have hn:H s.heap.objs.size=none:=I.hok.fresh (Nat.le_refl _)
  have I2:Inv X pins σ (upd H s.heap.objs.size (.tup [.int i,x])) { s with heap:=h2,toks:=s.toks+1 } :=
   I.turnedNew (fp:=[e,it]) hf kk2 (Nat.le_refl _) ⟨by show 2<=sizeLine;decide,[.int i s.toks,u],.cons ⟨_,rfl⟩ (.cons ru .nil),⟨_,ht2,rfl,_,rfl⟩⟩
  refine ⟨.ref s.heap.objs.size,_,I2,rfl,⟨_,x,hn,rfl,fun ys hy=>by rw [I.list_inj hy hq];exact hx,rfl⟩,⟨⟨u,?_⟩,?_⟩,fun b hb=>?_⟩
  ·have:=he2
   simpa using this
  ·have hi2:h2.IsListIter it a (i+1):=hi1.at fun o q=>(hs2'.2 it (Ne.symm hne)).trans q
   exact hi2
  ·have fr:=(hf b hb)
   have hlt:b < s.heap.objs.size:=by
    have hb':b=e ∨ b=it:=by simpa using hb
    rcases hb' with rfl | rfl
    ·exact hel
    ·obtain ⟨o,ho,_⟩:=hi;exact Heap.lt_size ho
   rw [zaw (Nat.ne_of_lt hlt)]
   exact fr.1
 done:=by
  intro X hP hw hK hc i pins s σ H E I hf st hg
  subst hP hw hK
  obtain ⟨⟨old,he⟩,hi⟩:=st
  obtain ⟨xs,hq,hx⟩:=hg
  obtain ⟨its,rv,p,hz⟩:=I.list hq
  have hl:=rv.length
  exact wpAny_pyNext_enum_end (I.ok.hd hc) he hi p.isList (by simp;omega) fun h' eb=>⟨rfl,I.turnedL (t':=s.toks) hf fun b o hb q=>eb b o (fun z=>hb (by simp [z])) q⟩
 self:=fun _ _ _ _ _ st h=>by
  obtain ⟨⟨old,he⟩,_⟩:=st
  exact wpAny_pyIter_enum he h
section
variable {X:Cx}
def zot (K:PySem.W.Frag) (ta:TA):TI:=fun σ H R=>ta σ H fun vs H1=>∃ a xs,vs=[.ref a]/\SqL K H1 a xs/\R (Ite K a) H1
theorem zlA {a:Expr} {ta:TA} {p pos:Pos} {elts:List Expr} {x1} {tp:Pos} (hg:Gl X "enumerate") (hm:X.mg "enumerate" = none) (ha:PA X [a] ta)
  (hs:starEach [a] X.env=[(false,eval a X.env)]:=by rfl):PI X (.Tuple elts x1 tp) (.Call (.Name "enumerate" p) [a] [] pos) (zot X.K ta):=by
 intro pins s σ H R I h
 refine Call_ (zee I hg hm boot_enumerate (PyProof.Rows.callWith_type1 (thn (ha pos pins s σ H _ I h) fun us s1 ⟨vs,H1,I1,r1,q1⟩=>?_) hs rfl))
 obtain ⟨l,xs,e,hq,q⟩:=q1
 subst e
 cases r1 with
 | cons r rr =>
  cases rr
  cases (show _=Value.ref l from r)
  obtain ⟨its,rv,pl,hz⟩:=I1.list hq
  refine call_enumerate_list pl.isList fun h' he hi hsz kk=>?_
  have I2:Inv X pins σ H1 { s1 with heap:=h' }:=I1.kept (t':=s1.toks) kk
  refine wpAny_pyIter_enum he ?_
  refine ⟨s1.heap.objs.size+1,[s1.heap.objs.size+1,s1.heap.objs.size],_,_,H1,rfl,I2,ziw l _ _ (Nat.succ_ne_self _),⟨⟨_,he⟩,hi⟩,fun b hb=>?_,q⟩
  have hb':b=s1.heap.objs.size+1 ∨ b=s1.heap.objs.size:=by simpa using hb
  rcases hb' with rfl | rfl
  ·exact I1.fpOk (Nat.le_succ _) (I1.hok.fresh (Nat.le_succ _))
  ·exact I1.fpOk (Nat.le_refl _) (I1.hok.fresh (Nat.le_refl _))
end
section
variable {κ : Type} [DecidableEq κ]
def putK (kvs:List (κ × V)) (k : κ) (v:V):List (κ × V) :=
 if (kvs.any fun kv=>decide (kv.1=k))=true then kvs.map (fun kv=>if kv.1=k then (kv.1,v) else kv) else kvs ++ [(k,v)]
theorem zgE (kvs:List (κ × V)) (k : κ) (v:V):(putK kvs k v).length<=kvs.length+1:=by
 unfold putK
 split
 ·rw [List.length_map];omega
 ·rw [List.length_append,List.length_cons,List.length_nil];omega
theorem KV.any {kvs:List (κ × V)} {vs:List (κ × Value)} (r:KV kvs vs) (k : κ):(kvs.any fun kv=>decide (kv.1=k))=vs.any fun kv=>decide (kv.1=k):=by
 unfold KV at r
 induction r with
 | nil=>rfl
 | cons h t ih=>rw [List.any_cons,List.any_cons,ih,h.1]
theorem KV.repl {kvs:List (κ × V)} {vs:List (κ × Value)} (r:KV kvs vs) (k : κ) {y:V} {u:Value} (ry:RelV y u) :
  KV (kvs.map fun kv=>if kv.1=k then (kv.1,y) else kv) (vs.map fun kv=>if kv.1=k then (kv.1,u) else kv):=by
 unfold KV at r ⊢
 induction r with
 | nil=>exact .nil
 | @cons p q ps qs h t ih =>
  rw [List.map_cons,List.map_cons]
  refine .cons ?_ ih
  obtain ⟨h1,h2⟩:=h
  by_cases e:p.1=k
  ·rw [if_pos e,if_pos (h1.symm.trans e)];exact ⟨h1,ry⟩
  ·rw [if_neg e,if_neg (fun z=>e (h1.trans z))];exact ⟨h1,h2⟩
theorem KV.put {kvs:List (κ × V)} {vs:List (κ × Value)} (r:KV kvs vs) (k : κ) {y:V} {u:Value} (ry:RelV y u):KV (putK kvs k y) (stored vs k u):=by
 unfold putK stored
 rw [r.any k]
 by_cases e:(vs.any fun kv=>decide (kv.1=k))=true
 ·rw [if_pos e,if_pos e];exact r.repl k ry
 ·rw [if_neg e,if_neg e];exact Paired.snoc r ⟨rfl,ry⟩
end
theorem zou {P:Program} {w:World} {k:Key} {u:Value} (r:RelV (kV k) u):(zbS P w).is k u=true:=by
 cases k with
 | inl i=>obtain ⟨t,e⟩:=(show ∃ t,u=Value.int i t from r);subst e;exact zgw P w i t
 | inr x=>obtain ⟨t,e⟩:=(show ∃ t,u=Value.str x t from r);subst e;exact zgx P w x t
section
variable {P:Program} {w:World} {H:Hp} {h:Heap} {a:Addr}
theorem zov {u:HO} (ok:HOk P w H h) (e:Rd H a u):zb6 P w H h a u:=e.ok ok
theorem zow {kvs:List (Key × V)} (ok:HOk P w H h) (e:Rd H a (.dK kvs)):kvs.length<=sizeLine/\(a == sysModules)=false/\∃ vs,KV kvs vs/\h.DictOf (zbS P w) a vs :=
 show zb6 P w H h a (.dK kvs) from zov ok e
theorem zox {kvs:List (Key × V)} (ok:HOk P w H h) (e:H a=some (.dK kvs)):kvs.length<=sizeLine/\(a == sysModules)=false/\∃ vs,KV kvs vs/\h.DictOf (zbS P w) a vs:=zow ok (.inl e)
end
section
variable {X:Cx} {pins:List (Addr × Obj)} {σ : St} {H:Hp} {s:Shared} {a:Addr} {y v:V} {u r:Value} {o:Option V} {A:Around} {E:Value->Shared->Prop}
theorem Inv.big (I:Inv X pins σ H s):sysModules < s.heap.objs.size:=by
 have h:mainGlobals < s.heap.objs.size:=(I.mod.glob.keeps I.bk).lt
 exact Nat.lt_trans (by decide) h
theorem zlB {h':Heap} {t':Nat} {ob:HO} (I:Inv X pins σ H s) (mu:Mut (H a)) (hs:Heap.SameBut a s.heap h') (he:∃ q,h'.get? a=some q) (new:zb6 X.prog X.w (upd H a ob) h' a ob) :
  Inv X pins σ (upd H a ob) { s with heap:=h',toks:=t' } :=
 I.write (x:=a) (e:=a) mu (.inl rfl) (fun b q hb z=>(hs.2 b hb).trans z) he new
theorem znf {P:Program} {w:World} {H':Hp} {h':Heap} {kvs:List (Key × V)} {vs:List (Key × Value)} (z:kvs.length<=sizeLine) (hd:(a == sysModules)=false) (rel:KV kvs vs) (dd:h'.DictOf (zbS P w) a vs) :
  zb6 P w H' h' a (.dK kvs):=⟨z,hd,vs,rel,dd⟩
end
section
variable {X:Cx} {pins:List (Addr × Obj)} {σ : St} {H:Hp} {s:Shared} {a:Addr} {kvs:List (Key × V)} {k:Key} {u:Value} {A:Around} {E:Value->Shared->Prop}
end
section
variable {X:Cx} {o i e value:Expr} {pos pos' tpos:Pos} {td ty tv:TE}
end
theorem zkb {P:Program} {w:World} {H:Hp} (h:Heap) (hb:sysModules < h.objs.size):zb6 P w H (h.push { cls:=.type "dict", data:=.dict #[] }) h.objs.size (.dK []) :=
 ⟨Nat.zero_le _,beq_eq_false_iff_ne.mpr (Ne.symm (Nat.ne_of_lt hb)),[],.nil,Heap.DictOf.new h⟩
section
variable {X:Cx} {pos:Pos}
end
def zhe:List (TE × TE)->St->Hp->(List (V × V)->Hp->Prop)->Prop
 | [],_,H,Q=>Q [] H
 | (tk,tv) :: r,σ,H,Q=>tk σ H fun x H1=>tv σ H1 fun y H2=>zhe r σ H2 fun ps H3=>Q ((x,y) :: ps) H3
abbrev VV:List (V × V)->List (Value × Value)->Prop:=Paired fun p q=>RelV p.1 q.1/\RelV p.2 q.2
def PPs (X:Cx) (pos:Pos) (keys:List (Option Expr)) (values:List Expr) (trs:List (TE × TE)):Prop :=
 ∀ (pins:List (Addr × Obj)) (s:Shared) (σ : St) (H:Hp) (Q:List (V × V)->Hp->Prop),Inv X pins σ H s->zhe trs σ H Q ->
  wpAny (model X.prog X.w) X.A (evalPairs (pairTrees keys values X.env pos)) (fun vs s'=>∃ ps H',Inv X pins σ H' s'/\VV ps vs/\Q ps H') X.xe s
theorem zlC {X:Cx} {pos:Pos}:PPs X pos [] [] []:=fun pins s σ H Q I h=>pairTrees_nil_walk ⟨[],H,I,.nil,h⟩
theorem zkc {X:Cx} {pos:Pos} {k v:Expr} {ks:List (Option Expr)} {vs:List Expr} {tk tv:TE} {trs:List (TE × TE)} (hk:PE X k tk) (hv:PE X v tv) (hr:PPs X pos ks vs trs) :
  PPs X pos (some k :: ks) (v :: vs) ((tk,tv) :: trs):=fun pins s σ H Q I h =>
 pairTrees_cons_walk (thn (hk pins s σ H _ I h) fun u s1 ⟨x,H1,I1,rx,q1⟩=>thn (hv pins s1 σ H1 _ I1 q1) fun w2 s2 ⟨y,H2,I2,ry,q2⟩ =>
  thn (hr pins s2 σ H2 _ I2 q2) fun ws s3 ⟨ps,H3,I3,rel,q3⟩=>⟨(x,y) :: ps,H3,I3,.cons ⟨rx,ry⟩ rel,q3⟩)
def zdX (kvs more:List (Key × V)):List (Key × V):=more.foldl (fun acc kv=>putK acc kv.1 kv.2) kvs
theorem KV.merge:∀ {more:List (Key × V)} {rs:List (Key × Value)} {kvs:List (Key × V)} {vs:List (Key × Value)},KV more rs->KV kvs vs->KV (zdX kvs more) (merged vs rs):=by
 intro more rs kvs vs r
 unfold KV at r
 induction r generalizing kvs vs with
 | nil=>intro q;exact q
 | @cons p q ps qs h t ih =>
  intro r0
  have e:KV (putK kvs p.1 p.2) (stored vs q.1 q.2):=by
   have:=r0.put p.1 h.2
   rw [← h.1];exact this
  exact ih e
theorem zdo:∀ (more kvs:List (Key × V)),(zdX kvs more).length<=kvs.length+more.length
 | [],kvs=>by show kvs.length<=kvs.length+0;omega
 | p :: r,kvs=>by
  have h1:=zdo r (putK kvs p.1 p.2)
  have h2:=zgE kvs p.1 p.2
  show (zdX (putK kvs p.1 p.2) r).length<=_
  rw [List.length_cons];omega
theorem zeX {P:Program} {w:World}:∀ {kvs:List (Key × V)} {ws:List (Value × Value)},VV (kvs.map fun kv=>(kV kv.1,kv.2)) ws->∃ rs,Carries (zbS P w) ws rs/\KV kvs rs
 | [],_,r=>by rw [List.map_nil] at r;cases r;exact ⟨[],True.intro,.nil⟩
 | p :: kvs,_,r=>by
  rw [List.map_cons] at r
  cases r with
  | @cons a b as bs h t =>
   obtain ⟨rs,c,q⟩:=zeX (P:=P) (w:=w) t
   obtain ⟨b1,b2⟩:=b
   exact ⟨(p.1,b2) :: rs,⟨zou h.1,rfl,c⟩,.cons ⟨rfl,h.2⟩ q⟩
end L2
namespace L2
open PySem PySem.Spec
def Tail (bmB bm:List Value):Prop:=∀ (X:String) (b:Bool),bmB.contains (.type X)=b->bm.contains (.type X)=b
theorem Tail.base {bmB:List Value}:Tail bmB bmB:=fun _ _ h=>h
theorem Tail.own {bmB bm:List Value} {D:Addr} (T:Tail bmB bm):Tail bmB (.ref D :: bm):=fun X b h=>by rw [List.contains_cons,T X b h];rfl
section
variable {prog:Program} {w:World} {A:Around} {E:Value->Shared->Prop} {h:Heap} {g:Array GenState} {d:Drawn} {t:Nat} {os:OsState} {R:Result->Shared->Prop}
variable {nm q:Str} {C N:Addr} {bs bm bmB:List Value} {hdct:Bool} {sn:List Str} {sub:List Value} {ab:Bool} {col:Option Bool} {dd:Option Addr} {k0 k1 k2 k3 k5:Option Value} {B newId initId:String}
theorem zhJ {M:Model} (F:ExcBaseFacts B newId initId bmB) (T:Tail bmB bm) {rest:List Value} {Q:Unit->Shared->Prop} (hC:h.get? C=some (excClassObj nm q C N bs bm hdct sn sub ab col dd k0 k1 k2 k3 k5 newId))
  (hq:Q () ⟨h,g,d,t,os⟩):wpAny M A (checkBuiltinCall newId ⟨.ref C :: rest,[]⟩) Q E ⟨h,g,d,t,os⟩:=by
 have hcont:(Value.ref C :: bm).contains (.type B)=true:=by rw [List.contains_cons,T _ _ F.hasB,Bool.or_true]
 have hstar:=F.noStar
 simp only [checkBuiltinCall,F.newKind,F.newSplit,F.newRow]
 repeat (first | refine wpAny_loadPart_at hC ?_ | (refine wpAny_isSubtype_exc hC ?_;rw [hcont]) | refine wpAny_staticBase_exc hC ?_ | refine wpAny_madeBy_exc hC ?_ | simp only [bne_self_eq_false,Bool.false_eq_true,if_false] | wp_step)
 exact hq
theorem zkd (F:ExcBaseFacts B newId initId bmB) (T:Tail bmB bm) {rest:List Value} (hC:h.get? C=some (excClassObj nm q C N bs bm hdct sn sub ab col dd k0 k1 k2 k3 k5 newId))
  (hq:R (.ok (.ret (.ref (h.objs.size+1)))) ⟨(h.push { cls:=.type "tuple", data:=.seq rest.toArray }).push
   { cls:=.ref C,data:=.fields #[.ref h.objs.size,.none,.none,.none,.bool false,.none] },g,d,t,os⟩) (hrest:rest.length<=sizeLine) :
  codeAny (model prog w) A (.builtin newId ⟨.ref C :: rest,[]⟩) R ⟨h,g,d,t,os⟩:=by
 have hends:=F.ends
 have hcB:(Value.ref C :: bm).contains (.type B)=true:=by rw [List.contains_cons,T _ _ F.hasB,Bool.or_true]
 have hcA:(Value.ref C :: bm).contains (.type "AttributeError")=false:=by rw [List.contains_cons,T _ _ F.noAttr];rfl
 have hcN:(Value.ref C :: bm).contains (.type "NameError")=false:=by rw [List.contains_cons,T _ _ F.noName];rfl
 refine codeAny_builtinAt F.entry ?_
 unfold Builtin.«BaseException.__new__»
 refine wpAt_bind ?_
 show wpAt _ _ _ (stack >>= _) _ _ _
 refine wpAt_bind (wpAt_stack fun p below=>wpAt_of_wpAny ?_)
 wp_walk
 refine wpAt_of_wpAny ?_
 rw [F.owner]
 repeat (first | with_reducible refine wpAny_madeHere_exc F.canon hC ?_ | with_reducible refine wpAny_loadPart_at hC ?_ | (with_reducible refine wpAny_isSubtype_exc hC ?_;first | rw [hcB] | rw [hcA] | rw [hcN]) | wp_step)
 show R _ _
 rw [Heap.size_push]
 exact hq
def zk9 (M:Model) (C fI:Addr) (h:Heap):Prop:=∀ (A:Around) (E:Value->Shared->Prop) (Q:Option Value->Shared->Prop) (h':Heap) (g:Array GenState) (d:Drawn) (t:Nat) (os:OsState),
 (∀ b o,h.get? b=some o->h'.get? b=some o)->Q (some (.ref fI)) ⟨h',g,d,t,os⟩->wpAny M A (typeLookup (.ref C) "__init__") Q E ⟨h',g,d,t,os⟩
theorem zhK (F:ExcBaseFacts B newId initId bmB) (T:Tail bmB bm) {rest:List Value} {fI:Addr} {oI:Obj} {Q:Fin->Shared->Prop}
  (hC:h.get? C=some (excClassObj nm q C N bs bm hdct sn sub ab col dd k0 k1 k2 k3 k5 newId)) (hi:zk9 (model prog w) C fI h)
  (hfI:h.get? fI=some oI) (hfc:oI.cls=.type "function")
  (hq:∀ h' e,Heap.MadeExcOf h h' e (.ref C) rest->h.objs.size<=e ->
   wpAny (model prog w) A (call (.ref fI) (.ref e :: rest)) (fun r s'=>r=.none/\Q (.done (.ret (.ref e))) s') E ⟨h',g,d,t,os⟩) (hrest:rest.length<=sizeLine) :
  wpAny (model prog w) A (Builtin.«type.__call__» ⟨.ref C :: rest,[]⟩) Q E ⟨h,g,d,t,os⟩:=by
 repeat (first | with_reducible refine wpAny_loadPart_at hC ?_ | with_reducible refine wpAny_madeBy_exc hC ?_ | wp_step)
 refine codeAny_call_builtin_code (Code.quiet_builtin _ F.quiet) (zhJ F T hC ?_)
 refine zkd F T hC ?_ hrest
 show wpAny _ _ _ _ _ _
 have hC₁:=Heap.get?_push_of_some { cls:=.ref C,data:=.fields #[.ref h.objs.size,.none,.none,.none,.bool false,.none] }
  (Heap.get?_push_of_some { cls:=.type "tuple", data:=.seq rest.toArray } hC)
 have hfI₁:=Heap.get?_push_of_some { cls:=.ref C,data:=.fields #[.ref h.objs.size,.none,.none,.none,.bool false,.none] }
  (Heap.get?_push_of_some { cls:=.type "tuple", data:=.seq rest.toArray } hfI)
 have hget:((h.push { cls:=.type "tuple", data:=.seq rest.toArray }).push
   { cls:=.ref C,data:=.fields #[.ref h.objs.size,.none,.none,.none,.bool false,.none] }).get? (h.objs.size+1)=some
   { cls:=.ref C,data:=.fields #[.ref h.objs.size,.none,.none,.none,.bool false,.none] }:=by heap_get
 have hcC:(Value.ref C :: bm).contains (.ref C)=true:=by simp
 unfold isInstance
 repeat (first | with_reducible refine wpAny_loadPart_at hget ?_ | (with_reducible refine wpAny_isSubtype_exc hC₁ ?_;rw [hcC]) | wp_step)
 show wpAny _ _ (typeLookup (.ref C) _) _ _ _
 refine hi _ _ _ _ _ _ _ _ (fun b o hb=>Heap.get?_push_of_some _ (Heap.get?_push_of_some _ hb)) ?_
 refine wpAny_holding (wpAny_bind ?_)
 unfold bindSpecial
 refine wpAny_bind (wpAny_typeOf (T := "function") ⟨_,hfI₁,hfc⟩ ?_)
 rw [if_pos (by decide)]
 refine wpAny_pure (wpAny_bind (wpAny_mono (hq _ (h.objs.size+1) ⟨fun b o hb=>Heap.get?_push_of_some _ (Heap.get?_push_of_some _ hb),Heap.get?_none_of_le (Nat.le_succ _),h.objs.size,hget,Heap.get?_none_of_le (Nat.le_refl _),?_⟩ (Nat.le_succ _)) (fun r s' hr=>?_) fun _ _ x=>x))
 ·exact Heap.get?_push_of_some _ (Heap.get?_push_at rfl rfl)
 ·obtain ⟨rfl,hQ⟩:=hr
  wp_walk
  exact hQ
theorem zix (F:ExcBaseFacts B newId initId bmB) (T:Tail bmB bm) {rest:List Value} {fI:Addr} {oI:Obj} {Q:Value->Shared->Prop}
  (hC:h.get? C=some (excClassObj nm q C N bs bm hdct sn sub ab col dd k0 k1 k2 k3 k5 newId)) (hi:zk9 (model prog w) C fI h)
  (hfI:h.get? fI=some oI) (hfc:oI.cls=.type "function")
  (hq:∀ h' e,Heap.MadeExcOf h h' e (.ref C) rest->h.objs.size<=e ->
   wpAny (model prog w) (A.under (.builtin "type.__call__" ⟨.ref C :: rest,[]⟩)) (call (.ref fI) (.ref e :: rest)) (fun r s'=>r=.none/\Q (.ref e) s') E ⟨h',g,d,t,os⟩) (hrest:rest.length<=sizeLine) :
  wpAny (model prog w) A (call (.ref C) rest) Q E ⟨h,g,d,t,os⟩:=by
 have f1:=tc_lookup
 have f2:=tc_bind (.ref C)
 have hT:(⟨h,g,d,t,os⟩:Shared).TypeIs (.ref C) "type" := ⟨_,hC,rfl⟩
 refine wpAny_call (codeAny_of_tree ?_)
 show wpAny _ _ (callAny (.ref C) _) _ _ _
 repeat (any_goals (first | assumption | with_reducible refine wpAny_loadPart_at hC ?_ | wp_step))
 refine ⟨rfl,?_⟩
 refine codeAny_call_builtin_at (Code.quiet_builtin _ (by decide +kernel)) entry_typeCall (wpAny_check_type_call_sub hC (zhK (hrest:=hrest) F T hC hi hfI hfc fun h' e hm hz=>?_))
 exact hq h' e hm hz
end
def zbp (M:Model) (C:Addr) (name:Str) (r:Option Value) (h:Heap):Prop:=∀ (A:Around) (E:Value->Shared->Prop) (Q:Option Value->Shared->Prop) (h':Heap) (g:Array GenState) (d:Drawn) (t:Nat) (os:OsState),
 (∀ b o,h.get? b=some o->h'.get? b=some o)->Q r ⟨h',g,d,t,os⟩->wpAny M A (typeLookup (.ref C) name) Q E ⟨h',g,d,t,os⟩
theorem zbp.keeps {M:Model} {C:Addr} {name:Str} {r:Option Value} {h h':Heap} (x:zbp M C name r h) (k:∀ b o,h.get? b=some o->h'.get? b=some o):zbp M C name r h' :=
 fun A E Q h2 g d t os k2 q=>x A E Q h2 g d t os (fun b o e=>k2 b o (k b o e)) q
theorem zbp.at {M:Model} {A:Around} {E:Value->Shared->Prop} {Q:Option Value->Shared->Prop} {C:Addr} {name:Str} {r:Option Value} {h:Heap} {g:Array GenState} {d:Drawn} {t:Nat} {os:OsState} (x:zbp M C name r h) (q:Q r ⟨h,g,d,t,os⟩):wpAny M A (typeLookup (.ref C) name) Q E ⟨h,g,d,t,os⟩ :=
 x A E Q h g d t os (fun _ _ e=>e) q
section
variable {prog:Program} {w:World} {A:Around} {E:Value->Shared->Prop} {h:Heap} {g:Array GenState} {d:Drawn} {t:Nat} {os:OsState} {R:Result->Shared->Prop}
variable {nm q:Str} {C N x:Addr} {bs bm bmB:List Value} {hdct:Bool} {sn:List Str} {sub:List Value} {ab:Bool} {col:Option Bool} {dd:Option Addr} {k0 k1 k2 k3 k5:Option Value} {B newId sa owner:String} {mN mA:Str->Option Value} {name:Str} {v:Value}
def zdg (M:Model) (l:List Value) (name:Str) (r:Option Value) (h:Heap):Prop:=∀ (A:Around) (E:Value->Shared->Prop) (Q:Option Value->Shared->Prop) (h':Heap) (g:Array GenState) (d:Drawn) (t:Nat) (os:OsState),
 (∀ b o,h.get? b=some o->h'.get? b=some o)->Q r ⟨h',g,d,t,os⟩->wpAny M A (lookupAlong l name) Q E ⟨h',g,d,t,os⟩
theorem zdg.base {M:Model} {y:Option Value} (hm:mroOf (.type B)=pure bm) (hB:typeLookup (.type B) name=pure y):zdg M bm name y h:=fun A E Q h' g d t os k q=>by
 rw [typeLookup_eq,hm] at hB
 have hrest:lookupAlong bm name=pure y:=hB
 rw [hrest]
 exact wpAny_pure q
theorem zdg.hit {M:Model} {D:Addr} {c0:Value} {dd':Option Addr} {cd:ClassData} {sl:Array (Option Value)} (hD:h.get? D=some { cls:=c0,dict:=dd',data:=.cls cd,slots:=sl }) (hn:h.Ns cd.ns mN) (hi:mN name=some v):zdg M (.ref D :: bm) name (some v) h:=fun A E Q h' g d t os k q=>by
 rw [lookupAlong_cons]
 refine wpAny_bind (wpAny_classOwn_cls (k _ _ hD) (hn.keeps k) ?_)
 rw [hi]
 exact wpAny_pure q
theorem zdg.miss {M:Model} {D:Addr} {r:Option Value} {c0:Value} {dd':Option Addr} {cd:ClassData} {sl:Array (Option Value)} (hD:h.get? D=some { cls:=c0,dict:=dd',data:=.cls cd,slots:=sl }) (hn:h.Ns cd.ns mN) (hi:mN name=none) (f:zdg M bm name r h):zdg M (.ref D :: bm) name r h:=fun A E Q h' g d t os k q=>by
 rw [lookupAlong_cons]
 refine wpAny_bind (wpAny_classOwn_cls (k _ _ hD) (hn.keeps k) ?_)
 rw [hi]
 exact f A E Q h' g d t os k q
theorem zbp.of {M:Model} {r:Option Value} (hC:h.get? C=some (excClassObj nm q C N bs bm hdct sn sub ab col dd k0 k1 k2 k3 k5 newId)) (f:zdg M (.ref C :: bm) name r h):zbp M C name r h:=fun A E Q h' g d t os k q=>by
 rw [typeLookup_eq]
 exact wpAny_bind (wpAny_mroOf_exc (k _ _ hC) (f A E Q h' g d t os k q))
theorem ziy {M:Model} {o:Obj} {nameV:Value} {Q:Unit->Shared->Prop} (SF:StoreFacts B bmB sa owner) (T:Tail bmB bm)
  (hC:h.get? C=some (excClassObj nm q C N bs bm hdct sn sub ab col dd k0 k1 k2 k3 k5 newId)) (hx:h.get? x=some o) (hc:o.cls=.ref C) (hq:Q () ⟨h,g,d,t,os⟩) :
  wpAny M A (checkBuiltinCall sa ⟨[.ref x,nameV,v],[]⟩) Q E ⟨h,g,d,t,os⟩:=by
 have hcB:(Value.ref C :: bm).contains (.type owner)=true:=by rw [List.contains_cons,T _ _ SF.hasOwner,Bool.or_true]
 have ha:=SF.args (.ref x) nameV v
 simp only [checkBuiltinCall,SF.kind,SF.split]
 refine wpAny_bind ?_
 ·unfold isInstance
  repeat (first | (with_reducible refine wpAny_loadPart_at hx ?_;rw [hc]) | (with_reducible refine wpAny_isSubtype_exc hC ?_;rw [hcB]) | wp_step)
  cases hsig:Manifest.signature? sa with
  | none=>exact wpAny_pure hq
  | some sig =>
   simp only [argsOk,hsig] at ha
   have h2:Bind.checkArgs sa sig ⟨[.ref x,nameV,v],[]⟩=pure ():=ha
   show wpAny M A (Bind.checkArgs sa sig ⟨[.ref x,nameV,v],[]⟩) Q E _
   rw [h2];exact wpAny_pure hq
theorem zfO {tk:Tok} {Q:PySem.Fin->Shared->Prop} {ns:List Str} (hpass:refuseLoop (.ref x) "__setattr__" bm=pure ())
  (hC:h.get? C=some (excClassObj nm q C N bs bm true sn sub ab col dd k0 k1 k2 k3 k5 newId)) (hf:zbp (model prog w) C name none h) (I:h.InstFk x C mA)
  (hq:∀ h' tk',h'.InstFk x C (fun y=>if y=name then some v else mA y) ->
   (∀ b o,b ≠ x->(∀ o₀ dx,h.get? x=some o₀ -> o₀.dict=some dx->b ≠ dx)->h.get? b=some o->h'.get? b=some o) ->
   (∀ o₀,h.get? x=some o₀ -> ∃ o₁,h'.get? x=some o₁ /\ o₁.cls=o₀.cls/\o₁.data=o₀.data/\o₁.slots=o₀.slots/\∀ dx,o₀.dict=some dx->o₁.dict=some dx)->(∀ o₀ o₁ dx,h.get? x=some o₀ -> o₀.dict=none->h'.get? x=some o₁ -> o₁.dict=some dx->h.objs.size<=dx)->Q (.done (.ret .none)) ⟨h',g,d,tk',os⟩) (hw:PySem.Within mA ns) (hsz:ns.length<=1000) :
  wpAny (model prog w) A (Builtin.«object.__setattr__» ⟨[.ref x,.str name tk,v],[]⟩) Q E ⟨h,g,d,t,os⟩:=by
 obtain ⟨o,hx,hc,hnc,hd⟩:=I
 have hs2:ns.length<=sizeLine:=by rw [sizeLine_eq];omega
 unfold Builtin.«object.__setattr__»
 repeat (first | rw [refuse_eq] | (rw [refuseLoop_ref,hpass]) | (with_reducible refine wpAny_loadPart_at hx ?_;rw [hc]) | with_reducible refine wpAny_mroOf_exc hC ?_ | with_reducible refine hf.at ?_ | wp_step)
 rcases hd with ⟨hdn,hmA⟩ | ⟨dx,hdx,hne,hns,hed⟩
 ·
  rw [hdn,if_neg (by simp [typeHasDict])]
  split
  ·rename_i hcd
   cases hcd
  split
  ·rename_i c hcd
   exact absurd hcd (hnc c)
  ·have hx₁ : (h.push { cls:=.type "dict", data:=.dict #[] }).get? x=some o:=Heap.get?_push_of_some _ hx
   have hxs:x ≠ h.objs.size:=Nat.ne_of_lt (Heap.lt_size hx)
   refine wpAny_bind (wpAny_alloc' ?_)
   refine wpAny_bind (wpAny_update' hx₁ ?_)
   refine wpAny_pure ?_
   have hgd:((h.push { cls:=.type "dict", data:=.dict #[] }).update x fun o=>{ cls:=o.cls,dict:=some h.objs.size,data:=o.data,slots:=o.slots }).get? h.objs.size
     = some { cls:=.type "dict", data:=.dict #[] } :=
    (Heap.get?_update_ne _ _ _ _ hxs.symm).trans (Heap.get?_push_at rfl rfl)
   have hnd:((h.push { cls:=.type "dict", data:=.dict #[] }).update x fun o=>{ cls:=o.cls,dict:=some h.objs.size,data:=o.data,slots:=o.slots }).Ns h.objs.size (fun _=>none) :=
    ⟨_,#[],_,hgd,rfl,fun e he=>absurd he (by simp),fun _=>rfl⟩
   show wpAny _ _ (Builtin.ObjectAttr.storeInDict h.objs.size (.str name tk) name v) _ _ _
   unfold Builtin.ObjectAttr.storeInDict Builtin.ObjectAttr.newKeyGuard
   refine wpAny_bind (wpAny_pure (wpAny_bind (wpAny_nsSet1EFk (Heap.Ns1.of_empty hnd) fun h' hn' hs hkeepD=>?_)))
   obtain ⟨oD,esD,epD,hoD,hdD,hcD⟩:=hn'.count (PySem.Within.cons name v PySem.Within.nil)
   refine wpAny_bind (wpAny_lookBehind hoD (by rw [hdD];exact pastItsLine_dict (Nat.le_trans hcD (by rw [List.length_cons,List.length_nil,sizeLine_eq];omega))) ?_)
   wp_walk
   have hx':h'.get? x=some { cls:=o.cls,dict:=some h.objs.size,data:=o.data,slots:=o.slots }:=?_
   refine hq h' _ ⟨{ cls:=o.cls,dict:=some h.objs.size,data:=o.data,slots:=o.slots },hx',hc,hnc,.inr ⟨h.objs.size,rfl,hxs.symm,?_,(let ⟨od',e',c',d'⟩:=hkeepD _ hgd;⟨od',e',c',d'⟩)⟩⟩ (fun b ob hbx _ hb=>?_)
    (fun o₀ h₀=>by obtain rfl:o=o₀:=Option.some.inj (hx.symm.trans h₀);exact ⟨_,hx',rfl,rfl,rfl,fun dx e=>by rw [hdn] at e;cases e⟩)
    (fun o₀ o₁ dx _ _ e1 e2=>by rw [hx'] at e1;cases e1;cases e2;exact Nat.le_refl _)
   ·obtain ⟨o',es,ep,e1,e2,e3,eu,e4⟩:=hn'
    exact ⟨o',es,ep,e1,e2,e3,eu,fun y=>by rw [e4 y];by_cases hy:y=name <;> simp [hy,hmA]⟩
   ·exact (hs.2 b (Nat.ne_of_lt (Heap.lt_size hb))).trans ((Heap.get?_update_ne _ _ _ _ hbx).trans (Heap.get?_push_of_some _ hb))
   ·refine (hs.2 x hxs).trans (Heap.get?_update_self _ hx₁ ?_)
    have hfr:=(Heap.get?_some_iff.mp hx).2
    obtain ⟨oc,od,odt,osl⟩:=o
    cases odt <;> first | rfl | exact hfr
 ·
  rw [hdx]
  refine wpAny_pure ?_
  show wpAny _ _ (Builtin.ObjectAttr.storeInDict dx (.str name tk) name v) _ _ _
  unfold Builtin.ObjectAttr.storeInDict Builtin.ObjectAttr.newKeyGuard
  refine wpAny_bind (wpAny_pure (wpAny_bind (wpAny_nsSet1EFk hns fun h' hn' hs hkeepD=>?_)))
  obtain ⟨oD,esD,epD,hoD,hdD,hcD⟩:=hn'.count (PySem.Within.cons name v hw)
  refine wpAny_bind (wpAny_lookBehind hoD (by rw [hdD];exact pastItsLine_dict (Nat.le_trans hcD (by rw [List.length_cons,sizeLine_eq];omega))) ?_)
  wp_walk
  refine hq h' _ ⟨o,(hs.2 x hne.symm).trans hx,hc,hnc,.inr ⟨dx,hdx,hne,hn',(let ⟨od,e,c,dd⟩:=hed;let ⟨od',e',c',d'⟩:=hkeepD od e;⟨od',e',c'.trans c,d'.trans dd⟩)⟩⟩ (fun b ob _ hbd hb=>?_)
   (fun o₀ h₀=>⟨o₀,(hs.2 x hne.symm).trans h₀,rfl,rfl,rfl,fun _ e=>e⟩)
   (fun o₀ o₁ dx' e0 e1 _ _=>by rw [hx] at e0;cases e0;rw [hdx] at e1;cases e1)
  exact (hs.2 b (hbd o dx hx hdx)).trans hb
theorem zej {Q:Unit->Shared->Prop} {ns:List Str} (SF:StoreFacts B bmB sa owner) (T:Tail bmB bm) (hpass:refuseLoop (.ref x) "__setattr__" bm=pure ())
  (hC:h.get? C=some (excClassObj nm q C N bs bm true sn sub ab col dd k0 k1 k2 k3 k5 newId)) (hfs:zbp (model prog w) C "__setattr__" (some (.builtin sa)) h) (hf:zbp (model prog w) C name none h) (I:h.InstFk x C mA)
  (hq:∀ h' tk',h'.InstFk x C (fun y=>if y=name then some v else mA y) ->
   (∀ b o,b ≠ x->(∀ o₀ dx,h.get? x=some o₀ -> o₀.dict=some dx->b ≠ dx)->h.get? b=some o->h'.get? b=some o) ->
   (∀ o₀,h.get? x=some o₀ -> ∃ o₁,h'.get? x=some o₁ /\ o₁.cls=o₀.cls/\o₁.data=o₀.data/\o₁.slots=o₀.slots/\∀ dx,o₀.dict=some dx->o₁.dict=some dx)->(∀ o₀ o₁ dx,h.get? x=some o₀ -> o₀.dict=none->h'.get? x=some o₁ -> o₁.dict=some dx->h.objs.size<=dx)->Q () ⟨h',g,d,tk',os⟩) (hw:PySem.Within mA ns) (hsz:ns.length<=1000) :
  wpAny (model prog w) A (setAttr (.ref x) name v) Q E ⟨h,g,d,t,os⟩:=by
 obtain ⟨o,hx,hc,_⟩:=id I
 have f3:=SF.slot.bind (.ref x)
 unfold setAttr callSpecial? specialOf
 repeat (any_goals (first | assumption | (with_reducible refine wpAny_loadPart_at hx ?_;rw [hc]) | with_reducible refine hfs.at ?_ | wp_step))
 refine codeAny_call_builtin SF.slot.plain SF.entry (ziy SF T hC hx hc (zfO hpass hC hf I (fun h' tk' I' hk hsame hnew=>?_) hw hsz))
 repeat (any_goals (first | assumption | wp_step))
 exact hq h' tk' I' hk hsame hnew
theorem zfP {M:Model} {o:Obj} {nameV:Value} {Q:Unit->Shared->Prop} (T:Tail bmB bm) (hb:bmB.contains (.type "BaseException")=true) (hC:h.get? C=some (excClassObj nm q C N bs bm hdct sn sub ab col dd k0 k1 k2 k3 k5 newId))
  (hx:h.get? x=some o) (hc:o.cls=.ref C) (hq:Q () ⟨h,g,d,t,os⟩):wpAny M A (checkBuiltinCall "BaseException.__getattribute__" ⟨[.ref x,nameV],[]⟩) Q E ⟨h,g,d,t,os⟩:=by
 have hk:builtinKind "BaseException.__getattribute__" = some .slot:=by decide +kernel
 have hsplit:splitId "BaseException.__getattribute__" = some ("BaseException", "__getattribute__"):=by decide +kernel
 have hcB:(Value.ref C :: bm).contains (.type "BaseException")=true:=by rw [List.contains_cons,T _ _ hb];rfl
 have ha:=PySem.F.args_bexc_ga (.ref x) nameV
 simp only [checkBuiltinCall,hk,hsplit]
 refine wpAny_bind ?_
 ·unfold isInstance
  repeat (first | (with_reducible refine wpAny_loadPart_at hx ?_;rw [hc]) | (with_reducible refine wpAny_isSubtype_exc hC ?_;rw [hcB]) | wp_step)
  exact hq
theorem zgF {tk:Tok} {Q:PySem.Fin->Shared->Prop} (hC:h.get? C=some (excClassObj nm q C N bs bm true sn sub ab col dd k0 k1 k2 k3 k5 newId)) (hf:zbp (model prog w) C name none h) (I:h.InstFk x C mA) (hv:mA name=some v) (hq:Q (.done (.ret v)) ⟨h,g,d,t,os⟩) :
  wpAny (model prog w) A (Builtin.«object.__getattribute__» ⟨[.ref x,.str name tk],[]⟩) Q E ⟨h,g,d,t,os⟩:=by
 obtain ⟨o,hx,hc,hnc,hd⟩:=I
 rcases hd with ⟨_,hmA⟩ | ⟨dx,hdx,hne,hns,_⟩
 ·rw [hmA name] at hv;cases hv
 unfold Builtin.«object.__getattribute__»
 repeat (first | (with_reducible refine wpAny_loadPart_at hx ?_;rw [hc]) | with_reducible refine hf.at ?_ | wp_step)
 split
 ·rename_i c hcd
  exact absurd hcd (hnc c)
 unfold instanceDict
 repeat (first | (with_reducible refine wpAny_loadPart_at hx ?_;rw [hc]) | with_reducible refine wpAny_loadPart_at hC ?_ | wp_step)
 rw [hdx]
 repeat (first | (with_reducible refine wpAny_nsGet hns.ns ?_;rw [hv]) | wp_step)
 exact hq
theorem zhL {expr:Bool} {Q:Value->Shared->Prop} (FB:ExcAttrFacts B) (T:Tail bmB bm) (hb:bmB.contains (.type "BaseException")=true) (hC:h.get? C=some (excClassObj nm q C N bs bm true sn sub ab col dd k0 k1 k2 k3 k5 newId))
  (fg:zbp (model prog w) C "__getattribute__" (some (.builtin "BaseException.__getattribute__")) h) (fa:zbp (model prog w) C "__getattr__" none h) (hf:zbp (model prog w) C name none h) (I:h.InstFk x C mA) (hv:mA name=some v) (hh:handedOut v=pure v) (hq:Q v ⟨h,g,d,t+1,os⟩) :
  wpAny (model prog w) A (getAttr (.ref x) name expr) Q E ⟨h,g,d,t,os⟩:=by
 obtain ⟨o,hx,hc,_⟩:=id I
 have f3:=FB.ga.bind (.ref x)
 have hx0:(expr && onTheHeap (Value.builtin "BaseException.__getattribute__"))=false:=by cases expr <;> rfl
 have hx2:(Value.builtin "BaseException.__getattribute__" == Value.builtin "object.__getattribute__")=false:=by decide +kernel
 have hx1:(onTheHeap (Value.ref C) && Value.builtin "BaseException.__getattribute__" == Value.builtin "object.__getattribute__")=false:=by rw [hx2];rfl
 unfold getAttr
 repeat (any_goals (first | assumption | (with_reducible refine wpAny_loadPart_at hx ?_;rw [hc]) | with_reducible refine fg.at ?_ | with_reducible refine fa.at ?_ | wp_step))
 refine codeAny_call_builtin FB.ga.plain PySem.F.entry_bexc_ga (zfP T hb hC hx hc (zgF hC hf I hv ?_))
 repeat (any_goals (first | assumption | wp_step))
end
theorem mapF {o:Obj} {vs:Array Value} (f:Array Value->Array Value) (h:o.data=.fields vs):Obj.mapFields f o = { o with data:=.fields (f vs) }:=by
 obtain ⟨c,d,dt,sl⟩:=o
 cases h
 rfl
def Tb (h:Heap) (e:Addr) (vs:Array Value) (fl:Value):Prop:=∃ T oT ts,vs[1]?=some (.ref T)/\T ≠ e/\h.get? T=some oT/\oT.data=.fields ts/\ts[3]?=some fl
def Fly (h:Heap) (e:Addr):Prop:=∃ oe vs,h.get? e=some oe/\oe.data=.fields vs/\(vs[1]?=some .none ∨ Tb h e vs .none)
structure zhf (fs:List Addr) (e:Addr) (h h':Heap):Prop where
 keep:∀ b o,b ≠ e->b ∉ fs->h.get? b=some o->h'.get? b=some o
 slot:∀ b o,b ≠ e->h.get? b=some o->∃ sl,h'.get? b=some { o with slots:=sl }
 own:∀ oe,h.get? e=some oe->∃ vs,h'.get? e=some { oe with data:=.fields vs }
section
variable {M:Model} {A:Around} {E:Value->Shared->Prop} {s:Shared} {base:Heap} {env:Env} {outer:List Env} {L e:Addr}
theorem newEntry {oe:Obj} {vs:Array Value} {head:Value} {hadNext:Bool} {Q:Unit->Shared->Prop} (hfr:A.frames=some (env :: outer)) (hl:s.heap.FunFrames base (env :: outer)) (hf:env.frame=some L)
  (he:s.heap.get? e=some oe) (hd:oe.data=.fields vs) (hsz:1 < vs.size)
  (h:∀ h',zhf (frs (env :: outer)) e s.heap h'->Fly h' e->Q () { s with heap:=h' }) :
  wpAny M A (do let a ← frameOf env;let pl ← entryPlaceOf L hadNext;let b ← EntryCells.newEntry head a .none (rawInt L) .none pl;setField (.ref e) 1 b) (fun _ s'=>wpAny M A (setFlight (.ref e) none) Q E s') E s:=by
 have hene:e ∉ (env :: outer).filterMap (·.frame):=fun hm=>by
  obtain ⟨_,o,ho,hnf⟩:=hl.mem hm
  rw [he] at ho;injection ho with ho;subst ho;exact hnf vs hd
 refine wpAny_bind (wpAny_frameOf_fun hfr hl hf fun h₁ hs₁=>?_)
 refine wpAny_bind (wpAny_entryPlaceOf fun pl hpl=>?_)
 unfold EntryCells.newEntry newFields
 refine wpAny_bind (wpAny_newObj_type ?_ (hpl.sizeOk5 _ _ _ _ _))
 have he₁ : h₁.get? e=some oe:=(hs₁.2.1 e hene).trans he
 have he₂:=Heap.get?_push_of_some (h:=h₁) { cls:=.type "traceback", dict:=none,data:=.fields ([head,.ref L,.none,rawInt L,.none] ++ (if pl.isEmpty then List.replicate 6 Value.none else pl)).toArray } he₁
 refine wpAny_setField he₂ hd hsz ?_
 have hTe:h₁.objs.size ≠ e:=Nat.ne_of_gt (Heap.lt_size he₁)
 have hd₃:=Obj.data_mapFields hd (·.setIfInBounds 1 (Value.ref h₁.objs.size))
 have he₃:=Heap.get?_update_self (Obj.mapFields (·.setIfInBounds 1 (Value.ref h₁.objs.size))) he₂ (Obj.isFreed_of_fields hd₃)
 have hT₃:=(Heap.get?_update_other (h₁.push { cls:=.type "traceback", dict:=none,data:=.fields ([head,.ref L,.none,rawInt L,.none] ++ (if pl.isEmpty then List.replicate 6 Value.none else pl)).toArray })
  (Obj.mapFields (·.setIfInBounds 1 (Value.ref h₁.objs.size))) (Ne.symm hTe)).trans (Heap.get?_push_size h₁ rfl)
 unfold setFlight
 refine wpAny_bind (wpAny_field he₃ hd₃ (x:=.ref h₁.objs.size) (by simp [hsz]) ?_)
 rw [if_pos (show (Value.ref h₁.objs.size != Value.none)=true from by simp)]
 refine wpAny_setField hT₃ rfl (by simp only [List.size_toArray,List.length_append,List.length_cons,List.length_nil] <;> omega) (h _ ?_ ?_)
 ·have keep:∀ b o,b ≠ e->h₁.get? b=some o ->
    (((h₁.push { cls:=.type "traceback", dict:=none,data:=.fields ([head,.ref L,.none,rawInt L,.none] ++ (if pl.isEmpty then List.replicate 6 Value.none else pl)).toArray }).update e (Obj.mapFields (·.setIfInBounds 1 (Value.ref h₁.objs.size)))).update h₁.objs.size
     (Obj.mapFields (·.setIfInBounds 3 ((none:Option Addr).elim Value.none fun f=>rawInt f)))).get? b=some o:=fun b o hbe hb=>by
   have hbT:h₁.objs.size ≠ b:=Nat.ne_of_gt (Heap.lt_size hb)
   rw [Heap.get?_update_other _ _ hbT,Heap.get?_update_other _ _ (Ne.symm hbe)]
   exact Heap.get?_push_of_some _ hb
  refine ⟨fun b o hb hf hg=>keep b o hb ((hs₁.2.1 b hf).trans hg),fun b o hb hg=>?_,fun oe' z=>?_⟩
  ·obtain ⟨sl,hs⟩:=hs₁.2.2 b o hg
   exact ⟨sl,keep b _ hb hs⟩
  ·rw [he] at z;cases z
   exact ⟨_,by rw [Heap.get?_update_other _ _ hTe,he₃,mapF _ hd]⟩
 ·refine ⟨_,_,?_,hd₃,.inr ⟨h₁.objs.size,_,_,by simp [hsz],hTe,Heap.get?_update_self _ hT₃ (Obj.isFreed_of_fields (Obj.data_mapFields rfl _)),Obj.data_mapFields rfl _,by first | (simp;done) | (rcases hpl with rfl | ⟨_,_,_,_,_,_,_,rfl⟩ <;> simp)⟩⟩
  rw [Heap.get?_update_other _ _ hTe];exact he₃
theorem note {Q:Unit->Shared->Prop} (hfr:A.frames=some (env :: outer)) (hl:s.heap.FunFrames base (env :: outer)) (hf:env.frame=some L) (x:Fly s.heap e)
  (h:∀ h',zhf (frs (env :: outer)) e s.heap h'->Fly h' e->Q () { s with heap:=h' }):wpAny M A (noteFrame (.ref e) env) (fun _ s'=>wpAny M A (setFlight (.ref e) none) Q E s') E s:=by
 obtain ⟨oe,vs,he,hd,h1⟩:=x
 unfold noteFrame
 simp only [hf]
 rcases h1 with h1 | ⟨T,oT,ts,h1,hTe,hT,hdT,h3⟩
 ·refine wpAny_bind (wpAny_field he hd h1 ?_)
  rw [if_neg (by decide)]
  exact newEntry hfr hl hf he hd (Array.getElem?_eq_some_iff.mp h1).1 h
 ·refine wpAny_bind (wpAny_field he hd h1 ?_)
  rw [if_pos (show (Value.ref T != Value.none)=true from by simp)]
  refine wpAny_bind (wpAny_field hT hdT h3 ?_)
  rw [if_neg (show ¬ ((Value.none == rawInt L)=true) from by simp [rawInt])]
  obtain ⟨hs3,hv3⟩:=Array.getElem?_eq_some_iff.mp h3
  refine wpAny_bind (wpAny_setField hT hdT hs3 ?_)
  have same:∀ b o,s.heap.get? b=some o->(s.heap.update T (Obj.mapFields (·.setIfInBounds 3 Value.none))).get? b=some o:=fun b o hb=>by
   by_cases hbT:b=T
   ·subst hbT
    rw [hT] at hb;cases hb
    rw [Heap.get?_update_self _ hT (Obj.isFreed_of_fields (Obj.data_mapFields hdT _)),mapF _ hdT]
    have:ts.setIfInBounds 3 Value.none=ts:=by
     apply Array.ext_getElem?
     intro i
     rw [Array.getElem?_setIfInBounds]
     split
     ·rename_i z
      subst z
      exact h3.symm
     ·rfl
    rw [this,← hdT]
   ·rw [Heap.get?_update_other _ _ (Ne.symm hbT)];exact hb
  exact newEntry hfr (hl.of_keeps fun b o hb hnf=>⟨o,same b o hb,rfl⟩) hf (same e oe he) hd (Array.getElem?_eq_some_iff.mp h1).1
   fun h' p t=>h h' ⟨fun b o a c g=>p.keep b o a c (same b o g),fun b o a g=>p.slot b o a (same b o g),fun oe' z=>p.own oe' (same e oe' z)⟩ t
theorem zng {Q:Unit->Shared->Prop} (hfr:A.frames=some (env :: outer)) (hl:s.heap.FunFrames base (env :: outer)) (hf:env.frame=some L) (x:Fly s.heap e)
  (h:∀ h',zhf (frs (env :: outer)) e s.heap h'->Fly h' e->Q () { s with heap:=h' }):wpAny M A (leaving env (.ref e)) Q E s:=by
 unfold leaving
 exact wpAny_bind (note hfr hl hf x h)
end
end L2
namespace L2
open PySem PySem.Spec PyProof.Rows PySem.Calls PyProof.V
def XO (fr:Bool) (e C:Addr) (dd:Option Addr):Heap->Prop:=fun h=>∃ vs sl,h.get? e=some { cls:=.ref C,dict:=dd,data:=.fields vs,slots:=sl }/\(fr=true->vs[1]?=some .none/\∃ t0,vs[0]?=some (.ref t0))
theorem XO.ok {P:Program} {w:World} {H:Hp} {h:Heap} {fr:Bool} {e C:Addr} {dd:Option Addr} (x:XO fr e C dd h):zb6 P w H h e (.ext (XO fr e C dd)) :=
 ⟨x,let ⟨_,_,q,_⟩:=x;⟨_,q⟩,fun h1 h2 ⟨vs,sl,q,z⟩ k=>⟨vs,sl,k _ q,z⟩⟩
theorem XO.fly {h:Heap} {e C:Addr} {dd:Option Addr} (x:XO true e C dd h):Fly h e:=let ⟨vs,_,q,z⟩:=x;⟨_,vs,q,rfl,.inl (z rfl).1⟩
theorem XO.old {h:Heap} {fr:Bool} {e C:Addr} {dd:Option Addr} (x:XO fr e C dd h):XO false e C dd h:=let ⟨vs,sl,q,_⟩:=x;⟨vs,sl,q,fun z=>nomatch z⟩
def CX1 (P:Program) (w:World):CXT:=fun outer H s E v s'=>∃ e C dd H',v=.ref e/\s'.os=s.os/\AllBare s'.gens/\Un (frs outer) [] H H' s.heap s'.heap/\HOk P w H' s'.heap/\H' e=some (.ext (XO false e C dd))/\Fly s'.heap e/\E (.ref e) none H'
section
variable {X:Cx} {pins:List (Addr × Obj)} {σ : St} {H:Hp} {s:Shared} {e C:Addr} {dd:Option Addr} {h':Heap}
theorem Inv.passed (I:Inv X pins σ H s) (hx:H e=some (.ext (XO false e C dd))) (p:zhf (frs X.stack) e s.heap h'):Inv X pins σ H { s with heap:=h' }:=by
 have ne:∀ b,H b=none->b ≠ e:=fun b n z=>by rw [z,hx] at n;cases n
 refine I.call (g':=s.gens) (t':=s.toks) (d':=s.drawn) (ch:=[]) ⟨fun b o g n f _=>p.keep b o (ne b n) f g,fun b o g n _ _=>p.slot b o (ne b n) g,fun b o _ n _=>n,fun b o g _=>?_,fun _ _ z=>z,fun _ _ _ z=>z,fun b ps z=>⟨#[],by rw [z];simp⟩⟩ (fun a o q=>?_) I.bare fun b z=>absurd z (by simp)
 ·by_cases hb:b=e
  ·subst hb
   obtain ⟨vs,z⟩:=p.own o g
   exact ⟨_,z⟩
  ·obtain ⟨sl,z⟩:=p.slot b o hb g
   exact ⟨_,z⟩
 ·by_cases ha:a=e
  ·subst ha
   rw [hx] at q;cases q
   obtain ⟨⟨vs,sl,g,_⟩,_,_⟩:=I.hok a _ hx
   obtain ⟨vs',z⟩:=p.own _ g
   exact XO.ok ⟨vs',sl,z,fun z=>nomatch z⟩
  ·refine (I.hok a o q).stay (fun b u hb g=>p.keep b u ?_ (fun z=>?_) g) (fun _ z=>z) fun _ _ z=>z
   ·rcases hb with rfl | hb
    ·exact ha
    ·rintro rfl;rw [hx] at hb;cases hb
   ·have n:=I.stkFree b z
    rcases hb with rfl | hb
    ·rw [q] at n;cases n
    ·rw [hb] at n;cases n
def zeN (X:Cx) (KX:V->St->Hp->Prop):Prop:=∀ (pins:List (Addr × Obj)) (σ : St) (H:Hp) (s:Shared) (e C:Addr) (dd:Option Addr),Inv X pins σ H s->H e=some (.ext (XO false e C dd))->Fly s.heap e->KX (.ref e) σ H->X.xe (.ref e) s
theorem zbz {P:Program} {w:World} {K:PySem.W.Frag} {mg:Str->Option Value} {base:Heap} {N:List Str} {qual:Str} {scope:Scope} {f:Addr} {cd:Value} {A:Around} {outer:List Env} {s₀ : Shared} {H₀ : Hp} {E:XK} :
  zeN (cxOf (CX1 P w) P w K mg base N qual scope f cd A outer s₀ H₀ E) fun v _ H=>∃ e,v=.ref e/\E (.ref e) none H:=by
 intro pins σ H s e C dd I hx fl ⟨e',ee,hE⟩
 cases ee
 refine zng (L:=s₀.heap.objs.size) I.ok.frames I.stack rfl fl fun h' p fl'=>?_
 have I':=I.passed hx p
 exact ⟨e,C,dd,H,rfl,I'.os,I'.bare,I'.base,I'.hok,hx,fl',hE⟩
theorem zeN.pass {KX:V->St->Hp->Prop} {E:XK} {v:Value} {s':Shared} (hw:zeN X KX) (I:Inv X pins σ H s) (h:CX1 X.prog X.w X.stack H s E v s') (hk:∀ e H,E (.ref e) none H->KX (.ref e) σ H):X.xe v s':=by
 obtain ⟨e,C,dd,H',rfl,os,bare,un,hok,hx,fl,hE⟩:=h
 obtain ⟨hh,g,d,t,os'⟩:=s'
 obtain rfl:os'=s.os:=os
 exact hw pins σ H' _ e C dd (I.call (h':=hh) (g':=g) (d':=d) (t':=t) (ch:=[]) un hok bare (fun b z=>absurd z (by simp))) hx fl (hk e H' hE)
end
abbrev VB:List Value:=[.type "ValueError", .type "Exception", .type "BaseException", .type "object"]
structure XCls (M:Model) (base:Heap) (C:Addr) (bm:List Value) (fI:Addr):Prop where
 obj:∃ nm q N bs sn sub ab col dd k0 k1 k2 k3 k5,base.get? C=some (excClassObj nm q C N bs bm true sn sub ab col dd k0 k1 k2 k3 k5 "ValueError.__new__")
 tail:Tail VB bm
 init:zbp M C "__init__" (some (.ref fI)) base
 fn:∃ o,base.get? fI=some o/\o.cls=.type "function"
 sa:zbp M C "__setattr__" (some (.builtin "object.__setattr__")) base
 ga:zbp M C "__getattribute__" (some (.builtin "BaseException.__getattribute__")) base
 gh:zbp M C "__getattr__" none base
 cl:zbp M C "__class__" (some (.builtin "object.__class__")) base
 pass:∀ v,refuseLoop v "__setattr__" bm=pure ()
section
variable {X:Cx} {k:Nat} {f C:Addr} {fd:FuncData} {ps:List Str} {sp:Sp} {x:Str} {p pos cpos:Pos} {e:Expr} {es:List Expr} {t:TA} {bm:List Value}
theorem ziz {pins:List (Addr × Obj)} {σ : St} {H:Hp} {s:Shared} {Q:VK} {us:List Value} {vs:List V} (M:XCls (model X.prog X.w) X.base C bm f) (F:FnOk X.prog X.w X.K X.mg X.base CX0 k f fd ps sp) (hr:Room (k+1) X.A) (hb:zcU X.K fd ps [])
  (I:Inv X pins σ H s) (r:Vals vs us) (hl:us.length<=sizeLine)
  (h:∀ a,H a=none->sp (.ref a :: vs) (upd H a (.ext (XO true a C none))) (fun v H2=>v=.non/\Q (.ref a) H2) E0) :
  wpAny (model X.prog X.w) X.A (call (.ref C) us) (EP X pins σ Q) X.xe s:=by
 obtain ⟨nm,q,N,bs,sn,sub,ab,col,dd,k0,k1,k2,k3,k5,hC⟩:=M.obj
 obtain ⟨oI,hfI,hfc⟩:=M.fn
 obtain ⟨hp,g,d,tk,os⟩:=s
 refine zix PySem.F.excBase_ValueError M.tail (I.bk _ _ hC) (fI:=f) (M.init.keeps I.bk) (I.bk _ _ hfI) hfc (fun h' a made hz=>?_) hl
 obtain ⟨t',he,htn,ht⟩:=made.there
 have I2:Inv X pins σ (upd H a (.ext (XO true a C none))) ⟨h',g,d,tk,os⟩:=I.laid (t':=tk) made.keeps hz (XO.ok ⟨_,_,he,fun _=>⟨rfl,_,rfl⟩⟩)
 have hq:=h a (I.hok.fresh hz)
 have r2:Vals (V.ref a :: vs) (Value.ref a :: us):=.cons rfl r
 have hl2:(Value.ref a :: us ++ []).length=ps.length:=by
  have e:=r2.length
  rw [F.len _ _ _ _ hq] at e
  rw [List.append_nil]
  exact e.symm
 refine wpAny_call (codeAny_mono (F.run _ X.stack _ _ ⟨Value.ref a :: us,[]⟩ (Value.ref a :: us) _ _ E0 (hr.make C us []) (I2.env0.make C us []) (by have:=hb _ (Value.ref a :: us) I2.kIn hl2;rwa [List.append_nil] at this) r2 hq) fun r s' hq'=>?_)
 cases r with
 | error e=>exact hq'.elim
 | ok fl =>
  cases fl with
  | ret u =>
   obtain ⟨v,H',I3,rv,ev,q3⟩:=I2.after hq'
   subst ev
   exact ⟨rv,⟨V.ref a,H',I3,rfl,q3⟩⟩
  | next=>exact False.elim hq'
  | brk=>exact False.elim hq'
  | cont=>exact False.elim hq'
def tMkX (C:Addr) (sp:Sp) (t:TA):TE:=fun σ H Q=>t σ H fun vs H1=>vs.length<=sizeLine/\∀ a,H1 a=none->sp (.ref a :: vs) (upd H1 a (.ext (XO true a C none))) (fun v H2=>v=.non/\Q (.ref a) H2) E0
theorem zke (M:XCls (model X.prog X.w) X.base C bm f) (F:FnOk X.prog X.w X.K X.mg X.base CX0 k f fd ps sp) (hr:Room (k+1) X.A) (hg:Gl X x) (hm:X.mg x=some (.ref C)) (hk:PySem.W.keepIn X.K (.ref C)=true) (hb:zcU X.K fd ps [])
  (ha:PA X (e :: es) t) (hdb:(x == ("__debug__" : Str))=false:=by decide) (he:starEach (e :: es) X.env=(false,eval e X.env) :: starEach es X.env:=by rfl) (hpl:(backTo pos (starEach es X.env)).any (·.1)=false:=by rfl) :
  PE X (.Call (.Name x p) (e :: es) [] pos) (tMkX C sp t):=by
 intro pins s σ H Q I h
 refine wpAny_Call_Name_kw (zdH I hg hm ?_ hdb)
 refine PySem.W.callWith_K (h₀:=X.base) I.ok.mod.kin hk (thn (ha pos pins s σ H _ I h) fun us s1 ⟨vs,H1,I1,r,hl,q⟩=>⟨I1.kIn,?_⟩) he hpl
 exact ziz M F hr hb I1 r (by show us.length<=sizeLine;rw [← r.length];exact hl) q
def znh (KC:Addr->Prop) (te:TE) (KX:V->St->Hp->Prop):TS:=fun _ σ H=>te σ H fun v H2=>∃ a C dd,v=.ref a/\KC C/\H2 a=some (.ext (XO true a C dd))/\KX (.ref a) σ (upd H2 a (.ext (XO false a C dd)))
theorem ziA {M:Model} {A:Around} {E:Value->Shared->Prop} {env:Env} {s:Shared} {Q:Flow->Shared->Prop} {y:Sem Value}
  (hh:A.handled=none) (h:wpAny M A y (fun v s₁=>∃ a C dd vs sl nm q N bs bm hdct sn sub ab col dd' k0 k1 k2 k3 k5 newId,v=.ref a/\bm.contains (.type "BaseException")=true/\s₁.heap.get? C=some (excClassObj nm q C N bs bm hdct sn sub ab col dd' k0 k1 k2 k3 k5 newId) /\
   s₁.heap.get? a=some { cls:=.ref C,dict:=dd,data:=.fields vs,slots:=sl }/\vs[1]?=some .none/\E (.ref a) s₁) E s) :
  wpAny M A (raiseStmt env (some y) none) Q E s:=by
 unfold raiseStmt
 refine wpAny_bind (wpAny_mono h (fun v s₁ h₁=>?_) fun _ _ x=>x)
 obtain ⟨a,C,dd,vs,sl,nm,q,N,bs,bm,hdct,sn,sub,ab,col,dd',k0,k1,k2,k3,k5,newId,rfl,hbase,hC,he,h1,hE⟩:=h₁
 have hcB:(Value.ref C :: bm).contains (.type "BaseException")=true:=by rw [List.contains_cons,hbase,Bool.or_true]
 obtain ⟨hp,g,d,tk,os⟩:=s₁
 repeat (first | with_reducible refine wpAny_field he rfl h1 ?_ | with_reducible refine wpAny_loadPart_at he ?_ | with_reducible refine wpAny_loadPart_at hC ?_ | (with_reducible refine wpAny_isSubtype_exc hC ?_;rw [hcB]) | wp_step)
 exact wpAny_raiseNew_none hh hE
theorem Inv.aged {pins:List (Addr × Obj)} {σ : St} {H:Hp} {s:Shared} {a C:Addr} {dd:Option Addr} (I:Inv X pins σ H s) (hx:H a=some (.ext (XO true a C dd))):Inv X pins σ (upd H a (.ext (XO false a C dd))) s:=by
 obtain ⟨x,_,_⟩:=I.hok a _ hx
 have:=I.write (x:=a) (e:=a) (o:=.ext (XO false a C dd)) (t':=s.toks) (h':=s.heap) (by rw [hx];trivial) (.inl rfl) (fun _ _ _ q=>q) (let ⟨_,_,q,_⟩:=x;⟨_,q⟩) (XO.ok x.old)
 exact this
theorem zkf {KC:Addr->Prop} {te:TE} {KX:V->St->Hp->Prop} {exc:Expr} (hc:X.calm=true) (hcls:∀ C,KC C->∃ bm fI,XCls (model X.prog X.w) X.base C bm fI) (hw:zeN X KX) (ht:PE X exc te):PS X (.Raise (some exc) none pos) (znh KC te KX):=by
 intro pins s σ H D I h
 rw [arm_exec_Raise]
 refine wpAny_bind (wpAny_standAt ?_)
 show wpAny _ _ (raiseStmt X.env (some (do let v ← eval exc X.env;standAt pos;pure v)) none) _ _ _
 refine ziA (I.ok.hd hc) (wpAny_bind (thn (ht pins s σ H _ I h) fun u s1 ⟨v,H2,I2,rv,a,C,dd,ev,kc,hx,kx⟩=>wpAny_bind (wpAny_standAt (wpAny_pure ?_))))
 subst ev
 obtain rfl:u=Value.ref a:=rv
 obtain ⟨bm,fI,M⟩:=hcls C kc
 obtain ⟨nm,q,N,bs,sn,sub,ab,col,dd',k0,k1,k2,k3,k5,hC⟩:=M.obj
 obtain ⟨⟨vs,sl,g,z⟩,_,_⟩:=I2.hok a _ hx
 exact ⟨a,C,dd,vs,sl,nm,q,N,bs,bm,true,sn,sub,ab,col,dd',k0,k1,k2,k3,k5,_,rfl,M.tail _ _ rfl,I2.bk _ _ hC,g,(z rfl).1,hw pins σ _ s1 a C dd (I2.aged hx) zat (XO.fly ⟨vs,sl,g,z⟩) kx⟩
end
section
variable {M:Model} {A:Around} {E:Value->Shared->Prop} {h:Heap} {g:Array GenState} {d:Drawn} {t:Nat} {os:OsState}
variable {nm q nm' q':Str} {C N D N' a:Addr} {bs bm bs' bm':List Value} {hdct hdct':Bool} {sn sn':List Str} {sub sub':List Value} {ab ab':Bool} {col col':Option Bool} {dd dd':Option Addr} {k0 k1 k2 k3 k5 j0 j1 j2 j3 j5:Option Value} {newId newId':String}
theorem zkg {o:Obj} {b:Bool} {Q:Bool->Shared->Prop} (hC:h.get? C=some (excClassObj nm q C N bs bm hdct sn sub ab col dd k0 k1 k2 k3 k5 newId)) (hD:h.get? D=some (excClassObj nm' q' D N' bs' bm' hdct' sn' sub' ab' col' dd' j0 j1 j2 j3 j5 newId'))
  (hbase:bm'.contains (.type "BaseException")=true) (ha:h.get? a=some o) (hc:o.cls=.ref C) (hb:(Value.ref C :: bm).contains (.ref D)=b) (hq:Q b ⟨h,g,d,t,os⟩):wpAny M A (excMatches (.ref a) (.ref D)) Q E ⟨h,g,d,t,os⟩:=by
 have hcB:(Value.ref D :: bm').contains (.type "BaseException")=true:=by rw [List.contains_cons,hbase,Bool.or_true]
 have f1:=tc_notTuple
 have f2:=tc_sub
 have hT:(⟨h,g,d,t,os⟩:Shared).TypeIs (.ref D) "type" := ⟨_,hD,rfl⟩
 unfold excMatches
 repeat (any_goals (first | assumption | (with_reducible refine wpAny_loadPart_at ha ?_;rw [hc]) | with_reducible refine wpAny_loadPart_at hD ?_ | with_reducible refine wpAny_loadPart_at hC ?_ | (with_reducible refine wpAny_isSubtype_exc hD ?_;rw [hcB]) | (with_reducible refine wpAny_isSubtype_exc hC ?_;rw [hb]) | wp_step))
 cases b <;> (wp_walk;exact hq)
end
def zni (sp:Sp) (KX:V->St->Hp->Prop) (t:TA):TE:=fun σ H Q=>t σ H fun vs H1=>sp vs H1 Q fun v _ H'=>∀ a,v=.ref a->KX (.ref a) σ H'
section
variable {X:Cx} {k:Nat} {f:Addr} {fd:FuncData} {ps:List Str} {sp:Sp} {x n:Str} {p pos np hpos:Pos} {e:Expr} {es:List Expr} {t:TA} {KX:V->St->Hp->Prop}
theorem zkh (F:FnOk X.prog X.w X.K X.mg X.base (CX1 X.prog X.w) k f fd ps sp) (hr:Room k X.A) (hg:Gl X x) (hm:X.mg x=some (.ref f)) (hk:PySem.W.keepIn X.K (.ref f)=true) (hb:zcU X.K fd ps []) (hw:zeN X KX)
  (ha:PA X (e :: es) t) (hdb:(x == ("__debug__" : Str))=false:=by decide) (he:starEach (e :: es) X.env=(false,eval e X.env) :: starEach es X.env:=by rfl) (hpl:(backTo pos (starEach es X.env)).any (·.1)=false:=by rfl) :
  PE X (.Call (.Name x p) (e :: es) [] pos) (zni sp KX t):=by
 intro pins s σ H Q I h
 refine wpAny_Call_Name_kw (zdH I hg hm ?_ hdb)
 refine PySem.W.callWith_K (h₀:=X.base) I.ok.mod.kin hk (thn (ha pos pins s σ H _ I h) fun us s1 ⟨vs,H1,I1,r,q⟩=>⟨I1.kIn,?_⟩) he hpl
 have hl:(us ++ []).length=ps.length:=by rw [List.append_nil,← r.length];exact F.len _ _ _ _ q
 refine wpAny_call (codeAny_mono (F.run X.A X.stack s1 H1 ⟨us,[]⟩ us vs Q _ hr I1.env0 (by have:=hb s1 us I1.kIn hl;rwa [List.append_nil] at this) r q) fun r s' hq=>?_)
 cases r with
 | error e=>exact hw.pass (E:=fun v _ H'=>∀ a,v=.ref a->KX (.ref a) σ H') I1 hq fun a H' z=>z a rfl
 | ok fl =>
  cases fl with
  | ret u=>exact I1.after hq
  | next=>exact False.elim hq
  | brk=>exact False.elim hq
  | cont=>exact False.elim hq
abbrev Cx.suite (X:Cx) (a:Addr):Cx:={ X with A:=X.A.mark (some (.ref a)),calm:=false,xe:=fun _ _=>False }
theorem Cx.Ok.suite (ok:X.Ok) (a:Addr):(X.suite a).Ok :=
 ⟨ok.mod,ok.kind,ok.glob,ok.blt,ok.above,ok.inj,ok.has,ok.cab,fun z=>(nomatch z),ok.frames,ok.stk,ok.exf,ok.bs,ok.bsz,ok.noex,ok.exfs,ok.funs,ok.frf⟩
theorem Inv.suite {pins:List (Addr × Obj)} {σ : St} {H:Hp} {s:Shared} (I:Inv X pins σ H s) (a:Addr):Inv (X.suite a) pins σ H s:=⟨I.ok.suite a,I.os,I.bare,I.base,I.loc,I.cell,I.free,I.freeC,I.pin,I.hok,I.len⟩
theorem Inv.unsuite {pins:List (Addr × Obj)} {σ σ':St} {H H':Hp} {s s':Shared} {a:Addr} (I0:Inv X pins σ H s) (I:Inv (X.suite a) pins σ' H' s'):Inv X pins σ' H' s':=⟨I0.ok,I.os,I.bare,I.base,I.loc,I.cell,I.free,I.freeC,I.pin,I.hok,I.len⟩
theorem zdp {pins:List (Addr × Obj)} {σ : St} {H:Hp} {s:Shared} {i:Nat} {Q:Unit->Shared->Prop} {E:Value->Shared->Prop} {A:Around} (I:Inv X pins σ H s) (hN:X.N.Nodup) (hi:X.N[i]?=some n) (hl:X.env.kindOf n=some .local)
  (h:∀ s',Inv X pins (σ.set i none) H s'->Q () s'):wpAny (model X.prog X.w) A (do bindName X.env n .none;unbindBehindTheSuite X.env n pos) Q E s:=by
 have hcls:(X.env.scope.kind == .class || (X.env.scope.kind == .module && X.env.locals != X.env.globals))=false:=by rw [I.ok.kind];rfl
 refine wpAny_bind (wpAny_bindName (zd7 (v:=.non) (u:=.none) I hN hi (.inl hl) rfl (fun s1 I1=>?_) (.inr hl)))
 unfold unbindBehindTheSuite
 refine wpAny_onRaise ?_
 unfold unbindName
 refine wpAny_bind (wpAny_point (wpAny_bind ?_))
 unfold deleteName
 simp only [hl,hcls]
 rw [if_neg (by decide)]
 obtain ⟨m,hn,hlk⟩:=id I1.loc
 have hiσ : i < σ.length:=by rw [I.len];exact (List.getElem?_eq_some_iff.mp hi).1
 refine wpAny_bind (wpAny_nsDel_keeps hn fun h' v hn' hs=>?_)
 have hsome:(m n).isSome=true:=by
  obtain ⟨u,_,l⟩:=hlk i n .non hi (by rw [List.getElem?_set_self hiσ]) (.inl hl)
  rcases l with ⟨_,l⟩ | ⟨k,_⟩
  ·rw [l];rfl
  ·rcases k with k | k
   ·rw [hl] at k;cases k
   ·rw [hl] at k;cases k
 rw [hsome]
 simp only [if_true,Bool.not_true,Bool.false_eq_true,if_false]
 refine wpAny_pure (wpAny_point (h _ ?_))
 obtain ⟨oL,_,_,hoL,_⟩:=id hn
 have neL:∀ b o,X.s₀.heap.get? b=some o->b ≠ X.env.locals:=fun b o e=>Nat.ne_of_lt (Nat.lt_of_lt_of_le (Heap.lt_size e) I.ok.above)
 refine ⟨I1.ok,I1.os,I1.bare,⟨fun b o e n hb hx=>(hs.2 b (neL b o e)).trans (I1.base.keep b o e n hb hx),fun b o e n hb hx=>?_,I1.base.free,fun b o e hx=>?_,I1.base.tups,I1.base.frzs,I1.base.tbls⟩,⟨_,hn',fun j y v' e1 e2 e3=>?_⟩,fun y c e=>?_,I1.free,I1.freeC,fun p hp=>?_,fun b ob e=>?_,?_⟩
 ·obtain ⟨sl,e1⟩:=I1.base.slot b o e n hb hx
  exact ⟨sl,(hs.2 b (neL b o e)).trans e1⟩
 ·obtain ⟨o',e1⟩:=I1.base.there b o e hx
  exact ⟨o',(hs.2 b (neL b o e)).trans e1⟩
 ·have hj:j ≠ i:=by
   rintro rfl
   rw [List.getElem?_set_self hiσ] at e2
   cases e2
  rw [List.getElem?_set_ne (Ne.symm hj)] at e2
  obtain ⟨u',r',q⟩:=hlk j y v' e1 (by rw [List.getElem?_set_ne (Ne.symm hj)];exact e2) e3
  have hy:y ≠ n:=by
   rintro rfl
   obtain ⟨h1,h2⟩:=List.getElem?_eq_some_iff.mp e1
   obtain ⟨h3,h4⟩:=List.getElem?_eq_some_iff.mp hi
   exact hj ((List.getElem_inj hN).mp (h2.trans h4.symm))
  refine ⟨u',r',?_⟩
  rcases q with ⟨q1,q2⟩ | ⟨k,c,e,z⟩
  ·exact .inl ⟨q1,(if_neg hy).trans q2⟩
  ·obtain ⟨o,ho,hd⟩:=z
   exact .inr ⟨k,c,e,o,(hs.2 c (I1.cne y c e)).trans ho,hd⟩
 ·obtain ⟨v',o,ho,hd⟩:=I1.cell y c e
  exact ⟨v',o,(hs.2 c (I1.cne y c e)).trans ho,hd⟩
 ·obtain ⟨a,b,c,d⟩:=I1.pin p hp
  exact ⟨(hs.2 _ c).trans a,b,c,d⟩
 ·refine (I1.hok b ob e).stay (fun c w' hc q=>(hs.2 c ?_).trans q) (fun _ q=>q) fun _ _ q=>q
  rintro rfl
  rcases hc with rfl | hc
  ·rw [I1.free] at e;cases e
  ·rw [I1.free] at hc;cases hc
 ·rw [List.length_set];exact I.len
theorem zhM {M:Model} {A:Around} {E:Value->Shared->Prop} {s:Shared} {a:Addr} {Q:Unit->Shared->Prop} (fl:Fly s.heap a) (h:∀ h',(∀ b o,s.heap.get? b=some o->h'.get? b=some o)->Q () { s with heap:=h' }):wpAny M A (setFlight (.ref a) none) Q E s:=by
 obtain ⟨oe,vs,he,hd,h1⟩:=fl
 unfold setFlight
 rcases h1 with h1 | ⟨T,oT,ts,h1,hTe,hT,hdT,h3⟩
 ·refine wpAny_bind (wpAny_field he hd h1 ?_)
  rw [if_neg (by decide)]
  exact wpAny_pure (h s.heap fun _ _ q=>q)
 ·obtain ⟨hs3,hv3⟩:=Array.getElem?_eq_some_iff.mp h3
  refine wpAny_bind (wpAny_field he hd h1 ?_)
  rw [if_pos (show (Value.ref T != Value.none)=true from by simp)]
  refine wpAny_setField hT hdT hs3 (h _ fun b o hb=>?_)
  by_cases hbT:b=T
  ·subst hbT
   rw [hT] at hb;cases hb
   rw [Heap.get?_update_self _ hT (Obj.isFreed_of_fields (Obj.data_mapFields hdT _)),mapF _ hdT]
   have:ts.setIfInBounds 3 Value.none=ts:=Array.setIfInBounds_same _ _ _ h3
   show some { oT with data:=.fields (ts.setIfInBounds 3 Value.none) }=_
   rw [this,← hdT]
  ·rw [Heap.get?_update_other _ _ (Ne.symm hbT)];exact hb
def tExc (KC:Addr->List Value->Prop) (D:Addr) (i:Nat) (ts:TS) (Dn:Ends):V->St->Hp->Prop:=fun v σ H=>∃ a C dd bm,v=.ref a/\KC C bm/\H a=some (.ext (XO false a C dd))/\(Value.ref C :: bm).contains (.ref D)=true /\
 ts { nx:=fun σ' H'=>Dn.nx (σ'.set i none) H',rt:=Dn.rt,bk:=fun σ' H'=>Dn.bk (σ'.set i none) H',ct:=fun σ' H'=>Dn.ct (σ'.set i none) H' } (σ.set i (some (.ref a))) H
def tTry (KC:Addr->List Value->Prop) (D:Addr) (i:Nat) (tb:(V->St->Hp->Prop)->TS) (ts:TS):TS:=fun Dn σ H=>tb (tExc KC D i ts Dn) Dn σ H
abbrev Cx.tried (X:Cx) (W:Value->Shared->Prop) (pins:List (Addr × Obj)):Cx:={ X with xe:=W,pn:=X.pn ++ pins }
theorem Inv.tried {pins:List (Addr × Obj)} {σ : St} {H:Hp} {s:Shared} (I:Inv X pins σ H s) (W:Value->Shared->Prop):Inv (X.tried W pins) [] σ H s :=
 ⟨⟨I.ok.mod,I.ok.kind,I.ok.glob,I.ok.blt,I.ok.above,I.ok.inj,I.ok.has,I.ok.cab,I.ok.hd,I.ok.frames,I.ok.stk,I.ok.exf,I.ok.bs,I.ok.bsz,I.ok.noex,I.ok.exfs,I.ok.funs,I.ok.frf⟩,I.os,I.bare,I.base,I.loc,I.cell,I.free,I.freeC,fun p hp=>I.pin p (by simpa using hp),I.hok,I.len⟩
theorem Inv.untried {pins pins':List (Addr × Obj)} {σ σ':St} {H H':Hp} {s s':Shared} {W:Value->Shared->Prop} (I0:Inv X pins σ H s) (I:Inv (X.tried W pins) pins' σ' H' s'):Inv X pins σ' H' s' :=
 ⟨I0.ok,I.os,I.bare,I.base,I.loc,I.cell,I.free,I.freeC,fun p hp=>I.pin p (List.mem_append_left _ hp),I.hok,I.len⟩
theorem znj {KC:Addr->List Value->Prop} {D fD:Addr} {bmD:List Value} {i:Nat} {tb:(V->St->Hp->Prop)->TS} {ts:TS} {body suite:List Stmt} {b₀ : Stmt} {st:List Env} (hstk:X.stack=X.env :: st) (hfr:X.env.frame=some X.env.locals)
  (hcls:∀ C bm,KC C bm->∃ fI,XCls (model X.prog X.w) X.base C bm fI) (hD:XCls (model X.prog X.w) X.base D bmD fD) (hg:Gl X x) (hm:X.mg x=some (.ref D)) (hN:X.N.Nodup) (hi:X.N[i]?=some n) (hl:X.env.kindOf n=some .local)
  (hb:∀ (KX:V->St->Hp->Prop) (W:Value->Shared->Prop) (pn:List (Addr × Obj)),zeN (X.tried W pn) KX->PSs (X.tried W pn) body (tb KX)) (hs:∀ a,PSs (X.suite a) (b₀ :: suite) ts) (hdb:(x == ("__debug__" : Str))=false:=by decide) :
  PS X (.Try body [.ExceptHandler (some (.Name x np)) (some n) (b₀ :: suite) hpos] [] [] pos) (tTry KC D i tb ts):=by
 intro pins s σ H Dn I h
 refine wpAny_Try_except ?_
 let W:Value->Shared->Prop:=fun v s1=>∃ a σ1 H1,v=.ref a/\Inv X pins σ1 H1 s1/\Fly s1.heap a/\tExc KC D i ts Dn (.ref a) σ1 H1
 have hw:zeN (X.tried W pins) (tExc KC D i ts Dn):=fun pins' σ1 H1 s1 a C dd I1 hx fl hk=>⟨a,σ1,H1,rfl,I.untried I1,fl,hk⟩
 refine wpAny_mono (hb _ W pins hw [] s σ H Dn (I.tried W) h) (fun f s1 h1=>?_) fun v s1 h1=>?_
 ·cases f with
  | next =>
   obtain ⟨σ',H',I',q⟩:=h1
   exact wpAny_execs_nil ⟨σ',H',I.untried I',q⟩
  | brk=>obtain ⟨σ',H',I',q⟩:=h1;exact ⟨σ',H',I.untried I',q⟩
  | cont=>obtain ⟨σ',H',I',q⟩:=h1;exact ⟨σ',H',I.untried I',q⟩
  | ret u=>obtain ⟨v,σ',H',I',r,q⟩:=h1;exact ⟨v,σ',H',I.untried I',r,q⟩
 ·obtain ⟨a,σ1,H1,rfl,I1,fl,a',C,dd,bm,ea,kc,hx,hm',q⟩:=h1
  cases ea
  obtain ⟨fI,XC⟩:=hcls C bm kc
  have hk:=I1.ok.frames
  rw [hstk] at hk
  have hS:=I1.stack
  rw [hstk] at hS
  refine note hk hS hfr fl fun h2 p2 fl2=>?_
  rw [← hstk] at p2
  have I2:=I1.passed hx p2
  refine wpAny_handleBy_cons (codeAny_handlers_test ?_) (by intro q;cases q)
  refine zdH (I2.suite a) hg hm ?_ hdb
  obtain ⟨nm,qn,N,bs,sn,sub,ab,col,dd1,k0,k1,k2,k3,k5,hC⟩:=XC.obj
  obtain ⟨nm',qn',N',bs',sn',sub',ab',col',dd2,j0,j1,j2,j3,j5,hD'⟩:=hD.obj
  obtain ⟨⟨vs,sl,ga,_⟩,_,_⟩:=I2.hok a _ hx
  refine zkg (I2.bk _ _ hC) (I2.bk _ _ hD') (hD.tail _ _ rfl) ga rfl hm' ?_
  refine codeAny_handlers_suite_as (zhM fl2 fun h3 k3=>?_)
  have I3:=I2.kept (t':=s1.toks) k3
  refine zd7 (v:=.ref a) I3 hN hi (.inl hl) rfl (fun s4 I4=>?_) (.inr hl)
  refine wpAny_mono (hs a pins s4 _ H1 _ (I4.suite a) q) (fun f s5 h5=>?_) fun _ _ z=>z.elim
  cases f with
  | next =>
   obtain ⟨σ',H',I',q'⟩:=h5
   exact zdp (I3.unsuite I') hN hi hl fun s6 I6=>⟨_,H',I6,q'⟩
  | brk =>
   obtain ⟨σ',H',I',q'⟩:=h5
   exact zdp (I3.unsuite I') hN hi hl fun s6 I6=>⟨_,H',I6,q'⟩
  | cont =>
   obtain ⟨σ',H',I',q'⟩:=h5
   exact zdp (I3.unsuite I') hN hi hl fun s6 I6=>⟨_,H',I6,q'⟩
  | ret u =>
   obtain ⟨v,σ',H',I',r,q'⟩:=h5
   exact zdp (I3.unsuite I') hN hi hl fun s6 I6=>⟨v,_,H',I6,r,q'⟩
end
section
variable {prog:Program} {w:World} {A:Around} {E:Value->Shared->Prop} {h:Heap} {g:Array GenState} {d:Drawn} {t:Nat} {os:OsState}
variable {nm q:Str} {C N a:Addr} {bs bm bmB:List Value} {hdct:Bool} {sn:List Str} {sub:List Value} {ab:Bool} {col:Option Bool} {dd:Option Addr} {k0 k1 k2 k3 k5:Option Value} {B newId initId nid:String}
theorem zgG (F:ExcBaseFacts B nid initId bmB) (T:Tail bmB bm) {M:Model} {oe:Obj} {rest:List Value} {Q:Unit->Shared->Prop}
  (hC:h.get? C=some (excClassObj nm q C N bs bm hdct sn sub ab col dd k0 k1 k2 k3 k5 newId)) (he:h.get? a=some oe) (hcls:oe.cls=.ref C) (hq:Q () ⟨h,g,d,t,os⟩) :
  wpAny M A (checkBuiltinCall initId ⟨.ref a :: rest,[]⟩) Q E ⟨h,g,d,t,os⟩:=by
 have hcB:(Value.ref C :: bm).contains (.type B)=true:=by rw [List.contains_cons,T _ _ F.hasB,Bool.or_true]
 have hshort:=F.noStar
 simp only [checkBuiltinCall,F.initKind,F.initSplit,F.initRow]
 repeat (first | (with_reducible refine wpAny_loadPart_at he ?_;rw [hcls]) | with_reducible refine wpAny_loadPart_at hC ?_ | (with_reducible refine wpAny_isSubtype_exc hC ?_;rw [hcB]) | wp_step)
 refine wpAny_onRaise ?_
 rw [show ∀ (x1 x2:String) (n:Nat),Bind.check ⟨.positional, "*", B,.self,[⟨"args", .varPos,false⟩]⟩ x1 x2 n (List.map (fun x=>x.fst) ({ pos:=Value.ref a :: rest }:Args).kw)=pure () from
  fun _ _ n=>check_star_args _ _ _ _ _ _]
 exact wpAny_pure hq
theorem zhN (F:ExcBaseFacts B nid initId bmB) (T:Tail bmB bm) {oe:Obj} {vs:Array Value} {u:Value} {Q:Value->Shared->Prop}
  (hC:h.get? C=some (excClassObj nm q C N bs bm hdct sn sub ab col dd k0 k1 k2 k3 k5 newId)) (he:h.get? a=some oe) (hcls:oe.cls=.ref C) (hd:oe.data=.fields vs) {t0:Addr} (h0:vs[0]?=some (.ref t0))
  (hq:∀ h',(∀ b o,b ≠ a->h.get? b=some o->h'.get? b=some o)->(∃ y,h'.get? a=some { oe with data:=.fields (vs.setIfInBounds 0 (.ref y)) })->Q .none ⟨h',g,d,t,os⟩) :
  wpAny (model prog w) A (call (.builtin initId) [.ref a,u]) Q E ⟨h,g,d,t,os⟩:=by
 refine wpAny_call (codeAny_call_builtin F.init.plain F.initEntry (zgG F T hC he hcls ?_))
 have he₂ : (h.push { cls:=.type "tuple", data:=.seq #[u] }).get? a=some oe:=Heap.get?_push_of_some _ he
 have hz:0 < vs.size:=(Array.getElem?_eq_some_iff.mp h0).1
 repeat (first | with_reducible refine wpAny_field he₂ hd h0 ?_ | with_reducible refine wpAny_setField he₂ hd hz ?_ | wp_step)
 have he₃:=Heap.get?_update_self (Obj.mapFields (·.setIfInBounds 0 (Value.ref h.objs.size))) he₂ (Obj.isFreed_of_fields (Obj.data_mapFields hd _))
 refine hq _ (fun b o hb g=>?_) ⟨_,by rw [he₃,mapF _ hd]⟩
 rw [Heap.get?_update_other _ _ (Ne.symm hb)]
 exact Heap.get?_push_of_some _ g
end
theorem zlD:PySem.W.handedIn (.builtin "ValueError.__init__")=true:=by decide +kernel
theorem znk {h:Heap}:PySem.W.Frag.In [] h:=fun a o z=>by cases z
theorem ziB:typeOf (.type "ValueError")=pure (.type "type"):=by kernel_rfl
theorem zlE:Manifest.isStub "ValueError" = false:=by decide +kernel
theorem zlF:PySem.W.findCls [] (.type "ValueError") (.type "type") "__init__" = some (.val (.builtin "ValueError.__init__")):=by kernel_rfl
section
variable {X:Cx} {k:Nat} {f D:Addr} {fd:FuncData} {ps:List Str} {sp:Sp} {x:Str} {p pos apos:Pos} {e:Expr} {es:List Expr} {t:TA}
def zla (KC:Addr->List Value->Prop) (t:TA):TE:=fun σ H Q=>t σ H fun vs H1=>∃ a C dd bm u,vs=[.ref a,u]/\KC C bm/\H1 a=some (.ext (XO true a C dd))/\Q .non H1
theorem zki {KC:Addr->List Value->Prop} {pl:Sem Bool} (hcls:∀ C bm,KC C bm->∃ fI,XCls (model X.prog X.w) X.base C bm fI) (hg:Gl X "ValueError") (hm:X.mg "ValueError" = none) (ha:PA X (e :: es) t)
  (hst:starEach (e :: es) X.env=(false,eval e X.env) :: starEach es X.env:=by rfl) (hpl:(backTo pos (starEach es X.env)).any (·.1)=false:=by rfl)
  (ht:eval (.Call (.Attribute (.Name "ValueError" p) "__init__" apos) (e :: es) [] pos) X.env=(do
   let ov ← eval (.Name "ValueError" p) X.env
   standAt apos.atName
   let (f,first) ← holding [ov] (getMethod ov "__init__" pl)
   callWith pos f first (backTo pos (starEach (e :: es) X.env)) (backToKw pos (keywordEach [] X.env))):=by rfl) :
  PE X (.Call (.Attribute (.Name "ValueError" p) "__init__" apos) (e :: es) [] pos) (zla KC t):=by
 intro pins s σ H Q I h
 have hB:bootBuiltins "ValueError" = some (.type "ValueError"):=by decide +kernel
 refine PySem.W.methodCall_KW (pl:=pl) (zee I hg hm hB ?_) ht
 obtain ⟨m,Fm⟩:=I.fr
 refine PySem.W.method_type (K:=[]) (v:=.builtin "ValueError.__init__") Fm znk ziB zlE zlF zlD ?_
 refine PyProof.Rows.callWith_builtin1 (thn (ha pos pins _ σ H _ (I.tok _) h) fun us s1 ⟨vs,H1,I1,r1,a,C,dd,bm,u,ev,kc,hx,q⟩=>?_) hst hpl
 subst ev
 cases r1 with
 | cons ra r1 =>
 cases r1 with
 | cons ru r1 =>
 cases r1
 have ra':_=Value.ref a:=ra
 subst ra'
 obtain ⟨fI,XC⟩:=hcls C bm kc
 obtain ⟨nm,qn,N,bs,sn,sub,ab,col,dd1,k0,k1,k2,k3,k5,hC⟩:=XC.obj
 obtain ⟨⟨vs,sl,ga,z⟩,_,_⟩:=I1.hok a _ hx
 obtain ⟨z1,t0,z0⟩:=z rfl
 obtain ⟨hp,g,d,tk,os⟩:=s1
 refine zhN PySem.F.excBase_ValueError XC.tail (I1.bk _ _ hC) ga rfl rfl z0 fun h' k ⟨y,hy⟩=>?_
 have hw:=I1.write (x:=a) (e:=a) (o:=.ext (XO true a C dd)) (t':=tk) (h':=h') (by rw [hx];trivial) (.inl rfl) k ⟨_,hy⟩ (XO.ok ⟨_,sl,hy,fun _=>⟨by rw [Array.getElem?_setIfInBounds_ne (by decide)];exact z1,y,by simp [(Array.getElem?_eq_some_iff.mp z0).1]⟩⟩)
 have e:upd H1 a (.ext (XO true a C dd))=H1:=by
  funext b
  by_cases hb:b=a
  ·subst hb;rw [zat,hx]
  ·rw [zaw hb]
 rw [e] at hw
 exact ⟨.non,H1,hw,rfl,q⟩
end
structure ziC (K:PySem.W.Frag) (D:Addr) (m:Str) (f:Addr):Prop where
 ga:PySem.W.specialIn K (.ref D) "__getattribute__" = some (some (.builtin "type.__getattribute__"))
 rd:PySem.W.readsIn K D (.type "type")=true
 fd:PySem.W.findCls K (.ref D) (.type "type") m=some (.val (.ref f))
 kp:PySem.W.keepIn K (.ref f)=true
section
variable {X:Cx} {k:Nat} {f D:Addr} {fd:FuncData} {ps:List Str} {sp:Sp} {x m:Str} {p pos apos:Pos} {e:Expr} {es:List Expr} {t:TA}
theorem zhg {pl:Sem Bool} (M:ziC X.K D m f) (F:FnOk X.prog X.w X.K X.mg X.base CX0 k f fd ps sp) (hr:Room k X.A) (hb:zcU X.K fd ps []) (hg:Gl X x) (hm:X.mg x=some (.ref D)) (ha:PA X (e :: es) t)
  (hdb:(x == ("__debug__" : Str))=false:=by decide) (hst:starEach (e :: es) X.env=(false,eval e X.env) :: starEach es X.env:=by rfl) (hpl:(backTo pos (starEach es X.env)).any (·.1)=false:=by rfl)
  (ht:eval (.Call (.Attribute (.Name x p) m apos) (e :: es) [] pos) X.env=(do
   let ov ← eval (.Name x p) X.env
   standAt apos.atName
   let (f,first) ← holding [ov] (getMethod ov m pl)
   callWith pos f first (backTo pos (starEach (e :: es) X.env)) (backToKw pos (keywordEach [] X.env))):=by rfl) :
  PE X (.Call (.Attribute (.Name x p) m apos) (e :: es) [] pos) (zj7 sp [] E0 t):=by
 intro pins s σ H Q I h
 refine PySem.W.methodCall_KW (pl:=pl) (zdH I hg hm ?_ hdb) ht
 refine PySem.W.method_cls I.kIn M.ga (PySem.W.cls_value I.kIn M.rd M.fd rfl ?_)
 refine PySem.W.callWith_K (h₀:=X.base) I.ok.mod.kin M.kp (thn (ha pos pins _ σ H _ (I.tok _) h) fun us s1 ⟨vs,H1,I1,r,q⟩=>⟨I1.kIn,?_⟩) hst hpl
 exact zk7 F hr hb .nil zne I1 r q
end
def XD (dx:Addr) (fs:List (Str × V)):Heap->Prop:=fun h=>∃ mA,h.Ns1 dx mA/\h.ExactDictFk dx/\(∀ f,RelO (fs.lookup f) (mA f))/\PySem.Within mA (fs.map (·.1))
theorem XD.ok {P:Program} {w:World} {H:Hp} {h:Heap} {dx:Addr} {fs:List (Str × V)} (x:XD dx fs h):zb6 P w H h dx (.ext (XD dx fs)) :=
 ⟨x,let ⟨_,⟨o,_,_,q,_⟩,_⟩:=x;⟨o,q⟩,fun h1 h2 ⟨mA,⟨o,es,ep,q,c⟩,⟨od,q2,c2⟩,r⟩ k=>⟨mA,⟨o,es,ep,k _ q,c⟩,⟨od,k _ q2,c2⟩,r⟩⟩
theorem XO.inst {h:Heap} {a C:Addr} {vs:Array Value} {sl:Array (Option Value)} (g:h.get? a=some { cls:=.ref C,dict:=none,data:=.fields vs,slots:=sl }):h.InstFk a C fun _=>none :=
 ⟨_,g,rfl,fun _ z=>(by cases z),.inl ⟨rfl,fun _=>rfl⟩⟩
section
variable {X:Cx} {pins:List (Addr × Obj)} {σ : St} {H:Hp} {s:Shared} {a C dx:Addr} {h':Heap} {t':Nat}
theorem Inv.xdict {fs:List (Str × V)} (I:Inv X pins σ H s) (hx:H a=some (.ext (XO true a C none))) (k:∀ b o,b ≠ a->s.heap.get? b=some o->h'.get? b=some o) (hz:s.heap.objs.size<=dx) (h1:XO true a C (some dx) h') (h2:XD dx fs h') :
  Inv X pins σ (upd (upd H a (.ext (XO true a C (some dx)))) dx (.ext (XD dx fs))) { s with heap:=h',toks:=t' }:=by
 have hn:H dx=none:=I.hok.fresh hz
 have hne:dx ≠ a:=fun z=>by rw [z,hx] at hn;cases hn
 have ne:∀ b,H b=none->b ≠ a:=fun b n z=>by rw [z,hx] at n;cases n
 have nd:∀ b o,s.heap.get? b=some o->b ≠ dx:=fun b o g z=>by subst z;exact absurd (Heap.lt_size g) (Nat.not_lt.mpr hz)
 have oth:∀ b,b ≠ a->b ≠ dx->upd (upd H a (.ext (XO true a C (some dx)))) dx (.ext (XD dx fs)) b=H b:=fun b h1 h2=>by rw [zaw h2,zaw h1]
 have trk:∀ b u,H b=some u->b ≠ dx:=fun b u q z=>by rw [z,hn] at q;cases q
 have nota:∀ b (u:HO),H b=some u->(∀ φ,u ≠ .ext φ)->b ≠ a:=fun b u q n z=>by rw [z,hx] at q;cases q;exact n _ rfl
 refine I.un (t':=t') ⟨fun b o g n _ _=>k b o (ne b n) g,fun b o g n _ _=>⟨o.slots,k b o (ne b n) g⟩,fun b o g n _=>(oth b (ne b n) (nd b o g)).trans n,fun b o g _=>?_,fun b xs q=>?_,fun b o u q=>?_,fun b ps q=>⟨#[],?_⟩⟩ fun b u q=>?_
 ·by_cases hb:b=a
  ·subst hb;obtain ⟨_,_,z,_⟩:=h1;exact ⟨_,z⟩
  ·exact ⟨o,k b o hb g⟩
 ·exact (oth b (nota b _ q fun _ z=>by cases z) (trk b _ q)).trans q
 ·exact (oth b (nota b _ q fun _ z=>by cases z) (trk b _ q)).trans q
 ·rw [oth b (nota b _ q fun _ z=>by cases z) (trk b _ q),q];simp
 ·by_cases hb:b=dx
  ·subst hb;rw [zat] at q;cases q;exact XD.ok h2
  ·rw [zaw hb] at q
   by_cases hb2:b=a
   ·subst hb2;rw [zat] at q;cases q;exact XO.ok h1
   ·rw [zaw hb2] at q
    refine (I.hok b u q).stay (fun c v hc g=>k c v ?_ g) (fun c r=>(oth c (nota c _ r fun _ z=>by cases z) (trk c _ r)).trans r) fun c xs r=>(oth c (nota c _ r fun _ z=>by cases z) (trk c _ r)).trans r
    rcases hc with rfl | hc
    ·exact hb2
    ·exact nota c _ hc fun _ z=>by cases z
end
def zkj (KC:Addr->List Value->Prop) (ta tv:TE) (f:Str):TS:=fun D σ H=>tv σ H fun y H1=>ta σ H1 fun x H2=>∃ a C bm,x=.ref a/\KC C bm /\
 ((H2 a=some (.ext (XO true a C none))/\∀ dx,H2 dx=none->dx ≠ a->D.nx σ (upd (upd H2 a (.ext (XO true a C (some dx)))) dx (.ext (XD dx [(f,y)])))) ∨
  ∃ dx fs,dx ≠ a/\H2 a=some (.ext (XO true a C (some dx)))/\H2 dx=some (.ext (XD dx fs))/\fs.length < 900/\D.nx σ (upd H2 dx (.ext (XD dx (putF f y fs)))))
section
variable {X:Cx} {o value:Expr} {f:Str} {pos pos':Pos} {ta tv:TE} {KC:Addr->List Value->Prop}
theorem zgH (hcls:∀ C bm,KC C bm->∃ fI,XCls (model X.prog X.w) X.base C bm fI) (hf:∀ C bm,KC C bm->zbp (model X.prog X.w) C f none X.base) (ha:PE X o ta) (hv:PE X value tv)
  (hs:swapsWith value (some (.Attribute o f pos')) pos.line X.env=pure false):PS X (.Assign [.Attribute o f pos'] value pos) (zkj KC ta tv f):=by
 intro pins s σ H D I h
 refine plainObj_wpAny_Assign_Attribute (thn (hv pins s σ H _ I h) fun u s1 ⟨y,H1,I1,ry,q⟩=>thn (ha pins s1 σ H1 _ I1 q) fun ov s2 ⟨x,H2,I2,rx,a,C,bm,ex,kc,q2⟩=>?_) hs
 subst ex
 obtain rfl:ov=Value.ref a:=rx
 obtain ⟨fI,XC⟩:=hcls C bm kc
 obtain ⟨nm,qn,N,bs,sn,sub,ab,col,dd1,k0,k1,k2,k3,k5,hC⟩:=XC.obj
 obtain ⟨hp,g,d,tk,os⟩:=s2
 rcases q2 with ⟨hx,q2⟩ | ⟨dx,fs,hne,hx,hdx,hl,q2⟩
 ·obtain ⟨⟨vs,sl,ga,z⟩,_,_⟩:=I2.hok a _ hx
  refine zej (ns:=[]) PySem.F.store_ValueError XC.tail (XC.pass _) (I2.bk _ _ hC) (XC.sa.keeps I2.bk) ((hf C bm kc).keeps I2.bk) (XO.inst ga) (fun h' tk' i' hk hsame hnew=>?_) PySem.Within.nil (by decide)
  obtain ⟨o1,g1,c1,d1,s1',_⟩:=hsame _ ga
  obtain ⟨o2,g2,_,_,dd⟩:=i'
  rw [g1] at g2
  cases g2
  rcases dd with ⟨_,dn⟩ | ⟨dx,hdx,hne,hns,hex⟩
  ·have:=dn f;simp at this
  ·have hz:=hnew _ _ dx ga rfl g1 hdx
   have o1e:o1 = { cls:=.ref C,dict:=some dx,data:=.fields vs,slots:=sl }:=by
    obtain ⟨oc,od,odt,osl⟩:=o1
    cases c1;cases d1;cases s1';cases hdx;rfl
   have I3:=I2.xdict (t':=tk') (dx:=dx) (fs:=[(f,y)]) hx (fun b ob hb gb=>hk b ob hb (fun o₀ dx' e1 e2=>by rw [ga] at e1;cases e1;cases e2) gb) hz ⟨vs,sl,by rw [g1,o1e],z⟩
    ⟨_,hns,hex,fun g=>?_,fun g hg=>?_⟩
   ·exact ⟨σ,_,I3,q2 dx (I2.hok.fresh hz) hne⟩
   ·show RelO ((putF f y []).lookup g) (if g=f then some u else none)
    rw [zdf]
    by_cases e:g=f
    ·rw [if_pos e,if_pos e];exact ry
    ·rw [if_neg e,if_neg e];trivial
   ·show g ∈ [f]
    by_cases e:g=f
    ·rw [e];simp
    ·exact absurd (if_neg e) hg
 ·obtain ⟨⟨vs,sl,ga,z⟩,_,_⟩:=I2.hok a _ hx
  obtain ⟨⟨mA,hns,hex,hr,hwi⟩,_,_⟩:=I2.hok dx _ hdx
  refine zej (ns:=fs.map (·.1)) PySem.F.store_ValueError XC.tail (XC.pass _) (I2.bk _ _ hC) (XC.sa.keeps I2.bk) ((hf C bm kc).keeps I2.bk) ⟨_,ga,rfl,fun _ z=>(by cases z),.inr ⟨dx,rfl,hne,hns,hex⟩⟩ (fun h' tk' i' hk hsame hnew=>?_) hwi (by rw [List.length_map];omega)
  obtain ⟨o1,g1,c1,d1,s1',dk⟩:=hsame _ ga
  have hd1:=dk dx rfl
  obtain ⟨o2,g2,_,_,dd⟩:=i'
  rw [g1] at g2
  cases g2
  rcases dd with ⟨dn,_⟩ | ⟨dx2,hdx2,hne2,hns2,hex2⟩
  ·rw [hd1] at dn;cases dn
  ·rw [hd1] at hdx2
   cases hdx2
   have o1e:o1 = { cls:=.ref C,dict:=some dx,data:=.fields vs,slots:=sl }:=by
    obtain ⟨oc,od,odt,osl⟩:=o1
    cases c1;cases d1;cases s1';cases hd1;rfl
   have I3:=I2.write (x:=dx) (e:=dx) (o:=.ext (XD dx (putF f y fs))) (t':=tk') (h':=h') (by rw [hdx];trivial) (.inl rfl) (fun b ob hb gb=>by
    by_cases hba:b=a
    ·subst hba;rw [ga] at gb;cases gb;rw [g1,o1e]
    ·exact hk b ob hba (fun o₀ dx' e1 e2=>by rw [ga] at e1;cases e1;cases e2;exact hb) gb) (let ⟨o,_,_,q,_⟩:=hns2;⟨o,q⟩) (XD.ok ⟨_,hns2,hex2,fun g=>?_,fun g hg=>?_⟩)
   ·exact ⟨σ,_,I3,q2⟩
   ·show RelO ((putF f y fs).lookup g) (if g=f then some u else mA g)
    rw [zdf]
    by_cases e:g=f
    ·rw [if_pos e,if_pos e];exact ry
    ·rw [if_neg e,if_neg e];exact hr g
   ·by_cases e:g=f
    ·rw [e];exact (zeg f y fs).1
    ·refine (zeg f y fs).2 g (hwi g fun z=>hg ?_)
     show (if g=f then some u else mA g)=none
     rw [if_neg e];exact z
end
inductive FmtV:V->Str->Prop
 | str (x:Str) (h:x.length<=sizeLine):FmtV (.str x) x
 | int (i:Int) (h:i.natAbs.log2 < 1920):FmtV (.int i) (toString i:String)
 | non:FmtV .non "None"
def tFmt (te:TE):TE:=fun σ H Q=>te σ H fun v H1=>∃ y,FmtV v y/\Q (.str y) H1
def ziD:List TE->Str->TE
 | [],acc=>fun _ H Q=>acc.length<=sizeLine/\Q (.str acc) H
 | te :: r,acc=>fun σ H Q=>te σ H fun v H1=>∃ y,v=.str y/\(acc ++ y).length<=sizeLine/\ziD r (acc ++ y) σ H1 Q
inductive PEs (X:Cx):List Expr->List TE->Prop
 | nil:PEs X [] []
 | cons {e:Expr} {es:List Expr} {t:TE} {ts:List TE}:PE X e t->PEs X es ts->PEs X (e :: es) (t :: ts)
section
variable {X:Cx} {value:Expr} {te:TE} {pos:Pos}
theorem ziE (h:PE X value te):PE X (.FormattedValue value (-1) none pos) (tFmt te):=by
 intro pins s σ H Q I hq
 refine wpAny_FormattedValue_plain (thn (h pins s σ H _ I hq) fun u s1 ⟨v,H1,I1,rv,y,hy,q⟩=>?_)
 cases hy with
 | str x hx =>
  obtain ⟨t,rfl⟩:=(show ∃ t,u=Value.str y t from rv)
  exact wpAny_formatField_str ⟨.str y,H1,I1,⟨_,rfl⟩,q⟩ ⟨.str y,H1,I1.tok _,⟨_,rfl⟩,q⟩ hx
 | int i hi =>
  obtain ⟨t,rfl⟩:=(show ∃ t,u=Value.int i t from rv)
  exact wpAny_formatField_int hi ⟨.str _,H1,I1.tok _,⟨_,rfl⟩,q⟩
 | non =>
  obtain rfl:u=Value.none:=rv
  exact wpAny_formatField_none ⟨.str _,H1,I1.tok _,⟨_,rfl⟩,q⟩
theorem zhh {E:Value->Shared->Prop}:∀ {es:List Expr} {ts:List TE} {acc:Str} {pins:List (Addr × Obj)} {s:Shared} {σ : St} {H:Hp} {Q:VK},PEs X es ts->Inv X pins σ H s->ziD ts acc σ H Q ->
  Joins (model X.prog X.w) X.A X.xe (evalEach es X.env) acc (fun out s1=>out.length<=sizeLine/\EP X pins σ Q (.str out s1.toks) { s1 with toks:=s1.toks+1 }) s
 | _,_,acc,pins,s,σ,H,Q,.nil,I,⟨hl,q⟩=>⟨hl,.str acc,H,I.tok _,⟨_,rfl⟩,q⟩
 | _,_,acc,pins,s,σ,H,Q,.cons h r,I,hq=>thn (h pins s σ H _ I hq) fun u s1 ⟨v,H1,I1,rv,y,ev,hl,q⟩=>by
  subst ev
  obtain ⟨t,rfl⟩:=(show ∃ t,u=Value.str y t from rv)
  exact ⟨y,t,rfl,hl,zhh (E:=E) r I1 q⟩
theorem zfQ {v1 v2:Expr} {rest:List Expr} {ts:List TE} (h:PEs X (v1 :: v2 :: rest) ts):PE X (.JoinedStr (v1 :: v2 :: rest) pos) (ziD ts Str.empty):=by
 intro pins s σ H Q I hq
 exact wpAny_JoinedStr (zhh (E:=X.xe) h I hq)
end
def zoy (KC:Addr->List Value->Prop) (ta:TE) (f:Str):TE:=fun σ H Q=>ta σ H fun x H1=>∃ a C bm dx fs v fr,x=.ref a/\KC C bm/\H1 a=some (.ext (XO fr a C (some dx)))/\H1 dx=some (.ext (XD dx fs))/\fs.lookup f=some v/\Q v H1
theorem zhO {v:V} {u:Value} (r:RelV v u):handedOut u=pure u:=by
 cases v with
 | non=>obtain rfl:u=_:=r;rfl
 | bl b=>obtain rfl:u=_:=r;rfl
 | int i=>obtain ⟨t,rfl⟩:∃ t,u=_:=r;rfl
 | str x=>obtain ⟨t,rfl⟩:∃ t,u=_:=r;rfl
 | byt b=>obtain ⟨t,rfl⟩:∃ t,u=_:=r;rfl
 | flt b=>obtain ⟨t,rfl⟩:∃ t,u=_:=r;rfl
 | ref a=>obtain rfl:u=_:=r;rfl
 | ty n=>obtain rfl:u=_:=r;rfl
section
variable {X:Cx} {e:Expr} {f:Str} {pos:Pos} {ta:TE} {KC:Addr->List Value->Prop}
theorem zlG (hcls:∀ C bm,KC C bm->∃ fI,XCls (model X.prog X.w) X.base C bm fI) (hf:∀ C bm,KC C bm->zbp (model X.prog X.w) C f none X.base) (he:PE X e ta) (hb:attributeBase e f X.env (eval e X.env)=eval e X.env):PE X (.Attribute e f pos) (zoy KC ta f):=by
 intro pins s σ H Q I h
 refine zlq hb (thn (he pins s σ H _ I h) fun u s1 ⟨x,H1,I1,rx,a,C,bm,dx,fs,v,fr,ex,kc,hx,hd,hl,q⟩=>?_)
 subst ex
 obtain rfl:u=Value.ref a:=rx
 obtain ⟨fI,XC⟩:=hcls C bm kc
 obtain ⟨nm,qn,N,bs,sn,sub,ab,col,dd1,k0,k1,k2,k3,k5,hC⟩:=XC.obj
 obtain ⟨⟨vs,sl,ga,_⟩,_,_⟩:=I1.hok a _ hx
 obtain ⟨⟨mA,hns,hex,hr,hwi⟩,_,_⟩:=I1.hok dx _ hd
 have hne:dx ≠ a:=by
  rintro rfl
  obtain ⟨o,es,ep,g,d,_⟩:=hns
  rw [ga] at g;cases g;cases d
 have hr':=hr f
 rw [hl] at hr'
 cases hm:mA f with
 | none=>rw [hm] at hr';exact hr'.elim
 | some u =>
  rw [hm] at hr'
  have ru:RelV v u:=hr'
  obtain ⟨hp,g,d,tk,os⟩:=s1
  exact zhL PySem.F.excAttr_ValueError XC.tail rfl (I1.bk _ _ hC) (XC.ga.keeps I1.bk) (XC.gh.keeps I1.bk) ((hf C bm kc).keeps I1.bk) ⟨_,ga,rfl,fun _ z=>(by cases z),.inr ⟨dx,rfl,hne,hns,hex⟩⟩ hm (zhO ru) ⟨v,H1,I1.tok _,ru,q⟩
end
end L2
namespace L2
open PySem PySem.Spec
section
variable {prog:Program} {w:World} {A:Around} {E:Value->Shared->Prop} {h:Heap} {g:Array GenState} {d:Drawn} {t:Nat} {os:OsState} {R:Result->Shared->Prop}
variable {nm q:Str} {C N a:Addr} {bs bm bmB:List Value} {hdct:Bool} {sn:List Str} {sub:List Value} {ab:Bool} {col:Option Bool} {dd:Option Addr} {k0 k1 k2 k3 k5:Option Value} {newId:String} {o:Obj}
theorem zhP (T:Tail bmB bm) (ho:bmB.contains (.type "object")=true) (hC:h.get? C=some (excClassObj nm q C N bs bm hdct sn sub ab col dd k0 k1 k2 k3 k5 newId)) (hx:h.get? a=some o) (hc:o.cls=.ref C) (hq:R (.ok (.ret (.ref C))) ⟨h,g,d,t,os⟩) :
  codeAny (model prog w) A (.call (.builtin "getset_descriptor.__get__") ⟨[.builtin "object.__class__", .ref a,.ref C],[]⟩) R ⟨h,g,d,t,os⟩:=by
 have hT5:(⟨h,g,d,t,os⟩:Shared).TypeIs (.builtin "object.__class__") "getset_descriptor" := PySem.F.typeOf_object_class
 have hcB:(Value.ref C :: bm).contains (.type (".".intercalate ("object.__class__".cutAt '.').dropLast))=true:=by
  rw [PySem.F.owner_object_class,List.contains_cons,T _ _ ho];rfl
 refine codeAny_call_builtin PySem.F.slot_gs_get.plain PySem.F.entry_gs_get (PySem.F.slot_gs_get.check _ _ _ _ _ _ _ _ hT5 (PySem.F.args_gs_get _ _ _) ?_)
 repeat (any_goals (first | assumption | (with_reducible refine wpAny_loadPart_at hx ?_;rw [hc]) | (with_reducible refine wpAny_isSubtype_exc hC ?_;rw [hcB]) | wp_step))
 refine ⟨Code.quiet_builtin _ (by decide +kernel),codeAny_builtin PySem.F.entry_object_class ?_⟩
 unfold Builtin.«object.__class__»
 repeat (any_goals (first | assumption | (with_reducible refine wpAny_loadPart_at hx ?_;rw [hc]) | wp_step))
theorem zfR {tk:Tok} {Q:PySem.Fin->Shared->Prop} (T:Tail bmB bm) (ho:bmB.contains (.type "object")=true) (hC:h.get? C=some (excClassObj nm q C N bs bm hdct sn sub ab col dd k0 k1 k2 k3 k5 newId)) (fc:zbp (model prog w) C "__class__" (some (.builtin "object.__class__")) h) (hx:h.get? a=some o) (hc:o.cls=.ref C) (hq:Q (.done (.ret (.ref C))) ⟨h,g,d,t,os⟩) :
  wpAny (model prog w) A (Builtin.«object.__getattribute__» ⟨[.ref a,.str "__class__" tk],[]⟩) Q E ⟨h,g,d,t,os⟩:=by
 have hT5:(⟨h,g,d,t,os⟩:Shared).TypeIs (.builtin "object.__class__") "getset_descriptor" := PySem.F.typeOf_object_class
 have f5:=PySem.F.typeOf_object_class
 have f6:=PySem.F.slot_gs_get.lookup
 have f7:=PySem.F.slot_gs_set.lookup
 repeat (any_goals (first | assumption | (with_reducible refine wpAny_loadPart_at hx ?_;rw [hc]) | with_reducible refine fc.at ?_ | wp_step))
 refine zhP T ho hC hx hc ?_
 repeat (any_goals (first | assumption | wp_step))
theorem zek {Q:Option Value->Shared->Prop} (FB:ExcAttrFacts "ValueError") (T:Tail VB bm) (hC:h.get? C=some (excClassObj nm q C N bs bm hdct sn sub ab col dd k0 k1 k2 k3 k5 newId)) (fc:zbp (model prog w) C "__class__" (some (.builtin "object.__class__")) h)
  (fg:zbp (model prog w) C "__getattribute__" (some (.builtin "BaseException.__getattribute__")) h) (fa:zbp (model prog w) C "__getattr__" none h) (hx:h.get? a=some o) (hc:o.cls=.ref C) (hq:Q (some (.ref C)) ⟨h,g,d,t+1,os⟩) :
  wpAny (model prog w) A (getAttr? (.ref a) "__class__") Q E ⟨h,g,d,t,os⟩:=by
 have f3:=FB.ga.bind (.ref a)
 have hx0:(false && onTheHeap (Value.builtin "BaseException.__getattribute__"))=false:=rfl
 have hx2:(Value.builtin "BaseException.__getattribute__" == Value.builtin "object.__getattribute__")=false:=by decide +kernel
 have hx1:(onTheHeap (Value.ref C) && Value.builtin "BaseException.__getattribute__" == Value.builtin "object.__getattribute__")=false:=by rw [hx2];rfl
 unfold getAttr? getAttrBy?
 refine wpAny_bind (wpAny_mkText (wpAny_bind (wpAny_attempt ?_)))
 repeat (any_goals (first | assumption | (with_reducible refine wpAny_loadPart_at hx ?_;rw [hc]) | with_reducible refine fg.at ?_ | with_reducible refine fa.at ?_ | wp_step))
 refine codeAny_call_builtin FB.ga.plain PySem.F.entry_bexc_ga (zfP T rfl hC hx hc (zfR T rfl hC fc hx hc ?_))
 repeat (any_goals (first | assumption | wp_step))
end
end L2
namespace L2
open PySem PySem.Spec PyProof.Rows
section
variable {prog:Program} {w:World} {A:Around} {E:Value->Shared->Prop} {h:Heap} {g:Array GenState} {d:Drawn} {t:Nat} {os:OsState}
variable {nm q nm' q':Str} {C N D N' a:Addr} {bs bm bs' bm':List Value} {hdct hdct':Bool} {sn sn':List Str} {sub sub':List Value} {ab ab':Bool} {col col':Option Bool} {dd dd':Option Addr} {k0 k1 k2 k3 k5 j0 j1 j2 j3 j5:Option Value} {newId newId':String} {o:Obj} {b:Bool}
theorem zlH {Q:Value->Shared->Prop} (T:Tail VB bm) (hC:h.get? C=some (excClassObj nm q C N bs bm hdct sn sub ab col dd k0 k1 k2 k3 k5 newId)) (hD:h.get? D=some (excClassObj nm' q' D N' bs' bm' hdct' sn' sub' ab' col' dd' j0 j1 j2 j3 j5 newId'))
  (fc:zbp (model prog w) C "__class__" (some (.builtin "object.__class__")) h) (fg:zbp (model prog w) C "__getattribute__" (some (.builtin "BaseException.__getattribute__")) h) (fa:zbp (model prog w) C "__getattr__" none h)
  (hx:h.get? a=some o) (hc:o.cls=.ref C) (hb:(Value.ref C :: bm).contains (.ref D)=b) (hq:∀ tk,Q (.bool b) ⟨h,g,d,tk,os⟩):wpAny (model prog w) A (call (.builtin "isinstance") [.ref a,.ref D]) Q E ⟨h,g,d,t,os⟩:=by
 have hT:(⟨h,g,d,t,os⟩:Shared).TypeIs (.ref D) "type" := ⟨_,hD,rfl⟩
 have f2:=tc_sub
 refine call_isinstance_of ?_ (fun z=>nomatch z)
 unfold Builtin.«isinstance.nested»
 refine wpAny_bind ?_
 unfold typeOf
 refine wpAny_bind (wpAny_loadPart_at hx (wpAny_pure ?_))
 rw [hc]
 by_cases e:C=D
 ·subst e
  have hb1:b=true:=by rw [← hb];simp
  subst hb1
  rw [if_pos (by simp)]
  exact wpAny_bind (wpAny_rule (wpAny_pure (hq t)))
 ·rw [if_neg (by simp [e])]
  refine wpAny_bind (wpAny_bind (wpAny_loadPart_at hD (wpAny_pure ?_)))
  rw [if_pos (show (Value.type "type" == Value.type "type")=true by decide)]
  k_delta "plainIsInstance"
  unfold isType isInstance
  repeat (first | (with_reducible refine wpAny_loadPart_at hx ?_;rw [hc]) | with_reducible refine wpAny_loadPart_at hD ?_ | with_reducible refine wpAny_loadPart_at hC ?_ | (with_reducible refine wpAny_isSubtype_exc hC ?_;rw [hb]) | wp_step)
  cases b with
  | true=>wp_walk;exact hq t
  | false =>
   rw [if_neg (by decide)]
   refine wpAny_bind (zek PySem.F.excAttr_ValueError T hC fc fg fa hx hc ?_)
   repeat (first | with_reducible refine wpAny_loadPart_at hC ?_ | (with_reducible refine wpAny_isSubtype_exc hC ?_;rw [hb]) | wp_step)
   exact hq _
theorem znl {Q:Value->Shared->Prop} {X:String} (T:Tail VB bm) (hC:h.get? C=some (excClassObj nm q C N bs bm hdct sn sub ab col dd k0 k1 k2 k3 k5 newId)) (hX:typeOf (.type X)=pure (.type "type"))
  (fc:zbp (model prog w) C "__class__" (some (.builtin "object.__class__")) h) (fg:zbp (model prog w) C "__getattribute__" (some (.builtin "BaseException.__getattribute__")) h) (fa:zbp (model prog w) C "__getattr__" none h)
  (hx:h.get? a=some o) (hc:o.cls=.ref C) (hb:(Value.ref C :: bm).contains (.type X)=b) (hq:∀ tk,Q (.bool b) ⟨h,g,d,tk,os⟩):wpAny (model prog w) A (call (.builtin "isinstance") [.ref a,.type X]) Q E ⟨h,g,d,t,os⟩:=by
 refine call_isinstance_of ?_ (fun z=>nomatch z)
 unfold Builtin.«isinstance.nested»
 refine wpAny_bind ?_
 have ty:∀ {M:Model} {A:Around} {Q:Value->Shared->Prop} {E:Value->Shared->Prop},Q (.ref C) ⟨h,g,d,t,os⟩->wpAny M A (typeOf (.ref a)) Q E ⟨h,g,d,t,os⟩:=fun q=>by
  unfold typeOf
  refine wpAny_bind (wpAny_loadPart_at hx (wpAny_pure ?_))
  rw [hc];exact q
 refine ty ?_
 rw [if_neg (by simp)]
 refine wpAny_bind (wpAny_of_eq hX ?_)
 rw [if_pos (show (Value.type "type" == Value.type "type")=true by decide)]
 k_delta "plainIsInstance"
 unfold isType isInstance
 repeat (first | (with_reducible refine wpAny_loadPart_at hx ?_;rw [hc]) | with_reducible refine wpAny_loadPart_at hC ?_ | (with_reducible refine wpAny_isSubtype_exc hC ?_;rw [hb]) | wp_step)
 cases b with
 | true=>wp_walk;exact hq t
 | false =>
  rw [if_neg (by decide)]
  refine wpAny_bind (zek PySem.F.excAttr_ValueError T hC fc fg fa hx hc ?_)
  repeat (first | with_reducible refine wpAny_loadPart_at hC ?_ | (with_reducible refine wpAny_isSubtype_exc hC ?_;rw [hb]) | wp_step)
  exact hq _
end
def rIsX (KC:Addr->List Value->Prop):List V->Hp->VK->Prop:=fun xs H Q=>∃ a C dd bm fr c b,xs=[.ref a,c]/\KC C bm/\H a=some (.ext (XO fr a C dd)) /\
 ((∃ D bm',c=.ref D/\KC D bm'/\(Value.ref C :: bm).contains (.ref D)=b) ∨ ∃ T,c=.ty T/\typeOf (.type T)=pure (.type "type")/\(Value.ref C :: bm).contains (.type T)=b)/\Q (.bl b) H
theorem zff {X:Cx} {KC:Addr->List Value->Prop} (hcls:∀ C bm,KC C bm->∃ fI,XCls (model X.prog X.w) X.base C bm fI):zdm X (.builtin "isinstance") (rIsX KC):=by
 rintro pins s σ H xs us Q I r ⟨a,C,dd,bm,fr,c,b,rfl,kc,hx,hD,q⟩
 cases r with
 | cons ra r =>
 cases r with
 | cons rc r =>
 cases r
 have ra':_=Value.ref a:=ra
 subst ra'
 obtain ⟨fI,XC⟩:=hcls C bm kc
 obtain ⟨nm,qn,N,bs,sn,sub,ab,col,dd1,k0,k1,k2,k3,k5,hC⟩:=XC.obj
 obtain ⟨⟨vs,sl,ga,_⟩,_,_⟩:=I.hok a _ hx
 obtain ⟨hp,g,d,tk,os⟩:=s
 rcases hD with ⟨D,bm',rfl,kd,hb⟩ | ⟨T,rfl,hT,hb⟩
 ·have rc':_=Value.ref D:=rc
  subst rc'
  obtain ⟨fI',XD'⟩:=hcls D bm' kd
  obtain ⟨nm',qn',N',bs',sn',sub',ab',col',dd2,j0,j1,j2,j3,j5,hD'⟩:=XD'.obj
  exact zlH XC.tail (I.bk _ _ hC) (I.bk _ _ hD') (XC.cl.keeps I.bk) (XC.ga.keeps I.bk) (XC.gh.keeps I.bk) ga rfl hb fun tk'=>⟨.bl b,H,I.tok tk',rfl,q⟩
 ·have rc':_=Value.type T:=rc
  subst rc'
  exact znl XC.tail (I.bk _ _ hC) hT (XC.cl.keeps I.bk) (XC.ga.keeps I.bk) (XC.gh.keeps I.bk) ga rfl hb fun tk'=>⟨.bl b,H,I.tok tk',rfl,q⟩
theorem zfS {CX:CXT} {P:Program} {w:World} {K:PySem.W.Frag} {mg:Str->Option Value} {base:Heap} {N:List Str} {qual:Str} {scope:Scope} {f:Addr} {cd:Value} {A:Around} {outer:List Env} {s:Shared} {H:Hp} {E:XK} :
  PassesOwn (model P w) (cxOf CX P w K mg base N qual scope f cd A outer s H E).A (cxOf CX P w K mg base N qual scope f cd A outer s H E).env (cxOf CX P w K mg base N qual scope f cd A outer s H E).xe :=
 PassesOwn.leaving (Q₁:=fun e s''=>CX outer H s E e s'')
def zdJ (KC:Addr->List Value->Prop):Sp:=fun vs H Q _=>∃ a C dd bm x,vs=[.ref a,.str x]/\KC C bm/\H a=some (.ext (XO true a C dd))/\Q .non H
def zfg (KC:Addr->List Value->Prop) (fs:List Str):Sp:=fun vs H Q _=>∃ a C bm us,vs=.ref a :: us/\us.length=fs.length/\KC C bm/\H a=some (.ext (XO true a C none))/\(∀ u ∈ us,∃ y,FmtV u y/\y.length<=4000) /\
 ∀ dx,H dx=none->dx ≠ a->Q .non (upd (upd H a (.ext (XO true a C (some dx)))) dx (.ext (XD dx (fs.zip us))))
def zcB (nm:Str):List Str:=if nm = "NoWishes" then ["part", "number"] else if nm = "NoAim" then ["part"] else if nm = "NoText" then ["row"] else []
def zkk (K:PySem.W.Frag) (nm:Str):Option Addr:=match PySem.W.nsIn K mainGlobals nm with | some (some (.ref C))=>some C | _=>none
def NmAt (K:PySem.W.Frag) (nm:Str) (C:Addr):Prop:=∃ o cd,K.lookup C=some o/\o.data=.cls cd/\cd.name=nm
structure ClsK (K:PySem.W.Frag) (nm:Str) (C:Addr) (bm:List Value):Prop where
 ad:zkk K nm=some C
 nmd:NmAt K nm C
 up:nm = "DealError" /\ bm=VB ∨ nm ≠ "DealError" /\ ∃ D,zkk K "DealError" = some D/\bm=.ref D :: VB/\NmAt K "DealError" D
 cls:∀ (M:Model) (h:Heap),K.In h->∃ fI,XCls M h C bm fI
 fld:∀ (M:Model) (h:Heap),K.In h->∀ f ∈ (["part", "number", "row"]:List Str),zbp M C f none h
def KC (K:PySem.W.Frag):Addr->List Value->Prop:=fun C bm=>∃ nm,ClsK K nm C bm
section
variable {K:PySem.W.Frag} {nm x:Str} {C D:Addr} {bm bm':List Value}
theorem NmAt.ne (c:NmAt K nm C) (d:NmAt K x D) (h:x ≠ nm):C ≠ D:=fun e=>by
 subst e
 obtain ⟨o,cd,h1,h2,h3⟩:=c
 obtain ⟨o',cd',g1,g2,g3⟩:=d
 rw [h1] at g1;cases g1
 rw [h2] at g2;cases g2
 exact h (g3.symm.trans h3)
theorem ClsK.has (c:ClsK K nm C bm) (d:ClsK K x D bm'):(Value.ref C :: bm).contains (.ref D)=(decide (x=nm) || decide (x = "DealError")):=by
 by_cases e:x=nm
 ·subst e
  have:=c.ad.symm.trans d.ad
  cases this
  simp
 ·have ne:=c.nmd.ne d.nmd e
  rw [decide_eq_false e,Bool.false_or]
  have h0:(Value.ref D == Value.ref C)=false:=by simp [Ne.symm ne]
  rw [List.contains_cons,h0,Bool.false_or]
  by_cases e2:x = "DealError"
  ·subst e2
   rcases c.up with ⟨z,_⟩ | ⟨_,D',g,rfl,_⟩
   ·exact absurd z.symm e
   ·have:=g.symm.trans d.ad
    cases this
    simp
  ·rw [decide_eq_false e2]
   rcases c.up with ⟨_,rfl⟩ | ⟨_,D',g,rfl,n⟩
   ·rfl
   ·have ne2:=n.ne d.nmd e2
    have h1:(Value.ref D == Value.ref D')=false:=by simp [Ne.symm ne2]
    rw [List.contains_cons,h1,Bool.false_or]
    rfl
theorem ClsK.ty (c:ClsK K nm C bm) (T:String):(Value.ref C :: bm).contains (.type T)=VB.contains (.type T):=by
 rcases c.up with ⟨_,rfl⟩ | ⟨_,D',g,rfl,n⟩
 ·rfl
 ·rfl
end
section
variable {X:Cx} {e:Expr} {st:Stmt} {sts:List Stmt} {t:TE} {ts:TS}
theorem PE.kin (h:X.K.In X.base->PE X e t):PE X e t:=fun pins s σ H Q I q=>h I.ok.mod.kin pins s σ H Q I q
theorem PS.kin (h:X.K.In X.base->PS X st ts):PS X st ts:=fun pins s σ H Q I q=>h I.ok.mod.kin pins s σ H Q I q
theorem PSs.kin (h:X.K.In X.base->PSs X sts ts):PSs X sts ts:=fun pins s σ H Q I q=>h I.ok.mod.kin pins s σ H Q I q
theorem zfh (k:X.K.In X.base):∀ C bm,KC X.K C bm->∃ fI,XCls (model X.prog X.w) X.base C bm fI:=fun _ _ ⟨_,c⟩=>c.cls _ _ k
end
def znm (nm:Str) (us:List V):Prop:=(zcB nm=[]/\∃ x,us=[.str x]) ∨ (zcB nm ≠ []/\us.length=(zcB nm).length/\∀ u ∈ us,∃ y,FmtV u y/\y.length<=4000)
def znn (nm:Str) (C a:Addr) (us:List V) (H:Hp) (dd:Option Addr) (H':Hp):Prop :=
 (zcB nm=[]/\dd=none/\H'=H) ∨ (zcB nm ≠ []/\us.length=(zcB nm).length/\∃ dx,dd=some dx/\H dx=none/\dx ≠ a/\H'=upd (upd H a (.ext (XO true a C (some dx)))) dx (.ext (XD dx ((zcB nm).zip us))))
def zlb (K:PySem.W.Frag) (nm:Str) (C:Addr) (sp:Sp):Prop:=∀ a us H Q,H a=some (.ext (XO true a C none))->znm nm us->(∀ dd H',znn nm C a us H dd H'->Q .non H')->sp (.ref a :: us) H Q E0
def MkX (P:Program) (w:World) (K:PySem.W.Frag) (mg:Str->Option Value) (base:Heap) (nm:Str) (k:Nat):Prop :=
 ∃ C bm f fd ps sp,mg nm=some (.ref C)/\PySem.W.keepIn K (.ref C)=true/\ClsK K nm C bm/\(∀ (M:Model) (h:Heap),K.In h->XCls M h C bm f)/\FnOk P w K mg base CX0 k f fd ps sp/\zcU K fd ps []/\zlb K nm C sp
theorem zkl {K:PySem.W.Frag} {nm:Str} {C:Addr} {bm:List Value} (c:ClsK K nm C bm) (hf:zcB nm ≠ []):zlb K nm C (zfg (KC K) (zcB nm)):=fun a us H Q h ar q=>by
 rcases ar with ⟨z,_⟩ | ⟨_,hl,hu⟩
 ·exact absurd z hf
 ·exact ⟨a,C,bm,us,rfl,hl,⟨nm,c⟩,h,hu,fun dx hd hne=>q (some dx) _ (.inr ⟨hf,hl,dx,rfl,hd,hne,rfl⟩)⟩
end L2
namespace DL
open PySem PySem.Spec L2
open PyProof.Rows hiding St
abbrev D:=PyData
abbrev XW:=V->St->Hp->Prop
abbrev KX0:XW:=fun _ _ _=>False
def XFs (G:Hp) (dd:Option Addr) (fs:List Str) (vs:List V):Prop:=match dd with
 | none=>fs=[]/\vs=[]
 | some dx=>fs.length=vs.length/\G dx=some (.ext (XD dx (fs.zip vs)))
theorem XFs.mono {G G1:Hp} {dd:Option Addr} {fs:List Str} {vs:List V} (e:Same G G1) (h:XFs G dd fs vs):XFs G1 dd fs vs:=by
 cases dd with
 | none=>exact h
 | some dx=>exact ⟨h.1,e _ _ h.2⟩
def kD:Key->D
 | .inl i=>.int i
 | .inr x=>.str x
def tkD (k:List Key):D:=.tuple (k.map kD)
def pdD (ks:List (List Key)) (ds:List D):List (D × D):=(.bool true,.none) :: (ks.map tkD).zip ds
mutual
inductive Rep (K:PySem.W.Frag) (G:Hp):V->D->Prop where
 | non:Rep K G .non .none
 | bl (b:Bool):Rep K G (.bl b) (.bool b)
 | int (i:Int):Rep K G (.int i) (.int i)
 | str (x:Str):Rep K G (.str x) (.str x)
 | lst {a:Addr} {vs:List V} {ds:List D} (h:SqL K G a vs) (r:Reps K G vs ds):Rep K G (.ref a) (.list ds)
 | tup {a:Addr} {vs:List V} {ds:List D} (h:SqT K G a vs) (r:Reps K G vs ds):Rep K G (.ref a) (.tuple ds)
 | dic {a:Addr} (h:G a=some (.dK [])):Rep K G (.ref a) (.dict [])
 | exc {a C:Addr} {dd:Option Addr} {bm:List Value} {nm:Str} {vs:List V} {ds:List D} (c:ClsK K nm C bm) (h:G a=some (.ext (XO false a C dd))) (hd:XFs G dd (zcB nm) vs) (r:Reps K G vs ds):Rep K G (.ref a) (.dict [(.none,.tuple [.str nm,.list ds])])
 | dct {a:Addr} {ks:List Key} {vs:List V} {ds:List D} {kvs:List (D × D)} (e:kvs=(ks.map kD).zip ds) (hne:ks ≠ []) (hl:ks.length=ds.length) (h:G a=some (.dK (ks.zip vs))) (r:Reps K G vs ds):Rep K G (.ref a) (.dict kvs)
 | dtt {a:Addr} {o:Obj} {ks:List (List Key)} {vs:List V} {ds:List D} {kvs:List (D × D)} (e:kvs=pdD ks ds) (hl:ks.length=ds.length) (h:G a=some (.frz o (.dT (ks.zip vs)))) (r:Reps K G vs ds):Rep K G (.ref a) (.dict kvs)
inductive Reps (K:PySem.W.Frag) (G:Hp):List V->List D->Prop where
 | nil:Reps K G [] []
 | cons {v:V} {d:D} {vs:List V} {ds:List D} (h:Rep K G v d) (t:Reps K G vs ds):Reps K G (v :: vs) (d :: ds)
end
variable {K:PySem.W.Frag} {B G0 G G1 G2 H H1 H2:Hp}
theorem zdh {a:Addr} {xs:List V} (e:Same G G1) (h:SqT K G a xs):SqT K G1 a xs:=by
 rcases h with (h | ⟨o,h⟩) | h
 ·exact .inl (.inl (e _ _ h))
 ·exact .inl (.inr ⟨o,e _ _ h⟩)
 ·exact .inr h
mutual
theorem Rep.mono (e:Same G G1):∀ {v:V} {d:D},Rep K G v d->Rep K G1 v d
 | _,_,.non=>.non
 | _,_,.bl b=>.bl b
 | _,_,.int i=>.int i
 | _,_,.str x=>.str x
 | _,_,.lst h r=>.lst (e.seq h) (Reps.mono e r)
 | _,_,.tup h r=>.tup (zdh e h) (Reps.mono e r)
 | _,_,.dic h=>.dic (e _ _ h)
 | _,_,.exc c h hd r=>.exc c (e _ _ h) (hd.mono e) (Reps.mono e r)
 | _,_,.dct z n l h r=>.dct z n l (e _ _ h) (Reps.mono e r)
 | _,_,.dtt z l h r=>.dtt z l (e _ _ h) (Reps.mono e r)
theorem Reps.mono (e:Same G G1):∀ {vs:List V} {ds:List D},Reps K G vs ds->Reps K G1 vs ds
 | _,_,.nil=>.nil
 | _,_,.cons h t=>.cons (Rep.mono e h) (Reps.mono e t)
end
theorem ziF {ks:List Key} {ds:List D} {d:D} {r:List (D × D)} (e:(.none,d) :: r=(ks.map kD).zip ds):False:=by
 cases ks with
 | nil=>cases e
 | cons k ks =>
  cases ds with
  | nil=>cases e
  | cons d ds =>
   rw [List.map_cons,List.zip_cons_cons] at e
   injection e with e1 _
   injection e1 with e2 _
   cases k <;> cases e2
section
variable {v:V} {vs ws:List V} {ds es:List D}
theorem Rep.bl_inv {b:Bool} (h:Rep K G v (.bool b)):v=.bl b:=by cases h;rfl
theorem Rep.int_inv {i:Int} (h:Rep K G v (.int i)):v=.int i:=by cases h;rfl
theorem Rep.str_inv {x:Str} (h:Rep K G v (.str x)):v=.str x:=by cases h;rfl
theorem Rep.lst_inv (h:Rep K G v (.list ds)):∃ a vs,v=.ref a/\SqL K G a vs/\Reps K G vs ds:=by
 cases h with
 | lst h r=>exact ⟨_,_,rfl,h,r⟩
theorem Rep.tup_inv (h:Rep K G v (.tuple ds)):∃ a vs,v=.ref a/\SqT K G a vs/\Reps K G vs ds:=by
 cases h with
 | tup h r=>exact ⟨_,_,rfl,h,r⟩
theorem Rep.exc_inv {d:D} (h:Rep K G v (.dict [(.none,d)])):∃ a C dd bm nm vs ds,v=.ref a/\d=.tuple [.str nm,.list ds]/\ClsK K nm C bm/\G a=some (.ext (XO false a C dd))/\XFs G dd (zcB nm) vs/\Reps K G vs ds:=by
 cases h with
 | exc c h hd r=>exact ⟨_,_,_,_,_,_,_,rfl,rfl,c,h,hd,r⟩
 | dct e _ _ _ _=>exact (ziF e).elim
 | dtt e _ _ _=>exact nomatch (Prod.mk.inj (List.cons.inj e).1).1
theorem Reps.length:∀ {vs:List V} {ds:List D},Reps K G vs ds->vs.length=ds.length
 | _,_,.nil=>rfl
 | _,_,.cons _ t=>by rw [List.length_cons,List.length_cons,Reps.length t]
theorem Reps.get:∀ {vs:List V} {ds:List D} {i:Nat} {d:D},Reps K G vs ds->ds[i]?=some d->∃ v,vs[i]?=some v/\Rep K G v d
 | _,_,_,_,.nil,e=>by simp at e
 | _,_,0,_,.cons h _,e=>by simp at e;subst e;exact ⟨_,rfl,h⟩
 | _,_,i+1,d,.cons _ t,e=>by
  obtain ⟨u,h1,h2⟩:=Reps.get (i:=i) (d:=d) t (by simpa using e)
  exact ⟨u,by simpa using h1,h2⟩
theorem Reps.append:∀ {vs ws:List V} {ds es:List D},Reps K G vs ds->Reps K G ws es->Reps K G (vs ++ ws) (ds ++ es)
 | _,_,_,_,.nil,s=>s
 | _,_,_,_,.cons r t,s=>.cons r (Reps.append t s)
theorem Reps.take:∀ {vs:List V} {ds:List D} (n:Nat),Reps K G vs ds->Reps K G (vs.take n) (ds.take n)
 | _,_,0,_=>by rw [List.take_zero,List.take_zero];exact .nil
 | _,_,_+1,.nil=>.nil
 | _,_,n+1,.cons r t=>.cons r (Reps.take n t)
theorem Reps.drop:∀ {vs:List V} {ds:List D} (n:Nat),Reps K G vs ds->Reps K G (vs.drop n) (ds.drop n)
 | _,_,0,r=>r
 | _,_,_+1,.nil=>.nil
 | _,_,n+1,.cons _ t=>Reps.drop n t
theorem Reps.reverse:∀ {vs:List V} {ds:List D},Reps K G vs ds->Reps K G vs.reverse ds.reverse
 | _,_,.nil=>.nil
 | _,_,.cons r t=>by rw [List.reverse_cons,List.reverse_cons];exact Reps.append (Reps.reverse t) (.cons r .nil)
theorem Reps.set {v:V} {d:D} (r:Rep K G v d):∀ {vs:List V} {ds:List D} (i:Nat),Reps K G vs ds->Reps K G (vs.set i v) (ds.set i d)
 | _,_,_,.nil=>.nil
 | _,_,0,.cons _ t=>.cons r t
 | _,_,i+1,.cons q t=>.cons q (Reps.set r i t)
theorem Reps.ints:∀ (ns:List Int),Reps K G (ns.map V.int) (ns.map PyData.int)
 | []=>.nil
 | n :: ns=>.cons (.int n) (Reps.ints ns)
end
inductive MO where
 | l (vs:List V) | k (kvs:List (Key × V)) | t (kvs:List (List Key × V))
def MO.ho:MO->HO
 | .l vs=>.lst vs
 | .k kvs=>.dK kvs
 | .t kvs=>.dT kvs
structure Ext (G H G' H':Hp):Prop where
 h:Same H H'
 g:Same G G'
 gh:Same G' H'
 np:∀ a (u:MO),H a=some u.ho->G a=none->G' a=none
theorem Ext.refl (e:Same G H):Ext G H G H:=⟨.refl _,.refl _,e,fun _ _ _ q=>q⟩
theorem Ext.trans {G' H' G'' H'':Hp} (a:Ext G H G' H') (b:Ext G' H' G'' H''):Ext G H G'' H'' :=
 ⟨a.h.trans b.h,a.g.trans b.g,b.gh,fun x o e q=>b.np x o (a.h x _ e) (a.np x o e q)⟩
theorem zaN {p:Addr} {o:HO} (h:H p=none):Same H (upd H p o):=fun b u e=>by rw [zaw (zaL e h)];exact e
theorem Ext.new {p:Addr} {o:HO} (e:Same G H) (h:H p=none):Ext G H (upd G p o) (upd H p o):=by
 have hg:G p=none:=e.free h
 refine ⟨zaN h,zaN hg,fun b u q=>?_,fun a u q n=>?_⟩
 ·by_cases z:b=p
  ·subst z;rw [zat] at q ⊢;exact q
  ·rw [zaw z] at q ⊢;exact e b u q
 ·rw [zaw (zaL q h)];exact n
theorem Ext.hid {p:Addr} {o:HO} (e:Same G H) (h:H p=none):Ext G H G (upd H p o) :=
 ⟨zaN h,.refl _,e.trans (zaN h),fun _ _ _ n=>n⟩
inductive Sl where
 | pub (d:D) | own (ds:List D)
abbrev DEnv:=List (Option Sl)
structure EOk (K:PySem.W.Frag) (B G0 G H:Hp) (σ : St) (ρ : DEnv):Prop where
 bh:Same B H
 gh:Same G H
 g0:Same G0 G
 np:∀ a (u:MO),B a=some u.ho->G0 a=none->G a=none
 len : ρ.length = σ.length
 pub:∀ (i:Nat) d,ρ[i]?=some (some (.pub d))->∃ v,σ[i]?=some (some v)/\Rep K G v d
 own:∀ (i:Nat) ds,ρ[i]?=some (some (.own ds))->∃ a vs,σ[i]?=some (some (.ref a))/\B a=none/\G a=none/\H a=some (.lst vs)/\Reps K G vs ds
 sep:∀ (i j:Nat) a ds es,ρ[i]?=some (some (.own ds)) -> ρ[j]?=some (some (.own es)) -> σ[i]?=some (some (.ref a)) -> σ[j]?=some (some (.ref a))->i=j
theorem EOk.ext {G' H':Hp} {σ : St} {ρ : DEnv} (k:EOk K B G0 G H σ ρ) (e:Ext G H G' H'):EOk K B G0 G' H' σ ρ where
 bh:=k.bh.trans e.h
 gh:=e.gh
 g0:=k.g0.trans e.g
 np:=fun a o q n=>e.np a o (k.bh a _ q) (k.np a o q n)
 len:=k.len
 pub:=fun i d q=>let ⟨v,h1,h2⟩:=k.pub i d q;⟨v,h1,h2.mono e.g⟩
 own:=fun i ds q=>let ⟨a,vs,h1,h2,h3,h4,h5⟩:=k.own i ds q;⟨a,vs,h1,h2,e.np a (.l _) h4 h3,e.h a _ h4,h5.mono e.g⟩
 sep:=k.sep
theorem EOk.publish {σ : St} {ρ : DEnv} {i:Nat} {ds:List D} (k:EOk K B G0 G H σ ρ) (h : ρ[i]?=some (some (.own ds))) :
  ∃ a G',σ[i]?=some (some (.ref a))/\Same G G'/\Rep K G' (.ref a) (.list ds)/\EOk K B G0 G' H σ (ρ.set i (some (.pub (.list ds)))):=by
 obtain ⟨a,vs,h1,h2,h3,h4,h5⟩:=k.own i ds h
 have sg:Same G (upd G a (.lst vs)):=zaN h3
 have hr:Rep K (upd G a (.lst vs)) (.ref a) (.list ds):=.lst (SqL.of zat) (h5.mono sg)
 refine ⟨a,upd G a (.lst vs),h1,sg,hr,⟨k.bh,fun b u q=>?_,k.g0.trans sg,fun b o q n=>?_,by rw [List.length_set];exact k.len,fun j d q=>?_,fun j es q=>?_,fun j l c es fs q1 q2 s1 s2=>?_⟩⟩
 ·by_cases z:b=a
  ·subst z;rw [zat] at q;cases q;exact h4
  ·rw [zaw z] at q;exact k.gh b u q
 ·have z:b ≠ a:=fun z=>by subst z;rw [h2] at q;cases q
  rw [zaw z];exact k.np b o q n
 ·by_cases z:i=j
  ·subst z
   have hl:i < ρ.length:=(List.getElem?_eq_some_iff.mp h).1
   rw [List.getElem?_set_self hl] at q
   cases q
   exact ⟨.ref a,h1,hr⟩
  ·rw [List.getElem?_set_ne z] at q
   obtain ⟨v,g1,g2⟩:=k.pub j d q
   exact ⟨v,g1,g2.mono sg⟩
 ·by_cases z:i=j
  ·subst z
   have hl:i < ρ.length:=(List.getElem?_eq_some_iff.mp h).1
   rw [List.getElem?_set_self hl] at q
   cases q
  ·rw [List.getElem?_set_ne z] at q
   obtain ⟨b,ws,g1,g2,g3,g4,g5⟩:=k.own j es q
   have zb:b ≠ a:=fun e=>z (k.sep i j a ds es h q h1 (by rw [← e];exact g1))
   exact ⟨b,ws,g1,g2,by rw [zaw zb];exact g3,g4,g5.mono sg⟩
 ·have nz:∀ {m:Nat} {ts:List D},(ρ.set i (some (Sl.pub (.list ds))))[m]?=some (some (.own ts)) -> ρ[m]?=some (some (.own ts)):=fun {m ts} q=>by
   by_cases z:i=m
   ·subst z
    have hl:i < ρ.length:=(List.getElem?_eq_some_iff.mp h).1
    rw [List.getElem?_set_self hl] at q
    cases q
   ·rw [List.getElem?_set_ne z] at q;exact q
  exact k.sep j l c es fs (nz q1) (nz q2) s1 s2
inductive Res (α : Type) where
 | ok (a : α) (ρ : DEnv) | bad
abbrev M (α : Type):=DEnv->Res α
def zad {α : Type} (a : α):M α:=fun ρ=>.ok a ρ
def mOpt {α : Type} (o:Option α):M α:=fun ρ=>match o with | some a=>.ok a ρ | none=>.bad
def zas {α β : Type} (f:M α) (k : α -> M β):M β:=fun ρ=>match f ρ with | .ok a ρ'=>k a ρ' | .bad=>.bad
section
variable (K:PySem.W.Frag) (B G0:Hp)
def aft {α γ : Type} (R:Hp -> γ -> α -> Prop) (r:Res α) (G:Hp) (σ : St) (Q : γ -> Hp->Prop):Prop :=
 match r with
 | .ok d ρ'=>∀ v G' H',EOk K B G0 G' H' σ ρ'->Same G G'->R G' v d->Q v H'
 | .bad=>False
def tM {α γ : Type} (R:Hp -> γ -> α -> Prop) (f:M α):St->Hp->(γ -> Hp->Prop)->Prop:=fun σ H Q =>
 ∃ G ρ,EOk K B G0 G H σ ρ /\ aft K B G0 R (f ρ) G σ Q
abbrev tD (f:M D):TE:=tM K B G0 (Rep K) f
abbrev tDs (f:M (List D)):TA:=tM K B G0 (Reps K) f
abbrev tBo (f:M Bool):TT:=tM K B G0 (fun _ b c=>b=c) f
abbrev tOi (f:M (Option Int)):TO:=tM K B G0 (fun _ b c=>b=c) f
end
section
variable {K:PySem.W.Frag} {B G0:Hp} {α β γ δ ε : Type} {R:Hp -> γ -> α -> Prop} {S:Hp -> δ -> β -> Prop} {T:Hp -> ε -> α -> Prop} {σ : St} {H:Hp}
theorem aft.mono {r:Res α} {G G':Hp} {Q : γ -> Hp->Prop} (e:Same G G') (h:aft K B G0 R r G σ Q):aft K B G0 R r G' σ Q:=by
 cases r with
 | ok d ρ=>exact fun v G2 H2 k s q=>h v G2 H2 k (e.trans s) q
 | bad=>exact h
theorem aft.done {d : α} {ρ : DEnv} {G G' H H':Hp} {v : γ} {Q : γ -> Hp->Prop} (h:aft K B G0 R (.ok d ρ) G σ Q) (k:EOk K B G0 G H σ ρ) (e:Ext G H G' H') (r:R G' v d):Q v H' :=
 h v G' H' (k.ext e) e.g r
theorem aft.now {d : α} {ρ : DEnv} {G H:Hp} {v : γ} {Q : γ -> Hp->Prop} (h:aft K B G0 R (.ok d ρ) G σ Q) (k:EOk K B G0 G H σ ρ) (r:R G v d):Q v H :=
 h v G H k (.refl _) r
theorem aft.opt {o:Option α} {ρ : DEnv} {G:Hp} {Q : γ -> Hp->Prop} (h:aft K B G0 R (mOpt o ρ) G σ Q):∃ d,o=some d/\aft K B G0 R (.ok d ρ) G σ Q:=by
 cases o with
 | none=>exact h.elim
 | some d=>exact ⟨d,rfl,h⟩
theorem tM.bind {f:M α} {k : α -> M β} {Q : δ -> Hp->Prop} (h:tM K B G0 S (zas f k) σ H Q) :
  tM K B G0 R f σ H (fun v H1=>∃ G ρ d,EOk K B G0 G H1 σ ρ /\ R G v d/\aft K B G0 S (k d ρ) G σ Q):=by
 obtain ⟨G,ρ,e,a⟩:=h
 refine ⟨G,ρ,e,?_⟩
 unfold zas at a
 cases q:f ρ with
 | bad=>rw [q] at a;exact a.elim
 | ok d ρ1 =>
  rw [q] at a
  exact fun v G' H' e' s r=>⟨G',ρ1,d,e',r,aft.mono s a⟩
theorem tM.bind2 {α' γ':Type} {R':Hp -> γ' -> α'->Prop} {f:M α} {g : α -> M α'} {k : α -> α'->M β} {Q : δ -> Hp->Prop} (mo:∀ G G' v d,Same G G'->R G v d->R G' v d)
  (h:tM K B G0 S (zas f fun x=>zas (g x) fun y=>k x y) σ H Q) :
  tM K B G0 R f σ H (fun v H1=>∃ x,tM K B G0 R' (g x) σ H1 fun u H2=>∃ G ρ y,EOk K B G0 G H2 σ ρ /\ R G v x/\R' G u y/\aft K B G0 S (k x y ρ) G σ Q):=by
 obtain ⟨G,ρ,e,a⟩:=tM.bind (R:=R) h
 refine ⟨G,ρ,e,?_⟩
 cases q:f ρ with
 | bad=>rw [q] at a;exact a.elim
 | ok d ρ1 =>
  rw [q] at a
  intro v G' H' e' s r
  obtain ⟨G2,ρ2,d2,e2,r2,a2⟩:=a v G' H' e' s r
  refine ⟨d2,G2,ρ2,e2,?_⟩
  unfold zas at a2
  cases q2:g d2 ρ2 with
  | bad=>rw [q2] at a2;exact a2.elim
  | ok d3 ρ3 =>
   rw [q2] at a2
   exact fun u G3 H3 e3 s3 r3=>⟨G3,ρ3,d3,e3,mo _ _ _ _ s3 r2,r3,aft.mono s3 a2⟩
end
theorem ziG {K:PySem.W.Frag} (G G':Hp) (v:V) (d:D) (e:Same G G') (r:Rep K G v d):Rep K G' v d:=r.mono e
theorem tM.two {K:PySem.W.Frag} {B G0:Hp} {β δ : Type} {S:Hp -> δ -> β -> Prop} {σ : St} {H:Hp} {f g:M D} {k:D->D->M β} {Q : δ -> Hp->Prop} {P:V->V->Hp->Prop}
  (h:tM K B G0 S (zas f fun x=>zas g fun y=>k x y) σ H Q)
  (i:∀ v u H2 G ρ x y,EOk K B G0 G H2 σ ρ -> Rep K G v x->Rep K G u y->aft K B G0 S (k x y ρ) G σ Q->P v u H2) :
  tD K B G0 f σ H (fun v H1=>tD K B G0 g σ H1 fun u H2=>P v u H2):=by
 obtain ⟨G,ρ,e,a⟩:=tM.bind2 (R:=Rep K) (R':=Rep K) ziG h
 refine ⟨G,ρ,e,?_⟩
 cases q:f ρ with
 | bad=>rw [q] at a;exact a.elim
 | ok d ρ1 =>
  rw [q] at a
  intro v G' H' e' s r
  obtain ⟨x,G2,ρ2,e2,a2⟩:=a v G' H' e' s r
  refine ⟨G2,ρ2,e2,?_⟩
  cases q2:g ρ2 with
  | bad=>rw [q2] at a2;exact a2.elim
  | ok d3 ρ3 =>
   rw [q2] at a2
   intro u G3 H3 e3 s3 r3
   obtain ⟨G4,ρ4,y,e4,r4,r5,a5⟩:=a2 u G3 H3 e3 s3 r3
   exact i v u H3 G4 ρ4 x y e4 r4 r5 a5
theorem tM.one {K:PySem.W.Frag} {B G0:Hp} {α β γ δ : Type} {R:Hp -> γ -> α -> Prop} {S:Hp -> δ -> β -> Prop} {σ : St} {H:Hp} {f:M α} {k : α -> M β} {Q : δ -> Hp->Prop} {P : γ -> Hp->Prop}
  (h:tM K B G0 S (zas f k) σ H Q) (i:∀ v H2 G ρ x,EOk K B G0 G H2 σ ρ -> R G v x->aft K B G0 S (k x ρ) G σ Q->P v H2):tM K B G0 R f σ H P:=by
 obtain ⟨G,ρ,e,a⟩:=tM.bind (R:=R) h
 refine ⟨G,ρ,e,?_⟩
 cases q:f ρ with
 | bad=>rw [q] at a;exact a.elim
 | ok d ρ1 =>
  rw [q] at a
  intro v G' H' e' s r
  obtain ⟨G2,ρ2,d2,e2,r2,a2⟩:=a v G' H' e' s r
  exact i v H' G2 ρ2 d2 e2 r2 a2
section
variable {X:Cx} {B G0:Hp} {e a b:Expr} {pos:Pos}
theorem peof {t t':TE} (h:PE X e t) (i:∀ σ H Q,t' σ H Q->t σ H Q):PE X e t':=fun pins s σ H Q I q=>h pins s σ H Q I (i σ H Q q)
theorem ptof {t t':TT} (h:PT X e t) (i:∀ σ H Q,t' σ H Q->t σ H Q):PT X e t':=fun pins s σ H Q I q=>h pins s σ H Q I (i σ H Q q)
theorem paof {es:List Expr} {t t':TA} (h:PA X es t) (i:∀ σ H Q,t' σ H Q->t σ H Q):PA X es t':=fun ps pins s σ H Q I q=>h ps pins s σ H Q I (i σ H Q q)
theorem poof {eo:Option Expr} {t t':TO} (h:PO X eo t) (i:∀ σ H Q,t' σ H Q->t σ H Q):PO X eo t':=fun pins s σ H Q I q=>h pins s σ H Q I (i σ H Q q)
theorem psof {st:Stmt} {t t':TS} (h:PS X st t) (i:∀ D σ H,t' D σ H->t D σ H):PS X st t':=fun pins s σ H D I q=>h pins s σ H D I (i D σ H q)
theorem zno {st:List Stmt} {t t':TS} (h:PSs X st t) (i:∀ D σ H,t' D σ H->t D σ H):PSs X st t':=fun pins s σ H D I q=>h pins s σ H D I (i D σ H q)
def dVar (i:Nat):M D:=fun ρ=>match ρ[i]? with
 | some (some (.pub d))=>.ok d ρ
 | some (some (.own ds))=>.ok (.list ds) (ρ.set i (some (.pub (.list ds))))
 | _=>.bad
theorem zag {i:Nat} (h:PE X e (tVar i)):PE X e (tD X.K B G0 (dVar i)):=peof h fun σ H Q ⟨G,ρ,k,a⟩=>by
 unfold dVar at a
 cases q : ρ[i]? with
 | none=>rw [q] at a;exact a.elim
 | some o =>
  cases o with
  | none=>rw [q] at a;exact a.elim
  | some sl =>
   cases sl with
   | pub d =>
    rw [q] at a
    obtain ⟨v,h1,h2⟩:=k.pub i d q
    exact ⟨v,h1,a.now k h2⟩
   | own ds =>
    rw [q] at a
    obtain ⟨ad,G',h1,h2,h3,h4⟩:=k.publish q
    exact ⟨.ref ad,h1,a (.ref ad) G' H h4 h2 h3⟩
theorem zhi {v:V} {d:D} (h:PE X e (tC v)) (r:∀ G,Rep X.K G v d):PE X e (tD X.K B G0 (zad d)):=peof h fun σ H Q ⟨G,ρ,k,a⟩=>a.now k (r G)
theorem zai {i:Int} {j}:PE X (.Constant (.int i) j pos) (tD X.K B G0 (zad (.int i))):=zhi zmJ fun _=>.int i
theorem zbO {i:Bool} {j}:PE X (.Constant (.bool i) j pos) (tD X.K B G0 (zad (.bool i))):=zhi zoc fun _=>.bl i
theorem zbT {j}:PE X (.Constant .none j pos) (tD X.K B G0 (zad .none)):=zhi zmK fun _=>.non
theorem zaW {x:Str} {j}:PE X (.Constant (.str x) j pos) (tD X.K B G0 (zad (.str x))):=zhi zg7 fun _=>.str x
def dBin {β : Type} (op:D->D->Option β) (f g:M D):M β:=zas f fun x=>zas g fun y=>mOpt (op x y)
def OpD (X:Cx) (f:Value->Value->Sem Value) (op:D->D->Option D):Prop :=
 ∃ r:R2,OpR X f r/\∀ v u G H x y d Q,Same G H->Rep X.K G v x->Rep X.K G u y->op x y=some d->(∀ w G' H',Ext G H G' H'->Rep X.K G' w d->Q w H')->r v u H Q
theorem zaE {op:Operator} {p:D->D->Option D} {f g:M D} (o:OpD X (binaryOp op) p) (ha:PE X a (tD X.K B G0 f)) (hb:PE X b (tD X.K B G0 g)):PE X (.BinOp a op b pos) (tD X.K B G0 (dBin p f g)):=by
 obtain ⟨r,h,i⟩:=o
 refine peof (zmZ h ha hb) fun σ H Q q=>?_
 refine tM.two q fun v u H2 G ρ x y k rx ry a=>?_
 obtain ⟨d,e,a⟩:=a.opt
 exact i v u G H2 x y d Q k.gh rx ry e fun w G' H' ex rw=>a.done k ex rw
theorem OpD.or {f:Value->Value->Sem Value} {p q:D->D->Option D} (h:OpD X f p) (h':OpD X f q):OpD X f (fun x y=>(p x y).orElse fun _=>q x y):=by
 obtain ⟨r,h1,i1⟩:=h
 obtain ⟨r',h2,i2⟩:=h'
 refine ⟨_,h1.or h2,fun v u G H x y d Q s rx ry e k=>?_⟩
 dsimp only at e
 cases z:p x y with
 | some d' =>
  rw [z] at e
  have e':d'=d:=Option.some.inj e
  subst e'
  exact .inl (i1 v u G H x y d' Q s rx ry z k)
 | none =>
  rw [z] at e
  exact .inr (i2 v u G H x y d Q s rx ry e k)
def oII (g:Int->Int->Option D):D->D->Option D
 | .int i,.int j=>g i j
 | _,_=>none
theorem ziH {g:Int->Int->Option D} {x y d:D} (e:oII g x y=some d):∃ i j,x=.int i/\y=.int j/\g i j=some d:=by
 unfold oII at e
 split at e
 ·exact ⟨_,_,rfl,rfl,e⟩
 ·cases e
theorem OpD.int {f:Value->Value->Sem Value} {C:Int->Int->Prop} {g:Int->Int->V} {p:Int->Int->Option D} (h:OpR X f (rI C g)) (i:∀ i j d,p i j=some d->C i j/\∀ G,Rep X.K G (g i j) d):OpD X f (oII p):=by
 refine ⟨_,h,fun v u G H x y d Q s rx ry e k=>?_⟩
 obtain ⟨a,b,rfl,rfl,e⟩:=ziH e
 obtain ⟨c,r⟩:=i a b d e
 exact ⟨a,b,rx.int_inv,ry.int_inv,c,k _ G H (.refl s) (r G)⟩
theorem OpD.int0 {f:Value->Value->Sem Value} {g:Int->Int->V} {p:Int->Int->D} (h:OpR X f (rI0 g)) (i:∀ i j G,Rep X.K G (g i j) (p i j)):OpD X f (oII fun i j=>some (p i j)):=by
 refine ⟨_,h,fun v u G H x y d Q s rx ry e k=>?_⟩
 obtain ⟨a,b,rfl,rfl,e⟩:=ziH e
 cases e
 exact ⟨a,b,rx.int_inv,ry.int_inv,k _ G H (.refl s) (i a b G)⟩
end
section
variable {X:Cx} {B G0:Hp} {e a b c:Expr} {pos:Pos}
theorem znp:OpD X (binaryOp .Add) (oII fun i j=>some (.int (i+j))):=.int0 zm0 fun _ _ _=>.int _
theorem znq:OpD X (binaryOp .Sub) (oII fun i j=>some (.int (i - j))):=.int0 zm1 fun _ _ _=>.int _
def gMul (i j:Int):Option D:=if (-(2 ^ 64) < i/\i < 2 ^ 64) ∨ (-(2 ^ 64) < j/\j < 2 ^ 64) then some (.int (i * j)) else none
theorem zlI:OpD X (binaryOp .Mult) (oII gMul):=.int zm2 fun i j d h=>by
 unfold gMul at h
 split at h
 ·rename_i c
  cases h
  exact ⟨c,fun _=>.int _⟩
 ·cases h
def gMod (i j:Int):Option D:=if 0 < j then some (.int (i % j)) else none
theorem znr:OpD X (binaryOp .Mod) (oII gMod):=.int zm3 fun i j d h=>by
 unfold gMod at h
 split at h
 ·rename_i c
  cases h
  exact ⟨c,fun _=>.int _⟩
 ·cases h
theorem zkm:OpR X (binaryOp .FloorDiv) (rI (fun i j=>0 < j/\j < 2 ^ 64) fun i j=>.int (i / j)):=opI fun i j _ _ _ _ _ hc q=>by
 have h1:(0:Int) < j:=hc.1
 have h2:j < 2 ^ 64:=hc.2
 refine floordiv_int (by omega) (by rw [Int.fdiv_eq_ediv_of_nonneg i (by omega)];exact q) (.inl (PyProof.noPylong_of_log2 ?_))
 have h0:j.natAbs ≠ 0:=by omega
 have:j.natAbs.log2 < 64:=(Nat.log2_lt h0).mpr (by omega)
 omega
def gDiv (i j:Int):Option D:=if 0 < j/\j < 2 ^ 64 then some (.int (i / j)) else none
theorem zns:OpD X (binaryOp .FloorDiv) (oII gDiv):=.int zkm fun i j d h=>by
 unfold gDiv at h
 split at h
 ·rename_i c
  cases h
  exact ⟨c,fun _=>.int _⟩
 ·cases h
def gPow (i j:Int):Option D:=if 0<=j/\j<=1000000/\i.natAbs < 2 ^ 64 then some (.int (i ^ j.toNat)) else none
theorem znt:OpD X (binaryOp .Pow) (oII gPow):=.int zm4 fun i j d h=>by
 unfold gPow at h
 split at h
 ·rename_i c
  cases h
  exact ⟨c,fun _=>.int _⟩
 ·cases h
theorem lim:(1000000:Nat)<=sizeLine:=by decide
def zkn:D->D->Option D
 | .str x,.str y=>if x.length+y.length<=1000000 then some (.str (x ++ y)) else none
 | _,_=>none
theorem zlJ:OpD X (binaryOp .Add) zkn:=by
 refine ⟨_,zhG,fun v u G H x y d Q s rx ry e k=>?_⟩
 unfold zkn at e
 split at e
 ·split at e
  ·rename_i c
   cases e
   exact ⟨_,_,rx.str_inv,ry.str_inv,Nat.le_trans c lim,k _ G H (.refl s) (.str _)⟩
  ·cases e
 ·cases e
def zoz (K:PySem.W.Frag):R2:=fun x y H Q=>∃ l b xs zs,x=.ref l/\y=.ref b/\SqL K H l xs/\SqL K H b zs/\xs.length+zs.length<=sizeLine/\∀ p,H p=none->Q (.ref p) (upd H p (.lst (xs ++ zs)))
theorem zlK:OpR X (binaryOp .Add) (zoz X.K):=by
 intro pins s σ H x y v u Q I rx ry h
 obtain ⟨l,b,xs,zs,rfl,rfl,hH,hB,hz,q⟩:=h
 cases rx
 cases ry
 obtain ⟨its,r,⟨⟨c1,d1,t1,s1⟩,n1,e1,ec1,ed1,et1⟩,z1⟩:=I.list hH
 obtain ⟨its2,r2,⟨⟨c2,d2,t2,s2⟩,n2,e2,ec2,ed2,et2⟩,z2⟩:=I.list hB
 simp only at ec1 ed1 et1 ec2 ed2 et2
 subst ec1 ed1 et1 ec2 ed2 et2
 have hl:=r.length
 have hl2:=r2.length
 refine concat_meets ⟨_,e1,rfl⟩ ⟨_,e2,rfl⟩ noFill_list_add seq_list_add PySem.F.slot_list_add PySem.F.entry_list_add (PySem.F.args_list_add_2 _ _) (list_addW l b its.toArray its2.toArray n1 n2 none none s1 s2 (by rw [List.size_toArray,List.size_toArray];omega)) ⟨e1,e2,?_⟩
 have ea:its.toArray ++ its2.toArray=(its ++ its2).toArray:=by simp
 rw [ea]
 exact ⟨.ref _,_,I.lnew (t':=s.toks) (r.append r2) (by rw [List.length_append];omega),rfl,q _ I.fresh⟩
theorem zoA (a:Int) (t:Tok) (l:Addr) (items:Array Value) (n:Nat) (sl:Array (Option Value)) :
  Meets (Builtin.«int.__rmul__» ⟨[.int a t,.ref l],[]⟩) (fun _ R s=>s.heap.get? l=some { cls:=.type "list", dict:=none,data:=.seq items n,slots:=sl }/\R (.ok (.ret Value.notImplemented)) s) :=
 .of_wp fun prog w A R s h=>by obtain ⟨hp,g,d,tk,os⟩:=s;obtain ⟨hl,h⟩:=h;wp_walk;exact ⟨_,rfl,h⟩
theorem mulW (l:Addr) (items:Array Value) (n:Nat) (x:Int) (u:Tok) (sl:Array (Option Value)) (hc0 : ¬(!Builtin.List.listFitsIndex x)=true) (hc1 : ¬items.size * x.toNat > (2 ^ 63 - 1) / 8) (hc2 : ¬Builtin.List.listTooLong (items.size * x.toNat)=true) :
  Meets (Builtin.«list.__mul__» ⟨[.ref l,.int x u],[]⟩) (fun _ R s=>s.heap.get? l=some { cls:=.type "list", dict:=none,data:=.seq items n,slots:=sl }/\R (.ok (.ret (Value.ref s.heap.objs.size))) { s with heap:=s.heap.push { cls:=Value.type "list", data:=Data.seq (List.foldl (fun x1 x2=>x1 ++ x2) #[] (List.replicate (if items.isEmpty=true then 0 else x.toNat) items)) },toks:=s.toks }) :=
 .of_wp fun prog w A R s h=>by
  obtain ⟨hp,g,d,tk,os⟩:=s;obtain ⟨hl,h⟩:=h
  have hsz:=AutoListH.joined_fits hc2
  wp_walk;refine wpAny_ite_false (decide_eq_false (Nat.not_lt.mpr hsz)) ?_;wp_walk;exact ⟨_,rfl,h⟩
def zoB (K:PySem.W.Frag):R2:=fun x y H Q=>∃ l k xs,x=.ref l/\y=.int k/\SqL K H l xs /\ -(2 ^ 63)<=k/\k < 2 ^ 63/\xs.length * k.toNat<=sizeLine /\
 ∀ p,H p=none->Q (.ref p) (upd H p (.lst (List.replicate k.toNat xs).flatten))
theorem ziI:OpR X (binaryOp .Mult) (zoB X.K):=by
 intro pins s σ H x y v u Q I rx ry h
 obtain ⟨l,k,xs,rfl,rfl,hH,h1,h2,hz,q⟩:=h
 cases rx
 obtain ⟨t,rfl⟩:=ry
 obtain ⟨its,r,⟨⟨c1,d1,t1,sl⟩,n,e,ec1,ed1,et1⟩,z⟩:=I.list hH
 simp only at ec1 ed1 et1
 subst ec1 ed1 et1
 have hl:=r.length
 have hlen:its.toArray.size * k.toNat<=sizeLine:=by rw [List.size_toArray,← hl];exact hz
 have hcap : ¬ its.toArray.size * k.toNat > (2 ^ 63 - 1) / 8:=by
  have:(sizeLine:Nat)<=(2 ^ 63 - 1) / 8:=by decide
  omega
 have hfit : ¬ (!Builtin.List.listFitsIndex k)=true:=by
  rw [fitsIndex_both h1 h2]
  exact Bool.false_ne_true
 have hlong : ¬ Builtin.List.listTooLong (its.toArray.size * k.toNat)=true:=by
  rw [zj9 hlen]
  exact Bool.false_ne_true
 have hnew:List.foldl (fun x1 x2=>x1 ++ x2) #[] (List.replicate (if its.toArray.isEmpty=true then 0 else k.toNat) its.toArray)=(List.replicate k.toNat its).flatten.toArray:=by
  have f0:∀ m:Nat,List.foldl (fun x1 x2=>x1 ++ x2) #[] (List.replicate m its.toArray)=(List.replicate m its).flatten.toArray:=fun m=>by
   have:=zfM its m []
   rw [List.nil_append] at this
   exact this
  rw [f0]
  cases its with
  | nil=>simp
  | cons a r'=>rw [if_neg (by simp)]
 refine wpAny_binaryOp_repeat_ref (T := "list") (U := "int") (by decide) ⟨_,e,rfl⟩ (fun s'=>typeIs_int s' k t) noFill_list_mul F.fills_int_mul F.slot_int_rmul repeat_list F.slot_int_index.lookup
  (call_meets F.slot_int_rmul (typeIs_int s k t) F.entry_int_rmul (F.args_int_rmul_2 _ _) (zoA k t l its.toArray n sl)
   ⟨e,rfl,⟨_,e,rfl⟩,call_meets F.slot_list_mul ⟨_,e,rfl⟩ F.entry_list_mul (F.args_list_mul_2 _ _) (mulW l its.toArray n k t sl hfit hcap hlong) ⟨e,?_⟩⟩)
 rw [hnew]
 exact ⟨.ref _,_,I.lnew (t':=s.toks) (r.rep k.toNat) (by rw [zlz,Nat.mul_comm];exact hz),rfl,q _ I.fresh⟩
def zko:D->D->Option D
 | .list x,.list y=>if x.length+y.length<=1000000 then some (.list (x ++ y)) else none
 | _,_=>none
theorem zlL:OpD X (binaryOp .Add) zko:=by
 refine ⟨_,zlK,fun v u G H x y d Q s rx ry e k=>?_⟩
 unfold zko at e
 split at e
 ·split at e
  ·rename_i c
   cases e
   obtain ⟨l,vs,rfl,h1,r1⟩:=rx.lst_inv
   obtain ⟨b,ws,rfl,h2,r2⟩:=ry.lst_inv
   refine ⟨l,b,vs,ws,rfl,rfl,s.seq h1,s.seq h2,by rw [r1.length,r2.length];exact Nat.le_trans c lim,fun p hp=>k _ _ _ (Ext.new s hp) ?_⟩
   exact .lst (SqL.of zat) ((r1.append r2).mono (zaN (s.free hp)))
  ·cases e
 ·cases e
theorem Reps.rep {K:PySem.W.Frag} {G:Hp} {vs:List V} {ds:List D} (r:Reps K G vs ds):∀ n:Nat,Reps K G (List.replicate n vs).flatten (List.replicate n ds).flatten
 | 0=>.nil
 | n+1=>by rw [List.replicate_succ,List.replicate_succ,List.flatten_cons,List.flatten_cons];exact r.append (r.rep n)
def zkp:D->D->Option D
 | .list x,.int k=>if -1000000<=k/\k<=1000000/\x.length * k.toNat<=1000000 then some (.list (List.replicate k.toNat x).flatten) else none
 | _,_=>none
theorem zlM:OpD X (binaryOp .Mult) zkp:=by
 refine ⟨_,ziI,fun v u G H x y d Q s rx ry e k=>?_⟩
 unfold zkp at e
 split at e
 ·split at e
  ·rename_i c
   cases e
   obtain ⟨l,vs,rfl,h1,r1⟩:=rx.lst_inv
   refine ⟨l,_,vs,rfl,ry.int_inv,s.seq h1,by omega,by omega,by rw [r1.length];exact Nat.le_trans c.2.2 lim,fun p hp=>k _ _ _ (Ext.new s hp) ?_⟩
   exact .lst (SqL.of zat) ((r1.rep _).mono (zaN (s.free hp)))
  ·cases e
 ·cases e
def oAdd:D->D->Option D
 | .int i,.int j=>some (.int (i+j))
 | .str x,.str y=>if x.length+y.length<=1000000 then some (.str (x ++ y)) else none
 | .list x,.list y=>if x.length+y.length<=1000000 then some (.list (x ++ y)) else none
 | _,_=>none
def oSub:D->D->Option D
 | .int i,.int j=>some (.int (i - j))
 | _,_=>none
def oMul:D->D->Option D
 | .int i,.int j=>gMul i j
 | .list x,.int k=>if -1000000<=k/\k<=1000000/\x.length * k.toNat<=1000000 then some (.list (List.replicate k.toNat x).flatten) else none
 | _,_=>none
def oMod:D->D->Option D
 | .int i,.int j=>gMod i j
 | _,_=>none
def oDiv:D->D->Option D
 | .int i,.int j=>gDiv i j
 | _,_=>none
def oPow:D->D->Option D
 | .int i,.int j=>gPow i j
 | _,_=>none
theorem OpD.congr {f:Value->Value->Sem Value} {p q:D->D->Option D} (h:OpD X f p) (e:∀ x y,q x y=p x y):OpD X f q:=by
 have:q=p:=by funext x y;exact e x y
 rw [this];exact h
theorem zbq:OpD X (binaryOp .Add) oAdd:=(znp.or (zlJ.or zlL)).congr fun x y=>by cases x <;> cases y <;> first | rfl | (simp only [oAdd,oII,zkn,zko,Option.orElse];done) | (simp only [oAdd,oII,zkn,zko,Option.orElse];split <;> rfl)
theorem znu:OpD X (binaryOp .Sub) oSub:=znq.congr fun x y=>by cases x <;> cases y <;> rfl
theorem zdK:OpD X (binaryOp .Mult) oMul:=(zlI.or zlM).congr fun x y=>by
 cases x <;> cases y <;> first | rfl | (simp only [oMul,oII,zkp,Option.orElse];done) | (simp only [oMul,oII,zkp,Option.orElse];split <;> first | rfl | assumption)
theorem zdL:OpD X (binaryOp .Mod) oMod:=znr.congr fun x y=>by cases x <;> cases y <;> rfl
theorem znv:OpD X (binaryOp .FloorDiv) oDiv:=zns.congr fun x y=>by cases x <;> cases y <;> rfl
theorem zlN:OpD X (binaryOp .Pow) oPow:=znt.congr fun x y=>by cases x <;> cases y <;> rfl
end
section
variable {X:Cx} {B G0:Hp} {e a b c:Expr} {pos:Pos}
def OpB (X:Cx) (f:Value->Value->Sem Value) (op:D->D->Option Bool):Prop :=
 ∃ r:R2,OpR X f r/\∀ v u G H x y d Q,Same G H->Rep X.K G v x->Rep X.K G u y->op x y=some d->Q (.bl d) H->r v u H Q
theorem OpB.or {f:Value->Value->Sem Value} {p q:D->D->Option Bool} (h:OpB X f p) (h':OpB X f q):OpB X f (fun x y=>(p x y).orElse fun _=>q x y):=by
 obtain ⟨r,h1,i1⟩:=h
 obtain ⟨r',h2,i2⟩:=h'
 refine ⟨_,h1.or h2,fun v u G H x y d Q s rx ry e k=>?_⟩
 dsimp only at e
 cases z:p x y with
 | some d' =>
  rw [z] at e
  have e':d'=d:=Option.some.inj e
  subst e'
  exact .inl (i1 v u G H x y d' Q s rx ry z k)
 | none =>
  rw [z] at e
  exact .inr (i2 v u G H x y d Q s rx ry e k)
theorem OpB.congr {f:Value->Value->Sem Value} {p q:D->D->Option Bool} (h:OpB X f p) (e:∀ x y,q x y=p x y):OpB X f q:=by
 have:q=p:=by funext x y;exact e x y
 rw [this];exact h
theorem zbI {op:CmpOp} {p:D->D->Option Bool} {f g:M D} (o:OpB X (compareOp op) p) (ha:PE X a (tD X.K B G0 f)) (hb:PE X b (tD X.K B G0 g)) (hm:behindInMarks op b=false) :
  PT X (.Compare a [op] [b] pos) (tBo X.K B G0 (dBin p f g)):=by
 obtain ⟨r,h,i⟩:=o
 refine ptof (zgz h ha hb hm) fun σ H Q q=>?_
 refine tM.two q fun v u H2 G ρ x y k rx ry a=>?_
 obtain ⟨d,e,a⟩:=a.opt
 exact i v u G H2 x y d _ k.gh rx ry e ⟨d,rfl,a.now k rfl⟩
def mMap {α β : Type} (h : α -> β) (f:M α):M β:=zas f fun x=>zad (h x)
theorem tM.map {K:PySem.W.Frag} {α β γ δ : Type} {R:Hp -> γ -> α -> Prop} {S:Hp -> δ -> β -> Prop} {σ : St} {H:Hp} {h : α -> β} {f:M α} {Q : δ -> Hp->Prop} (j : γ -> δ) (q:tM K B G0 S (mMap h f) σ H Q)
  (i:∀ G v x,R G v x->S G (j v) (h x)):tM K B G0 R f σ H (fun v H'=>Q (j v) H') :=
 tM.one (R:=R) (f:=f) q fun v H2 G ρ x k r a=>aft.now (show aft K B G0 S (.ok (h x) ρ) G σ Q from a) k (i G v x r)
theorem tBo.val {K:PySem.W.Frag} {σ : St} {H:Hp} {f:M Bool} {Q:VK} (q:tD K B G0 (mMap PyData.bool f) σ H Q):tBo K B G0 f σ H (fun b H'=>Q (.bl b) H') :=
 tM.map (R:=fun _ b c=>b=c) V.bl q fun G v x e=>by rw [e];exact .bl x
theorem zgI {op:CmpOp} {p:D->D->Option Bool} {f g:M D} (o:OpB X (compareOp op) p) (ha:PE X a (tD X.K B G0 f)) (hb:PE X b (tD X.K B G0 g)) (hm:behindInMarks op b=false) :
  PE X (.Compare a [op] [b] pos) (tD X.K B G0 (mMap PyData.bool (dBin p f g))):=by
 obtain ⟨r,h,i⟩:=o
 refine peof (zim h ha hb hm) fun σ H Q q=>?_
 refine tM.two (tBo.val q) fun v u H2 G ρ x y k rx ry a=>?_
 obtain ⟨d,e,a⟩:=a.opt
 exact i v u G H2 x y d _ k.gh rx ry e (a.now k rfl)
def zel (p q:D->D->Option Bool) (f g h:M D):M Bool:=zas f fun x=>zas g fun y=>zas (mOpt (p x y)) fun t=>if t=true then zas h fun z=>mOpt (q y z) else zad false
theorem zfT {op op':CmpOp} {p q:D->D->Option Bool} {f g h:M D} (o:OpB X (compareOp op) p) (o':OpB X (compareOp op') q) (ha:PE X a (tD X.K B G0 f)) (hb:PE X b (tD X.K B G0 g)) (hc:PE X c (tD X.K B G0 h))
  (hm:lastMarks [op,op'] [b,c]=false:=by with_unfolding_all rfl):PT X (.Compare a [op,op'] [b,c] pos) (tBo X.K B G0 (zel p q f g h)):=by
 obtain ⟨r,h1,i⟩:=o
 obtain ⟨r',h2,i'⟩:=o'
 refine ptof (zj6 h1 h2 ha hb hc hm) fun σ H Q w=>?_
 refine tM.two w fun v u H2 G ρ x y k rx ry a=>?_
 cases z:p x y with
 | none=>rw [z] at a;exact a.elim
 | some t =>
  rw [z] at a
  refine i v u G H2 x y t _ k.gh rx ry z ⟨t,rfl,?_⟩
  cases t with
  | false =>
   rw [if_neg Bool.false_ne_true]
   exact ⟨false,rfl,aft.now a k rfl⟩
  | true =>
   rw [if_pos rfl]
   refine ⟨G,ρ,k,?_⟩
   have a4:aft X.K B G0 (fun _ (b:Bool) c=>b=c) ((zas h fun z=>mOpt (q y z)) ρ) G σ Q:=a
   unfold zas at a4
   cases z2:h ρ with
   | bad=>rw [z2] at a4;exact a4.elim
   | ok d ρ1 =>
    rw [z2] at a4
    intro w G5 H5 k5 s5 r5
    obtain ⟨t2,e2,a6⟩:=a4.opt
    exact i' u w G5 H5 y d t2 _ k5.gh (ry.mono s5) r5 e2 ⟨t2,rfl,a6 t2 G5 H5 k5 s5 rfl⟩
theorem ziJ {op op':CmpOp} {p q:D->D->Option Bool} {f g h:M D} (o:OpB X (compareOp op) p) (o':OpB X (compareOp op') q) (ha:PE X a (tD X.K B G0 f)) (hb:PE X b (tD X.K B G0 g)) (hc:PE X c (tD X.K B G0 h))
  (hm:lastMarks [op,op'] [b,c]=false:=by with_unfolding_all rfl):PE X (.Compare a [op,op'] [b,c] pos) (tD X.K B G0 (mMap PyData.bool (zel p q f g h))):=by
 obtain ⟨r,h1,i⟩:=o
 obtain ⟨r',h2,i'⟩:=o'
 refine peof (zj5 h1 h2 ha hb hc hm) fun σ H Q w=>?_
 refine tM.two (tBo.val w) fun v u H2 G ρ x y k rx ry a=>?_
 cases z:p x y with
 | none=>rw [z] at a;exact a.elim
 | some t =>
  rw [z] at a
  refine i v u G H2 x y t _ k.gh rx ry z ⟨t,rfl,?_⟩
  cases t with
  | false =>
   rw [if_neg Bool.false_ne_true]
   exact aft.now (v:=false) a k rfl
  | true =>
   rw [if_pos rfl]
   refine ⟨G,ρ,k,?_⟩
   have a4:aft X.K B G0 (fun _ (b:Bool) c=>b=c) ((zas h fun z=>mOpt (q y z)) ρ) G σ (fun b H'=>Q (.bl b) H'):=a
   unfold zas at a4
   cases z2:h ρ with
   | bad=>rw [z2] at a4;exact a4.elim
   | ok d ρ1 =>
    rw [z2] at a4
    intro w G5 H5 k5 s5 r5
    obtain ⟨t2,e2,a6⟩:=a4.opt
    exact i' u w G5 H5 y d t2 _ k5.gh (ry.mono s5) r5 e2 (a6 t2 G5 H5 k5 s5 rfl)
def oIB (g:Int->Int->Bool):D->D->Option Bool
 | .int i,.int j=>some (g i j)
 | _,_=>none
theorem OpB.int {f:Value->Value->Sem Value} {g:Int->Int->Bool} (h:OpR X f (rI0 fun i j=>.bl (g i j))):OpB X f (oIB g):=by
 refine ⟨_,h,fun v u G H x y d Q s rx ry e k=>?_⟩
 unfold oIB at e
 split at e
 ·cases e
  exact ⟨_,_,rx.int_inv,ry.int_inv,k⟩
 ·cases e
theorem B_lt:OpB X (compareOp .Lt) (oIB fun i j=>decide (i < j)):=.int zon
theorem B_le:OpB X (compareOp .LtE) (oIB fun i j=>decide (i<=j)):=.int zoo
theorem B_gt:OpB X (compareOp .Gt) (oIB fun i j=>decide (j < i)):=.int zop
theorem B_ge:OpB X (compareOp .GtE) (oIB fun i j=>decide (j<=i)):=.int zoq
mutual
theorem zbA {pins:List (Addr × Obj)} {s:Shared} {σ : St} {G H:Hp} (I:Inv X pins σ H s) (sg:Same G H):∀ {v:V} {d:D} {u:Value},Rep X.K G v d->RelV v u->d.canLay0=true->∃ as,Reads s.heap u d as
 | _,_,_,.non,r,_=>by cases r;exact ⟨_,.none⟩
 | _,_,_,.bl b,r,_=>by cases r;exact ⟨_,.bool b⟩
 | _,_,_,.int i,r,_=>by obtain ⟨t,rfl⟩:=r;exact ⟨_,.int i t⟩
 | _,_,_,.str x,r,_=>by obtain ⟨t,rfl⟩:=r;exact ⟨_,.str x t⟩
 | _,_,_,.lst h q,r,c=>by
  cases r
  obtain ⟨its,rv,⟨o,n,e,hc,_,hd⟩,hz⟩:=I.list (sg.seq h)
  obtain ⟨as,ra⟩:=readsAll_of I sg q rv (show PyData.canLayAll0 _=true by simpa [PyData.canLay0] using c)
  exact ⟨_,.list e hc hd (by simpa using ra)⟩
 | _,_,_,.tup h q,r,c=>by
  cases r
  obtain ⟨its,rv,p,hz⟩:=I.tuple (zdh sg h)
  obtain ⟨o,e,hc,n,hd⟩:=p
  obtain ⟨as,ra⟩:=readsAll_of I sg q rv (show PyData.canLayAll0 _=true by simpa [PyData.canLay0] using c)
  exact ⟨_,.tuple e hc hd (by simpa using ra)⟩
 | _,_,_,.dic h,r,c=>by simp [PyData.canLay0] at c
 | _,_,_,.exc _ _ _ _,r,c=>by simp [PyData.canLay0] at c
 | _,_,_,.dct _ _ _ _ _,r,c=>by simp [PyData.canLay0] at c
 | _,_,_,.dtt _ _ _ _,r,c=>by simp [PyData.canLay0] at c
theorem readsAll_of {pins:List (Addr × Obj)} {s:Shared} {σ : St} {G H:Hp} (I:Inv X pins σ H s) (sg:Same G H):∀ {vs:List V} {ds:List D} {us:List Value},Reps X.K G vs ds->Vals vs us->PyData.canLayAll0 ds=true->∃ as,ReadsAll s.heap us ds as
 | _,_,_,.nil,r,_=>by cases r;exact ⟨_,.nil⟩
 | _,_,_,.cons h t,r,c=>by
  cases r with
  | cons r1 r2 =>
   have c':=c
   rw [PyData.canLayAll0,Bool.and_eq_true] at c'
   obtain ⟨as,ra⟩:=zbA I sg h r1 c'.1
   obtain ⟨bs,rb⟩:=readsAll_of I sg t r2 c'.2
   exact ⟨_,.cons ra rb⟩
end
def oEq (x y:D):Option Bool:=if x.canLay0=true/\y.canLay0=true/\x.depth<=60 then some (PyData.eqv x y) else none
def oNe (x y:D):Option Bool:=if x.canLay0=true/\y.canLay0=true/\x.depth<=60 then some (!PyData.eqv x y) else none
theorem B_eq (hu:X.A.units+64 < cLine):OpB X (compareOp .Eq) oEq:=by
 refine ⟨fun v u H Q=>∃ G x y d,Same G H/\Rep X.K G v x/\Rep X.K G u y/\oEq x y=some d/\Q (.bl d) H,?_,fun v u G H x y d Q s rx ry e k=>⟨G,x,y,d,s,rx,ry,e,k⟩⟩
 intro pins s σ H x y v u Q I rx ry ⟨G,dx,dy,d,sg,px,py,e,q⟩
 unfold oEq at e
 split at e
 ·rename_i c
  cases e
  obtain ⟨as,ra⟩:=zbA I sg px rx c.1
  obtain ⟨bs,rb⟩:=zbA I sg py ry c.2.1
  exact SeqAt.compareEq_reads ra rb c.1 c.2.1 (by have:=c.2.2;omega) ⟨.bl _,H,I,rfl,q⟩
 ·cases e
theorem B_ne (hu:X.A.units+64 < cLine):OpB X (compareOp .NotEq) oNe:=by
 refine ⟨fun v u H Q=>∃ G x y d,Same G H/\Rep X.K G v x/\Rep X.K G u y/\oNe x y=some d/\Q (.bl d) H,?_,fun v u G H x y d Q s rx ry e k=>⟨G,x,y,d,s,rx,ry,e,k⟩⟩
 intro pins s σ H x y v u Q I rx ry ⟨G,dx,dy,d,sg,px,py,e,q⟩
 unfold oNe at e
 split at e
 ·rename_i c
  cases e
  obtain ⟨as,ra⟩:=zbA I sg px rx c.1
  obtain ⟨bs,rb⟩:=zbA I sg py ry c.2.1
  exact SeqAt.compareNe_reads ra rb c.1 c.2.1 (by have:=c.2.2;omega) ⟨.bl _,H,I,rfl,q⟩
 ·cases e
def isNon:D->Bool
 | .none=>true
 | _=>false
theorem Rep.isNon {K:PySem.W.Frag} {G:Hp} {v:V} {d:D} (r:Rep K G v d):DL.isNon d=decide (v=.non):=by
 cases r <;> simp [DL.isNon]
end
section
variable {X:Cx} {B G0:Hp} {e a b c:Expr} {pos:Pos} {es rest:List Expr}
theorem tM.nx {K:PySem.W.Frag} {α β γ δ : Type} {R:Hp -> γ -> α -> Prop} {S:Hp -> δ -> β -> Prop} {σ : St} {G H:Hp} {ρ : DEnv} {f:M α} {g : α -> M β} {Q : δ -> Hp->Prop} {P : γ -> Hp->Prop}
  (k:EOk K B G0 G H σ ρ) (a:aft K B G0 S (zas f g ρ) G σ Q) (i:∀ v H' G' ρ' x,EOk K B G0 G' H' σ ρ'->Same G G'->R G' v x->aft K B G0 S (g x ρ') G' σ Q->P v H'):tM K B G0 R f σ H P:=by
 refine ⟨G,ρ,k,?_⟩
 unfold zas at a
 cases q:f ρ with
 | bad=>rw [q] at a;exact a.elim
 | ok d ρ1 =>
  rw [q] at a
  exact fun v G' H' e s r=>i v H' G' ρ1 d e s r (aft.mono s a)
def mAnd (f g:M Bool):M Bool:=zas f fun t=>if t=true then g else zad false
def mOr (f g:M Bool):M Bool:=zas f fun t=>if t=true then zad true else g
def mNot (f:M Bool):M Bool:=mMap (fun t=>!t) f
theorem zlO {K:PySem.W.Frag} {f g:M Bool} {σ : St} {H:Hp} {Q:Bool->Hp->Prop} (q:tBo K B G0 (mAnd f g) σ H Q):tAnd (tBo K B G0 f) (tBo K B G0 g) σ H Q :=
 tM.one (R:=fun _ b c=>b=c) q fun v H2 G ρ x k r a=>by
  have r:v=x:=r
  subst r
  cases v with
  | true=>exact ⟨G,ρ,k,a⟩
  | false=>exact aft.now (v:=false) a k rfl
theorem znw {K:PySem.W.Frag} {f g:M Bool} {σ : St} {H:Hp} {Q:Bool->Hp->Prop} (q:tBo K B G0 (mOr f g) σ H Q):tOr (tBo K B G0 f) (tBo K B G0 g) σ H Q :=
 tM.one (R:=fun _ b c=>b=c) q fun v H2 G ρ x k r a=>by
  have r:v=x:=r
  subst r
  cases v with
  | false=>exact ⟨G,ρ,k,a⟩
  | true=>exact aft.now (v:=true) a k rfl
theorem pwof {t t':TT} (h:PW X e t) (i:∀ σ H Q,t' σ H Q->t σ H Q):PW X e t':=fun wh pins s σ H Q I q=>h wh pins s σ H Q I (i σ H Q q)
theorem zdq {f:M Bool} (ha:PT X a (tBo X.K B G0 f)):PW X (.BoolOp .And [a] pos) (tBo X.K B G0 f):=zlm ha
theorem zbU {f:M Bool} (ha:PT X a (tBo X.K B G0 f)):PW X (.BoolOp .Or [a] pos) (tBo X.K B G0 f):=zmN ha
theorem zem {f g:M Bool} (ha:PT X a (tBo X.K B G0 f)) (hb:PW X (.BoolOp .And (b :: rest) pos) (tBo X.K B G0 g)):PW X (.BoolOp .And (a :: b :: rest) pos) (tBo X.K B G0 (mAnd f g)):=pwof (zmO ha hb) fun _ _ _ q=>zlO q
theorem zcp {f g:M Bool} (ha:PT X a (tBo X.K B G0 f)) (hb:PW X (.BoolOp .Or (b :: rest) pos) (tBo X.K B G0 g)):PW X (.BoolOp .Or (a :: b :: rest) pos) (tBo X.K B G0 (mOr f g)):=pwof (zoe ha hb) fun _ _ _ q=>znw q
theorem za2 {f:M Bool} (ha:PT X a (tBo X.K B G0 f)):PT X (.UnaryOp .Not a pos) (tBo X.K B G0 (mNot f)):=ptof (zmP ha) fun σ H Q q=>tM.map (R:=fun _ b c=>b=c) (fun t=>!t) q fun _ v x e=>by rw [e]
def zaT (f:M D):M Bool:=zas f fun x=>match x with | .bool t=>zad t | _=>fun _=>.bad
theorem za8 {f:M D} (h:PE X e (tD X.K B G0 f)) (he:∀ whole,isTrue e X.env whole=(do let v ← whole;standAt e.pos;holding [v] (truthy v)):=by intro _;rfl):PT X e (tBo X.K B G0 (zaT f)) :=
 ptof (zmM h he) fun σ H Q q=>tM.one (R:=Rep X.K) q fun v H2 G ρ x k r a=>by
  cases x with
  | bool t=>exact ⟨t,r.bl_inv,aft.now (v:=t) a k rfl⟩
  | _=>exact a.elim
def zfi (f g:M D):M D:=zas f fun x=>match x with | .bool true=>g | .bool false=>zad (.bool false) | _=>fun _=>.bad
def mOrV (f g:M D):M D:=zas f fun x=>match x with | .bool true=>zad (.bool true) | .bool false=>g | _=>fun _=>.bad
def ziK (f:M D):M D:=zas f fun x=>match x with | .bool t=>zad (.bool (!t)) | _=>fun _=>.bad
theorem zdM {f g:M D} (ha:PE X a (tD X.K B G0 f)) (hb:PE X (.BoolOp .And (b :: rest) pos) (tD X.K B G0 g)):PE X (.BoolOp .And (a :: b :: rest) pos) (tD X.K B G0 (zfi f g)) :=
 peof (zmR ha hb) fun σ H Q q=>tM.one (R:=Rep X.K) q fun v H2 G ρ x k r a=>by
  cases x with
  | bool t =>
   refine ⟨t,r.bl_inv,?_⟩
   cases t with
   | true=>exact ⟨G,ρ,k,a⟩
   | false=>exact aft.now a k (.bl false)
  | _=>exact a.elim
theorem znx {f g:M D} (ha:PE X a (tD X.K B G0 f)) (hb:PE X (.BoolOp .Or (b :: rest) pos) (tD X.K B G0 g)):PE X (.BoolOp .Or (a :: b :: rest) pos) (tD X.K B G0 (mOrV f g)) :=
 peof (zoh ha hb) fun σ H Q q=>tM.one (R:=Rep X.K) q fun v H2 G ρ x k r a=>by
  cases x with
  | bool t =>
   refine ⟨t,r.bl_inv,?_⟩
   cases t with
   | false=>exact ⟨G,ρ,k,a⟩
   | true=>exact aft.now a k (.bl true)
  | _=>exact a.elim
theorem zen {op} {f:M D} (h:PE X a (tD X.K B G0 f)):PE X (.BoolOp op [a] pos) (tD X.K B G0 f):=zmQ h
theorem ziL {f:M D} (ha:PE X a (tD X.K B G0 f)):PE X (.UnaryOp .Not a pos) (tD X.K B G0 (ziK f)) :=
 peof (zmS ha) fun σ H Q q=>tM.one (R:=Rep X.K) q fun v H2 G ρ x k r a=>by
  cases x with
  | bool t=>exact ⟨t,r.bl_inv,aft.now a k (.bl _)⟩
  | _=>exact a.elim
theorem zlP {f:M D} {j p2} (ha:PE X a (tD X.K B G0 f)):PT X (.Compare a [.Is] [.Constant .none j p2] pos) (tBo X.K B G0 (mMap isNon f)) :=
 ptof (zig (zif ha)) fun σ H Q q=>tM.one (R:=Rep X.K) q fun v H2 G ρ x k r a=>⟨_,rfl,aft.now a k (by rw [r.isNon])⟩
theorem zd9 {f:M D} {j p2} (ha:PE X a (tD X.K B G0 f)):PT X (.Compare a [.IsNot] [.Constant .none j p2] pos) (tBo X.K B G0 (mMap (fun d=>!isNon d) f)) :=
 ptof (zig (zll ha)) fun σ H Q q=>tM.one (R:=Rep X.K) q fun v H2 G ρ x k r a=>⟨_,rfl,aft.now a k (by dsimp only;rw [r.isNon])⟩
theorem ziM {f:M D} {j p2} (ha:PE X a (tD X.K B G0 f)):PE X (.Compare a [.Is] [.Constant .none j p2] pos) (tD X.K B G0 (mMap (fun d=>.bool (isNon d)) f)) :=
 peof (zmL (zif ha)) fun σ H Q q=>tM.one (R:=Rep X.K) q fun v H2 G ρ x k r a=>aft.now a k (by dsimp only;rw [r.isNon];exact .bl _)
def mNil:M (List D):=zad []
def zae (f:M D) (g:M (List D)):M (List D):=zas f fun x=>zas g fun xs=>zad (x :: xs)
theorem zah:PA X [] (tDs X.K B G0 mNil):=paof zcT fun σ H Q ⟨G,ρ,k,a⟩=>aft.now a k .nil
theorem tM.twoA {K:PySem.W.Frag} {σ : St} {H:Hp} {f:M D} {g:M (List D)} {β δ : Type} {S:Hp -> δ -> β -> Prop} {k:D->List D->M β} {Q : δ -> Hp->Prop} {P:V->List V->Hp->Prop}
  (h:tM K B G0 S (zas f fun x=>zas g fun y=>k x y) σ H Q)
  (i:∀ v u H2 G ρ x y,EOk K B G0 G H2 σ ρ -> Rep K G v x->Reps K G u y->aft K B G0 S (k x y ρ) G σ Q->P v u H2) :
  tD K B G0 f σ H (fun v H1=>tDs K B G0 g σ H1 fun u H2=>P v u H2):=by
 obtain ⟨G,ρ,e,a⟩:=tM.bind2 (R:=Rep K) (R':=Reps K) ziG h
 refine ⟨G,ρ,e,?_⟩
 cases q:f ρ with
 | bad=>rw [q] at a;exact a.elim
 | ok d ρ1 =>
  rw [q] at a
  intro v G' H' e' s r
  obtain ⟨x,G2,ρ2,e2,a2⟩:=a v G' H' e' s r
  refine ⟨G2,ρ2,e2,?_⟩
  cases q2:g ρ2 with
  | bad=>rw [q2] at a2;exact a2.elim
  | ok d3 ρ3 =>
   rw [q2] at a2
   intro u G3 H3 e3 s3 r3
   obtain ⟨G4,ρ4,y,e4,r4,r5,a5⟩:=a2 u G3 H3 e3 s3 r3
   exact i v u H3 G4 ρ4 x y e4 r4 r5 a5
theorem zaa {f:M D} {g:M (List D)} (ha:PE X e (tD X.K B G0 f)) (hr:PA X es (tDs X.K B G0 g)) (hs:starEach (e :: es) X.env=(false,eval e X.env) :: starEach es X.env:=by rfl) :
  PA X (e :: es) (tDs X.K B G0 (zae f g)):=paof (zbw ha hr hs) fun σ H Q q=>tM.twoA q fun v u H2 G ρ x y k r1 r2 a=>aft.now a k (.cons r1 r2)
def mTup (f:M (List D)):M D:=zas f fun xs=>if xs.length<=1000000 then zad (.tuple xs) else fun _=>.bad
def mLst (f:M (List D)):M D:=zas f fun xs=>if xs.length<=1000000 then zad (.list xs) else fun _=>.bad
theorem zb0 {x1} {f:M (List D)} (h:PA X es (tDs X.K B G0 f)):PE X (.Tuple es x1 pos) (tD X.K B G0 (mTup f)) :=
 peof (zm8 h) fun σ H Q q=>tM.one (R:=Reps X.K) q fun v H2 G ρ x k r a=>by
  split at a
  ·rename_i c
   refine ⟨by rw [r.length];exact Nat.le_trans c lim,fun p hp=>?_⟩
   exact aft.done a k (Ext.new k.gh hp) (.tup (SqT.of zat) (r.mono (zaN (k.gh.free hp))))
  ·exact a.elim
theorem zaP {f:M (List D)} (h:PA X es (tDs X.K B G0 f)):PE X (.List es pos) (tD X.K B G0 (mLst f)) :=
 peof (zk6 h) fun σ H Q q=>tM.one (R:=Reps X.K) q fun v H2 G ρ x k r a=>by
  split at a
  ·rename_i c
   refine ⟨by rw [r.length];exact Nat.le_trans c lim,fun p hp=>?_⟩
   exact aft.done a k (Ext.new k.gh hp) (.lst (SqL.of zat) (r.mono (zaN (k.gh.free hp))))
  ·exact a.elim
def oIx:D->D->Option D
 | .list xs,.int i=>atI xs i
 | .tuple xs,.int i=>atI xs i
 | .str z,.int i=>if z.length<=1000000 then (atI z.cps.toList i).map fun c=>.str ⟨#[c]⟩ else none
 | _,_=>none
theorem Reps.atI {K:PySem.W.Frag} {G:Hp} {vs:List V} {ds:List D} {i:Int} {d:D} (r:Reps K G vs ds) (h:L2.atI ds i=some d):∃ v,L2.atI vs i=some v/\Rep K G v d:=by
 unfold L2.atI at h ⊢
 rw [r.length]
 cases z:ixN ds.length i with
 | none=>rw [z] at h;cases h
 | some j =>
  rw [z] at h
  exact r.get (i:=j) h
theorem zlc {K:PySem.W.Frag} {v u:V} {G H:Hp} {x y d:D} {Q:VK} (s:Same G H) (rx:Rep K G v x) (ry:Rep K G u y) (e:oIx x y=some d) (k:∀ w,Rep K G w d->Q w H):rIx K v u H Q:=by
 unfold oIx at e
 split at e
 ·obtain ⟨l,vs,rfl,h1,r1⟩:=rx.lst_inv
  obtain ⟨w,e1,r2⟩:=r1.atI e
  exact .inl ⟨l,vs,_,w,rfl,ry.int_inv,s.seq h1,e1,k w r2⟩
 ·obtain ⟨l,vs,rfl,h1,r1⟩:=rx.tup_inv
  obtain ⟨w,e1,r2⟩:=r1.atI e
  exact .inr (.inl ⟨l,vs,_,w,rfl,ry.int_inv,zdh s h1,e1,k w r2⟩)
 ·split at e
  ·rename_i z i hz
   cases q:L2.atI z.cps.toList i with
   | none=>rw [q] at e;cases e
   | some ch =>
    rw [q] at e
    cases e
    exact .inr (.inr ⟨z,i,ch,rx.str_inv,ry.int_inv,Nat.le_trans hz lim,q,k _ (.str _)⟩)
  ·cases e
 ·cases e
theorem zeo {f g:M D} (ha:PE X a (tD X.K B G0 f)) (hb:PE X b (tD X.K B G0 g)) (hs:zgD b):PE X (.Subscript a b pos) (tD X.K B G0 (dBin oIx f g)) :=
 peof (zna zk8 ha hb hs) fun σ H Q q=>tM.two q fun v u H2 G ρ x y k rx ry a=>by
  obtain ⟨d,e,a⟩:=a.opt
  exact zlc k.gh rx ry e fun w r=>a.now k r
def dIxN (i:Nat) (g:M D):M D:=fun ρ=>match ρ[i]? with
 | some (some (.pub d))=>(zas g fun y=>mOpt (oIx d y)) ρ
 | some (some (.own _))=>(zas g fun y=>fun ρ'=>match ρ'[i]? with | some (some (.own ds))=>mOpt (oIx (.list ds) y) ρ' | _=>.bad) ρ
 | _=>.bad
theorem zaz {i:Nat} {g:M D} (ha:PE X a (tVar i)) (hb:PE X b (tD X.K B G0 g)) (hs:zgD b):PE X (.Subscript a b pos) (tD X.K B G0 (dIxN i g)) :=
 peof (zna zk8 ha hb hs) fun σ H Q ⟨G,ρ,k,a⟩=>by
  unfold dIxN at a
  cases q : ρ[i]? with
  | none=>rw [q] at a;exact a.elim
  | some o =>
   cases o with
   | none=>rw [q] at a;exact a.elim
   | some sl =>
    cases sl with
    | pub d =>
     rw [q] at a
     obtain ⟨v,h1,h2⟩:=k.pub i d q
     refine ⟨v,h1,G,ρ,k,?_⟩
     dsimp only [zas] at a
     cases z:g ρ with
     | bad=>rw [z] at a;exact a.elim
     | ok y ρ1 =>
      rw [z] at a
      intro u G' H' k' s' r'
      obtain ⟨d',e',a'⟩:=aft.opt a
      exact zlc k'.gh (h2.mono s') r' e' fun w r=>a' w G' H' k' s' r
    | own ds =>
     rw [q] at a
     obtain ⟨ad,vs,h1,h2,h3,h4,h5⟩:=k.own i ds q
     refine ⟨.ref ad,h1,G,ρ,k,?_⟩
     dsimp only [zas] at a
     cases z:g ρ with
     | bad=>rw [z] at a;exact a.elim
     | ok y ρ1 =>
      rw [z] at a
      dsimp only at a
      intro u G' H' k' s' r'
      cases z2 : ρ1[i]? with
      | none=>rw [z2] at a;exact a.elim
      | some o2 =>
       cases o2 with
       | none=>rw [z2] at a;exact a.elim
       | some sl2 =>
        cases sl2 with
        | pub d2=>rw [z2] at a;exact a.elim
        | own es2 =>
         rw [z2] at a
         obtain ⟨d',e',a'⟩:=aft.opt a
         obtain ⟨ad',vs',g1,g2,g3,g4,g5⟩:=k'.own i es2 z2
         rw [h1] at g1
         cases g1
         unfold oIx at e'
         cases y with
         | int j =>
          obtain ⟨w,e1,r2⟩:=g5.atI e'
          exact .inl ⟨ad,vs',j,w,rfl,r'.int_inv,SqL.of g4,e1,a' w G' H' k' s' r2⟩
         | _=>cases e'
def cutD (xs:List D) (lo hi:Option Int):List D:=(xs.drop (HT.sIx xs.length 0 lo)).take (HT.sIx xs.length xs.length hi - HT.sIx xs.length 0 lo)
theorem Reps.cut {K:PySem.W.Frag} {G:Hp} {vs:List V} {ds:List D} (r:Reps K G vs ds) (lo hi:Option Int):Reps K G (cutV vs lo hi) (cutD ds lo hi):=by
 unfold cutV cutD
 rw [r.length]
 exact (r.drop _).take _
def zcx:D->Option (Option Int)
 | .int i=>some (some i)
 | _=>none
theorem zcq:PO X none (tOi X.K B G0 (zad none)):=poof zlt fun σ H Q ⟨G,ρ,k,a⟩=>aft.now a k rfl
theorem zbj {f:M D} (h:PE X e (tD X.K B G0 f)):PO X (some e) (tOi X.K B G0 (zas f fun x=>mOpt (zcx x))):=poof (zlu h) fun σ H Q q=>tM.one (R:=Rep X.K) q fun v H2 G ρ x k r a=>by
 cases x with
 | int i=>exact ⟨i,r.int_inv,aft.now (v:=some i) a k rfl⟩
 | _=>exact a.elim
end
def excK:List (D × D)->Bool
 | (.none,_) :: _=>true
 | _=>false
def tyOf:D->String
 | .none => "NoneType"
 | .bool _ => "bool"
 | .int _ => "int"
 | .str _ => "str"
 | .list _ => "list"
 | .tuple _ => "tuple"
 | .dict kvs=>if excK kvs=true then "" else "dict"
def isTy (d:D) (c:String):Bool:=tyOf d == c || (tyOf d == "bool" && c == "int")
def zgJ:D->Bool
 | .dict kvs=>excK kvs
 | _=>false
theorem nty {kvs:List (D × D)} {c:String} (h:(("dict" == c) || ("" == c))=false):isTy (.dict kvs) c=false:=by
 obtain ⟨h1,h2⟩:=Bool.or_eq_false_iff.mp h
 show ((if excK kvs=true then "" else "dict") == c || ((if excK kvs=true then "" else "dict") == "bool" && c == "int"))=false
 cases excK kvs with
 | true=>rw [if_pos rfl,h2];rfl
 | false=>rw [if_neg (by decide),h1];rfl
theorem zld {ks:List Key} {ds:List D}:tyOf (.dict ((ks.map kD).zip ds)) = "dict" /\ zgJ (.dict ((ks.map kD).zip ds))=false:=by
 cases ks with
 | nil=>exact ⟨rfl,rfl⟩
 | cons k ks =>
  cases ds with
  | nil=>exact ⟨rfl,rfl⟩
  | cons d ds=>cases k <;> exact ⟨rfl,rfl⟩
theorem zlQ (K:PySem.W.Frag) (d:D) (c:String) (nx:zgJ d=false) (hc:c = "int" ∨ c = "bool" ∨ c = "str" ∨ c = "list" ∨ c = "tuple" ∨ c = "dict"):PySem.W.kitOne K (.type (tyOf d)) (.type c)=some (isTy d c):=by
 cases d with
 | dict kvs =>
  have e:tyOf (.dict kvs) = "dict" := by
   have nx:excK kvs=false:=nx
   show (if excK kvs=true then "" else "dict")=_
   rw [nx];rfl
  unfold isTy
  rw [e]
  rcases hc with rfl | rfl | rfl | rfl | rfl | rfl <;> rfl
 | _=>rcases hc with rfl | rfl | rfl | rfl | rfl | rfl <;> rfl
section
variable {X:Cx} {B G0:Hp} {e a b c:Expr} {pos:Pos} {es rest:List Expr}
def zfU (X:Cx) (f:Value) (p:List D->Option D):Prop :=
 ∃ r,zdm X f r/\∀ vs G H ds d Q,Same G H->Reps X.K G vs ds->p ds=some d->(∀ w G' H',Ext G H G' H'->Rep X.K G' w d->Q w H')->r vs H Q
def zbr (p:List D->Option D) (f:M (List D)):M D:=zas f fun xs=>mOpt (p xs)
theorem za0 {x:Str} {p2:Pos} {id:String} {p:List D->Option D} {f:M (List D)} (hc:zfU X (.builtin id) p) (hg:Gl X x) (hm:X.mg x=none) (hv:bootBuiltins x=some (.builtin id)) (ha:PA X (e :: es) (tDs X.K B G0 f)) (hn:x ≠ "__name__" := by decide) (hdb:(x == ("__debug__" : Str))=false:=by decide)
  (he:starEach (e :: es) X.env=(false,eval e X.env) :: starEach es X.env:=by rfl) (hpl:(backTo pos (starEach es X.env)).any (·.1)=false:=by rfl):PE X (.Call (.Name x p2) (e :: es) [] pos) (tD X.K B G0 (zbr p f)):=by
 obtain ⟨r,h,i⟩:=hc
 refine peof (zc6 h hg hm hv ha hn hdb he hpl) fun σ H Q q=>tM.one (R:=Reps X.K) q fun v H2 G ρ x k rr a=>?_
 obtain ⟨d,e,a⟩:=a.opt
 exact i v G H2 x d Q k.gh rr e fun w G' H' ex rw=>a.done k ex rw
theorem zcd {x:Str} {p2:Pos} {T:String} {p:List D->Option D} {f:M (List D)} (hc:zfU X (.type T) p) (hg:Gl X x) (hm:X.mg x=none) (hv:bootBuiltins x=some (.type T)) (ha:PA X (e :: es) (tDs X.K B G0 f)) (hn:x ≠ "__name__" := by decide) (hdb:(x == ("__debug__" : Str))=false:=by decide)
  (he:starEach (e :: es) X.env=(false,eval e X.env) :: starEach es X.env:=by rfl) (hpl:(backTo pos (starEach es X.env)).any (·.1)=false:=by rfl):PE X (.Call (.Name x p2) (e :: es) [] pos) (tD X.K B G0 (zbr p f)):=by
 obtain ⟨r,h,i⟩:=hc
 refine peof (zdn h hg hm hv ha hn hdb he hpl) fun σ H Q q=>tM.one (R:=Reps X.K) q fun v H2 G ρ x k rr a=>?_
 obtain ⟨d,e,a⟩:=a.opt
 exact i v G H2 x d Q k.gh rr e fun w G' H' ex rw=>a.done k ex rw
theorem Reps.one_inv {K:PySem.W.Frag} {G:Hp} {vs:List V} {d:D} (r:Reps K G vs [d]):∃ v,vs=[v]/\Rep K G v d:=by
 cases r with
 | cons h t=>cases t;exact ⟨_,rfl,h⟩
theorem Reps.two_inv {K:PySem.W.Frag} {G:Hp} {vs:List V} {d d':D} (r:Reps K G vs [d,d']):∃ v v',vs=[v,v']/\Rep K G v d/\Rep K G v' d':=by
 cases r with
 | cons h t =>
  obtain ⟨v',rfl,r'⟩:=t.one_inv
  exact ⟨_,v',rfl,h,r'⟩
def oLen:List D->Option D
 | [.list xs]=>some (.int xs.length)
 | [.tuple xs]=>some (.int xs.length)
 | [.str z]=>if z.length<=1000000 then some (.int z.length) else none
 | _=>none
theorem zeO:zfU X (.builtin "len") oLen:=by
 refine ⟨_,zhb,fun vs G H ds d Q s r e k=>?_⟩
 unfold oLen at e
 split at e
 ·cases e
  obtain ⟨v,rfl,q⟩:=r.one_inv
  obtain ⟨l,ws,rfl,h1,r1⟩:=q.lst_inv
  exact ⟨.ref l,ws.length,rfl,.inl ⟨ws,s.seq h1,rfl⟩,by rw [r1.length];exact k _ G H (.refl s) (.int _)⟩
 ·cases e
  obtain ⟨v,rfl,q⟩:=r.one_inv
  obtain ⟨l,ws,rfl,h1,r1⟩:=q.tup_inv
  exact ⟨.ref l,ws.length,rfl,.inr ⟨ws,zdh s h1,rfl⟩,by rw [r1.length];exact k _ G H (.refl s) (.int _)⟩
 ·split at e
  ·rename_i z hz
   cases e
   obtain ⟨v,rfl,q⟩:=r.one_inv
   exact ⟨.str z,z.length,by rw [q.str_inv],⟨Nat.le_trans hz lim,rfl⟩,k _ G H (.refl s) (.int _)⟩
  ·cases e
 ·cases e
def zkq:List D->Option D
 | [.int i,.int j]=>some (.int (if j > i then j else i))
 | _=>none
theorem zny (hc:X.calm=true):zfU X (.builtin "max") zkq:=by
 refine ⟨_,zio hc,fun vs G H ds d Q s r e k=>?_⟩
 unfold zkq at e
 split at e
 ·cases e
  obtain ⟨v,v',rfl,r1,r2⟩:=r.two_inv
  exact ⟨_,_,by rw [r1.int_inv,r2.int_inv],k _ G H (.refl s) (.int _)⟩
 ·cases e
def zbZ (i:Nat):M D:=fun ρ=>match ρ[i]? with
 | some (some (.pub d))=>mOpt (oLen [d]) ρ
 | some (some (.own ds))=>.ok (.int ds.length) ρ
 | _=>.bad
theorem za3 {i:Nat} {p2:Pos} (hg:Gl X "len") (hm:X.mg "len" = none) (ha:PE X e (tVar i)) (he:starEach [e] X.env=[(false,eval e X.env)]:=by rfl):PE X (.Call (.Name "len" p2) [e] [] pos) (tD X.K B G0 (zbZ i)):=by
 refine peof (zc6 zhb hg hm PySem.boot_len (zbw ha zcT (by rw [he];rfl)) (by decide) (by decide) (by rw [he];rfl) rfl) fun σ H Q ⟨G,ρ,k,a⟩=>?_
 unfold zbZ at a
 cases q : ρ[i]? with
 | none=>rw [q] at a;exact a.elim
 | some o =>
  cases o with
  | none=>rw [q] at a;exact a.elim
  | some sl =>
   cases sl with
   | pub d =>
    rw [q] at a
    obtain ⟨v,h1,h2⟩:=k.pub i d q
    refine ⟨v,h1,?_⟩
    obtain ⟨d',e',a'⟩:=aft.opt a
    obtain ⟨r,hr,ir⟩:=@zeO X
    show ∃ x n,[v]=[x]/\LenV X.K x H n/\Q (.int n) H
    unfold oLen at e'
    split at e'
    ·rename_i xs he'
     injection he' with he1 he2
     subst he1
     cases e'
     obtain ⟨l,ws,rfl,g1,r1⟩:=h2.lst_inv
     exact ⟨.ref l,ws.length,rfl,.inl ⟨ws,k.gh.seq g1,rfl⟩,by rw [r1.length];exact a'.now k (.int _)⟩
    ·rename_i xs he'
     injection he' with he1 he2
     subst he1
     cases e'
     obtain ⟨l,ws,rfl,g1,r1⟩:=h2.tup_inv
     exact ⟨.ref l,ws.length,rfl,.inr ⟨ws,zdh k.gh g1,rfl⟩,by rw [r1.length];exact a'.now k (.int _)⟩
    ·rename_i z he'
     injection he' with he1 he2
     subst he1
     split at e'
     ·rename_i hz
      cases e'
      exact ⟨.str z,z.length,by rw [h2.str_inv],⟨Nat.le_trans hz lim,rfl⟩,a'.now k (.int _)⟩
     ·cases e'
    ·cases e'
   | own ds =>
    rw [q] at a
    obtain ⟨ad,vs,h1,g2,g3,h4,h5⟩:=k.own i ds q
    exact ⟨.ref ad,h1,.ref ad,vs.length,rfl,.inl ⟨vs,SqL.of h4,rfl⟩,by rw [h5.length];exact aft.now a k (.int _)⟩
theorem zlR {pins:List (Addr × Obj)} {s:Shared} {σ : St} {G H:Hp} {v:V} {u:Value} {d:D} {cv:Value} {t:Bool} {A:Around} {E:Value->Shared->Prop} {Q:Value->Shared->Prop} (I:Inv X pins σ H s) (sg:Same G H) (r:Rep X.K G v d) (rv:RelV v u) (nx:zgJ d=false)
  (ek:PySem.W.kitOne X.K (.type (tyOf d)) cv=some t) (h:∀ tk,Q (.bool t) { s with toks:=tk }):wpAny (model X.prog X.w) A (call (.builtin "isinstance") [u,cv]) Q E s:=by
 cases r with
 | non=>cases rv;exact PySem.W.kia_one PySem.W.kitx_none I.kIn True.intro ek (fun z=>nomatch z) h
 | bl y=>cases rv;exact PySem.W.kia_one PySem.W.kitx_bool I.kIn True.intro ek (fun z=>nomatch z) h
 | int i=>obtain ⟨t',rfl⟩:=rv;exact PySem.W.kia_one PySem.W.kitx_int I.kIn True.intro ek (fun z=>nomatch z) h
 | str y=>obtain ⟨t',rfl⟩:=rv;exact PySem.W.kia_one PySem.W.kitx_str I.kIn True.intro ek (fun z=>nomatch z) h
 | lst hl _ =>
  cases rv
  obtain ⟨its,r,⟨o,n,e,hc,_,hd⟩,hz⟩:=I.list (sg.seq hl)
  exact PySem.W.kia_one PySem.W.kitx_list I.kIn ⟨o,e,hc⟩ ek (fun z=>nomatch z) h
 | tup hl _ =>
  cases rv
  obtain ⟨its,r,p,hz⟩:=I.tuple (zdh sg hl)
  obtain ⟨o,e,hc,_⟩:=p
  exact PySem.W.kia_one PySem.W.kitx_tuple I.kIn ⟨o,e,hc⟩ ek (fun z=>nomatch z) h
 | @dic ad hd =>
  cases rv
  obtain ⟨_,_,vs,_,p⟩:=(show zb6 X.prog X.w H s.heap ad (.dK []) from I.hok ad _ (sg _ _ hd))
  obtain ⟨o,es,ep,h1,h2,_⟩:=p
  exact PySem.W.kia_one PySem.W.kitx_dict I.kIn ⟨o,h1,h2.1⟩ ek (fun z=>nomatch z) h
 | exc _ _ _ _=>cases nx
 | @dct ad ks vs ds kvs e0 _ _ hd _ =>
  cases rv
  subst e0
  rw [zld.1] at ek
  obtain ⟨_,_,vs,_,p⟩:=(show zb6 X.prog X.w H s.heap ad (.dK (ks.zip _)) from I.hok ad _ (sg _ _ hd))
  obtain ⟨o,es,ep,h1,h2,_⟩:=p
  exact PySem.W.kia_one PySem.W.kitx_dict I.kIn ⟨o,h1,h2.1⟩ ek (fun z=>nomatch z) h
 | @dtt ad ob ks vs ds kvs e0 _ hd _ =>
  cases rv
  subst e0
  obtain ⟨_,_,_,xs,_,o,es,ep,h1,h2,_⟩:=(show zb6 X.prog X.w H s.heap ad (.frz ob (.dT (ks.zip _))) from I.hok ad _ (sg _ _ hd))
  exact PySem.W.kia_one PySem.W.kitx_dict I.kIn ⟨o,h1,h2.1⟩ ek (fun z=>nomatch z) h
theorem zlS (c:String) (hc:c = "int" ∨ c = "bool" ∨ c = "str" ∨ c = "list" ∨ c = "tuple" ∨ c = "dict"):typeOf (.type c)=pure (.type "type"):=by
 rcases hc with rfl | rfl | rfl | rfl | rfl | rfl <;> kernel_rfl
theorem zkr:zdm X (.builtin "isinstance") (fun xs H Q=>∃ v c G d,xs=[v,.ty c]/\Same G H/\Rep X.K G v d/\(c = "int" ∨ c = "bool" ∨ c = "str" ∨ c = "list" ∨ c = "tuple" ∨ c = "dict")/\Q (.bl (isTy d c)) H):=by
 intro pins s σ H xs us Q I r h
 obtain ⟨v,c,G,d,rfl,sg,rp,hc,q⟩:=h
 obtain ⟨u,w',rfl,r1,r2⟩:=zm7 r
 cases (show w'=Value.type c from r2)
 by_cases nx:zgJ d=true
 ·cases rp with
  | @exc a C dd bm nm vs ds ck hx hd rr =>
   refine zff (zfh I.ok.mod.kin) pins s σ H [.ref a,.ty c] [u,.type c] Q I r ⟨a,C,dd,bm,false,.ty c,false,rfl,⟨nm,ck⟩,sg _ _ hx,.inr ⟨c,rfl,zlS c hc,?_⟩,?_⟩
   ·rw [ck.ty];rcases hc with rfl | rfl | rfl | rfl | rfl | rfl <;> rfl
   ·have e:isTy (.dict [(.none,.tuple [.str nm,.list ds])]) c=false:=by rcases hc with rfl | rfl | rfl | rfl | rfl | rfl <;> rfl
    rw [e] at q;exact q
  | dct e _ _ _ _=>subst e;rw [zld.2] at nx;cases nx
  | dtt e _ _ _=>subst e;cases nx
  | _=>cases nx
 ·have nx:zgJ d=false:=by simpa using nx
  exact zlR I sg rp r1 nx (zlQ X.K d c nx hc) fun tk=>⟨.bl _,H,I.tok tk,rfl,q⟩
theorem zb7:bootBuiltins "isinstance" = some (.builtin "isinstance"):=by decide +kernel
theorem zaI {f:M D} {p2 p3:Pos} {c:String} (hc:c = "int" ∨ c = "bool" ∨ c = "str" ∨ c = "list" ∨ c = "tuple" ∨ c = "dict") (hg:Gl X "isinstance") (hm:X.mg "isinstance" = none) (hg2:Gl X (Str.ofString c)) (hm2:X.mg (Str.ofString c)=none)
  (hv2:bootBuiltins (Str.ofString c)=some (.type c)) (ha:PE X e (tD X.K B G0 f)) (hn2:(Str.ofString c) ≠ "__name__") (hd2:((Str.ofString c) == ("__debug__" : Str))=false)
  (hs:starEach [e,.Name (Str.ofString c) p3] X.env=(false,eval e X.env) :: starEach [.Name (Str.ofString c) p3] X.env:=by rfl)
  (hs2:starEach [.Name (Str.ofString c) p3] X.env=[(false,eval (.Name (Str.ofString c) p3) X.env)]:=by rfl) :
  PE X (.Call (.Name "isinstance" p2) [e,.Name (Str.ofString c) p3] [] pos) (tD X.K B G0 (mMap (fun d=>.bool (isTy d c)) f)):=by
 refine peof (zc6 zkr hg hm zb7 (zbw ha (zbw (zie (v:=.ty c) hg2 hm2 hv2 rfl hn2 hd2) zcT (by rw [hs2];rfl)) hs) (by decide) (by decide) hs (by rw [hs2];rfl)) fun σ H Q q=>?_
 refine tM.one (R:=Rep X.K) q fun v H2 G ρ x k r a=>?_
 exact ⟨v,c,G,x,rfl,k.gh,r,hc,aft.now a k (.bl _)⟩
end
def spD (K:PySem.W.Frag) (n:Nat) (F:List D->Option D):Sp:=fun vs H Q _=>∃ G ds d,vs.length=n/\Same G H/\Reps K G vs ds/\F ds=some d/\∀ v G' H',Ext G H G' H'->Rep K G' v d->Q v H'
section
variable {K:PySem.W.Frag} {B G0 G H:Hp} {σ : St} {ρ : DEnv}
theorem EOk.exit (k:EOk K B G0 G H σ ρ):Ext G0 B G H:=⟨k.bh,k.g0,k.gh,k.np⟩
theorem zba {α : Type} {l:List α} {i:Nat} {x y : α} (h:(l.set i x)[i]?=some y):y=x:=by
 by_cases hl:i < l.length
 ·rw [List.getElem?_set_self hl] at h;cases h;rfl
 ·rw [List.getElem?_eq_none (by rw [List.length_set];omega)] at h;cases h
theorem EOk.setPub {i:Nat} {v:V} {d:D} (k:EOk K B G0 G H σ ρ) (r:Rep K G v d) (hi:i < ρ.length):EOk K B G0 G H (σ.set i (some v)) (ρ.set i (some (.pub d))) where
 bh:=k.bh
 gh:=k.gh
 g0:=k.g0
 np:=k.np
 len:=by rw [List.length_set,List.length_set];exact k.len
 pub:=fun j d' q=>by
  by_cases z:i=j
  ·subst z
   have:=zba q
   cases this
   exact ⟨v,List.getElem?_set_self (by rw [← k.len];exact hi),r⟩
  ·rw [List.getElem?_set_ne z] at q ⊢
   exact k.pub j d' q
 own:=fun j ds q=>by
  by_cases z:i=j
  ·subst z
   have:=zba q
   cases this
  ·rw [List.getElem?_set_ne z] at q ⊢
   exact k.own j ds q
 sep:=fun j l c es fs q1 q2 s1 s2=>by
  have z1:i ≠ j:=fun z=>by subst z;have:=zba q1;cases this
  have z2:i ≠ l:=fun z=>by subst z;have:=zba q2;cases this
  rw [List.getElem?_set_ne z1] at q1 s1
  rw [List.getElem?_set_ne z2] at q2 s2
  exact k.sep j l c es fs q1 q2 s1 s2
structure NewL (K:PySem.W.Frag) (B G H:Hp) (σ : St) (ρ : DEnv) (a:Addr) (vs:List V) (ds:List D):Prop where
 b:B a=none
 g:G a=none
 h:H a=some (.lst vs)
 r:Reps K G vs ds
 f:∀ (j:Nat) es,ρ[j]?=some (some (.own es)) -> σ[j]? ≠ some (some (.ref a))
theorem EOk.setOwn {i:Nat} {a:Addr} {vs:List V} {ds:List D} (k:EOk K B G0 G H σ ρ) (n:NewL K B G H σ ρ a vs ds) (hi:i < ρ.length):EOk K B G0 G H (σ.set i (some (.ref a))) (ρ.set i (some (.own ds))) where
 bh:=k.bh
 gh:=k.gh
 g0:=k.g0
 np:=k.np
 len:=by rw [List.length_set,List.length_set];exact k.len
 pub:=fun j d' q=>by
  by_cases z:i=j
  ·subst z
   have:=zba q
   cases this
  ·rw [List.getElem?_set_ne z] at q ⊢
   exact k.pub j d' q
 own:=fun j es q=>by
  by_cases z:i=j
  ·subst z
   have:=zba q
   cases this
   exact ⟨a,vs,List.getElem?_set_self (by rw [← k.len];exact hi),n.b,n.g,n.h,n.r⟩
  ·rw [List.getElem?_set_ne z] at q ⊢
   exact k.own j es q
 sep:=fun j l c es fs q1 q2 s1 s2=>by
  have hs:i < σ.length:=by rw [← k.len];exact hi
  by_cases z1:i=j
  ·subst z1
   rw [List.getElem?_set_self hs] at s1
   cases s1
   by_cases z2:i=l
   ·exact z2
   ·rw [List.getElem?_set_ne z2] at q2 s2
    exact absurd s2 (n.f l fs q2)
  ·by_cases z2:i=l
   ·subst z2
    rw [List.getElem?_set_self hs] at s2
    cases s2
    rw [List.getElem?_set_ne z1] at q1 s1
    exact absurd s1 (n.f j es q1)
   ·rw [List.getElem?_set_ne z1] at q1 s1
    rw [List.getElem?_set_ne z2] at q2 s2
    exact k.sep j l c es fs q1 q2 s1 s2
theorem EOk.change {i:Nat} {a:Addr} {vs:List V} {ds es:List D} (k:EOk K B G0 G H σ ρ) (q : ρ[i]?=some (some (.own ds))) (ha : σ[i]?=some (some (.ref a))) (r:Reps K G vs es) :
  EOk K B G0 G (upd H a (.lst vs)) σ (ρ.set i (some (.own es))):=by
 obtain ⟨a',ws,h1,h2,h3,h4,h5⟩:=k.own i ds q
 rw [ha] at h1
 cases h1
 have hi:i < ρ.length:=(List.getElem?_eq_some_iff.mp q).1
 refine ⟨fun b o e=>?_,fun b o e=>?_,k.g0,k.np,by rw [List.length_set];exact k.len,fun j d' e=>?_,fun j fs e=>?_,fun j l c fs gs q1 q2 s1 s2=>?_⟩
 ·rw [zaw (zaL e h2)];exact k.bh b o e
 ·rw [zaw (zaL e h3)];exact k.gh b o e
 ·by_cases z:i=j
  ·subst z
   have:=zba e
   cases this
  ·rw [List.getElem?_set_ne z] at e
   exact k.pub j d' e
 ·by_cases z:i=j
  ·subst z
   have:=zba e
   cases this
   exact ⟨a,vs,ha,h2,h3,zat,r⟩
  ·rw [List.getElem?_set_ne z] at e
   obtain ⟨c,us,g1,g2,g3,g4,g5⟩:=k.own j fs e
   have zc:c ≠ a:=fun w=>z (k.sep i j a ds fs q e ha (by rw [← w];exact g1))
   exact ⟨c,us,g1,g2,g3,by rw [zaw zc];exact g4,g5⟩
 ·have f:∀ {m:Nat} {ts:List D},(ρ.set i (some (Sl.own es)))[m]?=some (some (.own ts))->∃ ts',ρ[m]?=some (some (.own ts')):=fun {m ts} e=>by
   by_cases z:i=m
   ·subst z;exact ⟨ds,q⟩
   ·rw [List.getElem?_set_ne z] at e;exact ⟨ts,e⟩
  obtain ⟨f1,w1⟩:=f q1
  obtain ⟨f2,w2⟩:=f q2
  exact k.sep j l c f1 f2 w1 w2 s1 s2
end
inductive Out where
 | nx (ρ : DEnv) | rt (d:D) | bk (ρ : DEnv) | ct (ρ : DEnv) | ex (ρ : DEnv) (d:D) | bad
abbrev SM:=DEnv->Out
section
variable (K:PySem.W.Frag) (B G0:Hp) (KX:XW)
def aftS (o:Out) (G1:Hp) (Dn:Ends):Prop :=
 match o with
 | .nx ρ=>∀ σ G H,EOk K B G0 G H σ ρ -> Same G1 G->Dn.nx σ H
 | .bk ρ=>∀ σ G H,EOk K B G0 G H σ ρ -> Same G1 G->Dn.bk σ H
 | .ct ρ=>∀ σ G H,EOk K B G0 G H σ ρ -> Same G1 G->Dn.ct σ H
 | .rt d=>∀ v G H,Ext G0 B G H->Rep K G v d->Dn.rt v H
 | .ex ρ d=>∀ v σ G H,EOk K B G0 G H σ ρ -> Same G1 G->Rep K G v d->KX v σ H
 | .bad=>False
def tS (g:SM):TS:=fun Dn σ H=>∃ G ρ,EOk K B G0 G H σ ρ /\ aftS K B G0 KX (g ρ) G Dn
def sB {α : Type} (f:M α) (g : α -> SM):SM:=fun ρ=>match f ρ with | .ok a ρ'=>g a ρ' | .bad=>.bad
end
section
variable {X:Cx} {B G0:Hp} {KX:XW} {e a b c:Expr} {pos:Pos} {es rest:List Expr} {st:Stmt} {sts sts2:List Stmt}
theorem aftS.mono {K:PySem.W.Frag} {o:Out} {G G':Hp} {Dn:Ends} (e:Same G G') (h:aftS K B G0 KX o G Dn):aftS K B G0 KX o G' Dn:=by
 cases o with
 | nx ρ=>exact fun σ G2 H2 k s=>h σ G2 H2 k (e.trans s)
 | bk ρ=>exact fun σ G2 H2 k s=>h σ G2 H2 k (e.trans s)
 | ct ρ=>exact fun σ G2 H2 k s=>h σ G2 H2 k (e.trans s)
 | rt d=>exact h
 | ex ρ d=>exact fun v σ G2 H2 k s r=>h v σ G2 H2 k (e.trans s) r
 | bad=>exact h
theorem tS.bnd {K:PySem.W.Frag} {α γ : Type} {R:Hp -> γ -> α -> Prop} {f:M α} {g : α -> SM} {Dn:Ends} {σ : St} {H:Hp} {P : γ -> Hp->Prop} (q:tS K B G0 KX (sB f g) Dn σ H)
  (i:∀ v H' G' ρ' x,EOk K B G0 G' H' σ ρ'->R G' v x->aftS K B G0 KX (g x ρ') G' Dn->P v H'):tM K B G0 R f σ H P:=by
 obtain ⟨G,ρ,k,a⟩:=q
 refine ⟨G,ρ,k,?_⟩
 unfold sB at a
 cases z:f ρ with
 | bad=>rw [z] at a;exact a.elim
 | ok d ρ1 =>
  rw [z] at a
  exact fun v G' H' e s r=>i v H' G' ρ1 d e r (aftS.mono s a)
def sNx:SM:=fun ρ=>.nx ρ
def sSeq (g h:SM):SM:=fun ρ=>match g ρ with | .nx ρ'=>h ρ' | o=>o
theorem zaM:PSs X [] (tS X.K B G0 KX sNx):=zno zln fun D σ H ⟨G,ρ,k,a⟩=>a σ G H k (.refl _)
theorem zal {g h:SM} (h1:PS X st (tS X.K B G0 KX g)) (h2:PSs X sts (tS X.K B G0 KX h)):PSs X (st :: sts) (tS X.K B G0 KX (sSeq g h)):=zno (zd8 h1 h2) fun D σ H ⟨G,ρ,k,a⟩=>by
 refine ⟨G,ρ,k,?_⟩
 unfold sSeq at a
 cases z:g ρ with
 | nx ρ1=>rw [z] at a;exact fun σ' G' H' k' s'=>⟨G',ρ1,k',aftS.mono s' a⟩
 | rt d=>rw [z] at a;exact a
 | bk ρ1=>rw [z] at a;exact a
 | ct ρ1=>rw [z] at a;exact a
 | ex ρ1 d=>rw [z] at a;exact a
 | bad=>rw [z] at a;exact a.elim
theorem zaq {g:SM} (h1:PS X st (tS X.K B G0 KX g)):PSs X [st] (tS X.K B G0 KX g):=zfc h1
def sRet (f:M D):SM:=sB f fun d _=>.rt d
theorem zaH {f:M D} (h:PE X e (tD X.K B G0 f)):PS X (.Return (some e) pos) (tS X.K B G0 KX (sRet f)):=psof (zmT h) fun D σ H q=>tS.bnd (R:=Rep X.K) q fun v H' G' ρ' x k r a=>a v G' H' k.exit r
def sIf (f:M Bool) (g h:SM):SM:=sB f fun t=>if t=true then g else h
theorem zbe {f:M Bool} {g h:SM} (hc:PT X c (tBo X.K B G0 f)) (ha:PSs X sts (tS X.K B G0 KX g)) (hb:PSs X sts2 (tS X.K B G0 KX h)):PS X (.If c sts sts2 pos) (tS X.K B G0 KX (sIf f g h)) :=
 psof (zmU hc ha hb) fun D σ H q=>tS.bnd (R:=fun _ b c=>b=c) q fun v H' G' ρ' x k r a=>by
  have r:v=x:=r
  subst r
  cases v with
  | true=>exact ⟨G',ρ',k,a⟩
  | false=>exact ⟨G',ρ',k,a⟩
def tG (K:PySem.W.Frag) (B G0:Hp) (s:D->DEnv->Option DEnv):TG:=fun v σ H Q=>∃ G ρ d ρ',EOk K B G0 G H σ ρ /\ Rep K G v d/\s d ρ = some ρ'/\∀ σ' G' H',EOk K B G0 G' H' σ' ρ'->Same G G'->Q σ' H'
def tGs (K:PySem.W.Frag) (B G0:Hp) (s:List D->DEnv->Option DEnv):TGs:=fun v σ H Q=>∃ G ρ d ρ',EOk K B G0 G H σ ρ /\ Reps K G v d/\s d ρ = some ρ'/\∀ σ' G' H',EOk K B G0 G' H' σ' ρ'->Same G G'->Q σ' H'
theorem pgof {t t':TG} (h:PG X e t) (i:∀ v σ H Q,t' v σ H Q->t v σ H Q):PG X e t':=fun pins s σ H v u Q I r q=>h pins s σ H v u Q I r (i v σ H Q q)
theorem znz {t t':TGs} (h:PGs X es t) (i:∀ v σ H Q,t' v σ H Q->t v σ H Q):PGs X es t':=fun pins s σ H v u Q I r q=>h pins s σ H v u Q I r (i v σ H Q q)
def gN (i:Nat):D->DEnv->Option DEnv:=fun d ρ=>if i < ρ.length then some (ρ.set i (some (.pub d))) else none
theorem zaG {i:Nat} (h:PG X e (zlo i)):PG X e (tG X.K B G0 (gN i)):=pgof h fun v σ H Q ⟨G,ρ,d,ρ',k,r,e,q⟩=>by
 unfold gN at e
 split at e
 ·rename_i hi
  cases e
  exact q _ G H (k.setPub r hi) (.refl _)
 ·cases e
def gN0:List D->DEnv->Option DEnv:=fun d ρ=>match d with | []=>some ρ | _=>none
def gNC (s:D->DEnv->Option DEnv) (t:List D->DEnv->Option DEnv):List D->DEnv->Option DEnv:=fun ds ρ=>match ds with | d :: r=>(s d ρ).bind (t r) | []=>none
theorem zdY:PGs X [] (tGs X.K B G0 gN0):=znz zlp fun v σ H Q ⟨G,ρ,d,ρ',k,r,e,q⟩=>by
 cases r with
 | nil=>cases e;exact ⟨rfl,q σ G H k (.refl _)⟩
 | cons _ _=>cases e
theorem zbs {s:D->DEnv->Option DEnv} {t:List D->DEnv->Option DEnv} (h1:PG X e (tG X.K B G0 s)) (h2:PGs X es (tGs X.K B G0 t))
  (hs:(assignEach (e :: es) X.env).map (·.2)=assign e X.env :: (assignEach es X.env).map (·.2):=by rfl):PGs X (e :: es) (tGs X.K B G0 (gNC s t)):=znz (zj2 h1 h2 hs) fun v σ H Q ⟨G,ρ,d,ρ',k,r,e,q⟩=>by
 cases r with
 | nil=>cases e
 | @cons w dw ws dws rw rt =>
  unfold gNC at e
  dsimp only at e
  cases z:s dw ρ with
  | none=>rw [z] at e;cases e
  | some ρ1 =>
   rw [z] at e
   refine ⟨w,ws,rfl,G,ρ,dw,ρ1,k,rw,z,fun σ' G' H' k' s'=>?_⟩
   exact ⟨G',ρ1,dws,ρ',k',rt.mono s',e,fun σ2 G2 H2 k2 s2=>q σ2 G2 H2 k2 (s'.trans s2)⟩
def gT (n:Nat) (t:List D->DEnv->Option DEnv):D->DEnv->Option DEnv:=fun d ρ=>match d with | .tuple ds=>if ds.length=n then t ds ρ else none | _=>none
theorem zdZ {k1:Nat} {t:List D->DEnv->Option DEnv} {n:Nat} (hc:X.calm=true) (h:PGs X es (tGs X.K B G0 t))
  (hn:(assignEach es X.env).length=n:=by rfl) (hst:(assignEach es X.env).findIdx? (·.1)=none:=by rfl):PG X (.Tuple es k1 pos) (tG X.K B G0 (gT n t)):=pgof (zmV hc h hn hst) fun v σ H Q ⟨G,ρ,d,ρ',k,r,e,q⟩=>by
 unfold gT at e
 split at e
 ·split at e
  ·rename_i hl
   obtain ⟨ad,vs,rfl,h1,r1⟩:=r.tup_inv
   exact ⟨ad,vs,rfl,zdh k.gh h1,by rw [r1.length];exact hl,G,ρ,_,ρ',k,r1,e,q⟩
  ·cases e
 ·cases e
def sAsg (f:M D) (s:D->DEnv->Option DEnv):SM:=sB f fun d ρ=>match s d ρ with | some ρ'=>.nx ρ' | none=>.bad
theorem zhj {tg:Expr} {f:M D} {s:D->DEnv->Option DEnv} (he:PE X e (tD X.K B G0 f)) (hg:PG X tg (tG X.K B G0 s)) (hs:swapsWithSole [tg] e pos.line X.env=pure false:=by rfl) (hw:swappedStores [tg] e X.env=pure none:=by rfl)
  (h1:(assignEach [tg] X.env).map (·.2)=[assign tg X.env]:=by rfl):PS X (.Assign [tg] e pos) (tS X.K B G0 KX (sAsg f s)) :=
 psof (zmW he hg hs hw h1) fun D σ H q=>tS.bnd (R:=Rep X.K) q fun v H' G' ρ' x k r a=>by
  cases z:s x ρ' with
  | none=>rw [z] at a;exact a.elim
  | some ρ2=>rw [z] at a;exact ⟨G',ρ',x,ρ2,k,r,z,fun σ2 G2 H2 k2 s2=>a σ2 G2 H2 k2 s2⟩
def sSet (i:Nat) (f:M D):SM:=sAsg f (gN i)
theorem zaQ {i:Nat} {x:Str} {f:M D} {p2:Pos} (hN:X.N.Nodup) (hi:X.N[i]?=some x) (hx:Loc X.env.scope x) (he:PE X e (tD X.K B G0 f)) (hs:swapsWith e (some (.Name x p2)) pos.line X.env=pure false:=by rfl)
  (hf:X.fn x=true ∨ X.env.scope.names.lookup x=some .local:=by first | exact .inl rfl | exact .inr rfl | assumption):PS X (.Assign [.Name x p2] e pos) (tS X.K B G0 KX (sSet i f)) :=
 psof (zk3 hN hi hx he hs hf) fun D σ H q=>tS.bnd (R:=Rep X.K) q fun v H' G' ρ' x k r a=>by
  unfold gN at a
  split at a
  ·rename_i ρ2 hz
   split at hz
   ·rename_i hi2
    cases hz
    exact a _ G' H' (k.setPub r hi2) (.refl _)
   ·cases hz
  ·exact a.elim
def tL (K:PySem.W.Frag) (B G0:Hp) (f:M (List D)):TE:=fun σ H Q=>∃ G ρ,EOk K B G0 G H σ ρ /\ match f ρ with
 | .ok ds ρ'=>∀ a vs G' H',EOk K B G0 G' H' σ ρ'->Same G G'->NewL K B G' H' σ ρ' a vs ds->Q (.ref a) H'
 | .bad=>False
def zb1 (i:Nat) (f:M (List D)):SM:=sB f fun ds ρ=>if i < ρ.length then .nx (ρ.set i (some (.own ds))) else .bad
theorem zcg {i:Nat} {x:Str} {f:M (List D)} {p2:Pos} (hN:X.N.Nodup) (hi:X.N[i]?=some x) (hx:Loc X.env.scope x) (he:PE X e (tL X.K B G0 f)) (hs:swapsWith e (some (.Name x p2)) pos.line X.env=pure false:=by rfl)
  (hf:X.fn x=true ∨ X.env.scope.names.lookup x=some .local:=by first | exact .inl rfl | exact .inr rfl | assumption):PS X (.Assign [.Name x p2] e pos) (tS X.K B G0 KX (zb1 i f)) :=
 psof (zk3 hN hi hx he hs hf) fun D σ H ⟨G,ρ,k,a⟩=>by
  refine ⟨G,ρ,k,?_⟩
  unfold zb1 sB at a
  cases z:f ρ with
  | bad=>rw [z] at a;exact a.elim
  | ok ds ρ1 =>
   rw [z] at a
   intro ad vs G' H' k' s' n
   dsimp only at a
   split at a
   ·rename_i hl
    exact a _ G' H' (k'.setOwn n hl) s'
   ·exact a.elim
theorem NewL.of {K:PySem.W.Frag} {G H:Hp} {σ : St} {ρ : DEnv} {p:Addr} {vs:List V} {ds:List D} (k:EOk K B G0 G H σ ρ) (hp:H p=none) (r:Reps K G vs ds):NewL K B G (upd H p (.lst vs)) σ ρ p vs ds where
 b:=k.bh.free hp
 g:=k.gh.free hp
 h:=zat
 r:=r
 f:=fun j es q z=>by
  obtain ⟨a,ws,h1,h2,h3,h4,h5⟩:=k.own j es q
  rw [z] at h1
  cases h1
  rw [hp] at h4;cases h4
theorem zcI {f:M (List D)} (h:PA X es (tDs X.K B G0 f)):PE X (.List es pos) (tL X.K B G0 (zas f fun xs=>if xs.length<=1000000 then zad xs else fun _=>.bad)) :=
 peof (zk6 h) fun σ H Q ⟨G,ρ,k,a⟩=>by
  refine ⟨G,ρ,k,?_⟩
  unfold zas at a
  cases z:f ρ with
  | bad=>rw [z] at a;exact a.elim
  | ok ds ρ1 =>
   rw [z] at a
   dsimp only at a
   intro v G' H' k' s' r
   by_cases c:ds.length<=1000000
   ·rw [if_pos c] at a
    refine ⟨by rw [r.length];exact Nat.le_trans c lim,fun p hp=>?_⟩
    exact a p v G' _ (k'.ext (Ext.hid k'.gh hp)) s' (NewL.of k' hp r)
   ·rw [if_neg c] at a;exact a.elim
def sApp (i:Nat) (f:M D):SM:=fun ρ0=>match ρ0[i]? with
 | some (some (.own _))=>sB f (fun d ρ=>match ρ[i]? with
  | some (some (.own ds))=>if ds.length < 1000000 then .nx (ρ.set i (some (.own (ds ++ [d])))) else .bad
  | _=>.bad) ρ0
 | _=>.bad
theorem zeY {i:Nat} {f:M D} {o:Expr} {apos cpos:Pos} (ho:PE X o (tVar i)) (he:PE X e (tD X.K B G0 f))
  (hbase:attributeBase o "append" X.env (eval o X.env)=eval o X.env:=by rfl)
  (hfew:((backTo cpos (starEach [e] X.env)).all (fun x=>!x.1) && (backToKw cpos (keywordEach [] X.env)).all (fun x=>x.1.isSome)
   && decide ([e].length+([]:List Keyword).length+(if ([]:List Keyword).isEmpty then 0 else 1) < 30))=true:=by rfl)
  (hline:(apos.endLine == cpos.line)=true:=by rfl) (hs:starEach [e] X.env=[(false,eval e X.env)]:=by rfl)
  (hsw:swapsWith (.Call (.Attribute o "append" apos) [e] [] cpos) none pos.line X.env=pure false:=by rfl) :
  PS X (.Expr (.Call (.Attribute o "append" apos) [e] [] cpos) pos) (tS X.K B G0 KX (sApp i f)) :=
 psof (zef (zos PySem.F.plainAttrs_list PySem.F.slot_list_append PySem.F.type_list_append zfN ho (zbw he zcT (by rw [hs];rfl)) hbase hfew hline (by rw [hs];rfl) rfl) hsw) fun D σ H ⟨G,ρ,k,a⟩=>by
  unfold sApp at a
  cases q0 : ρ[i]? with
  | none=>rw [q0] at a;exact a.elim
  | some o0 =>
   cases o0 with
   | none=>rw [q0] at a;exact a.elim
   | some sl0 =>
    cases sl0 with
    | pub d=>rw [q0] at a;exact a.elim
    | own ds0 =>
     rw [q0] at a
     obtain ⟨ad,vs0,h1,h2,h3,h4,h5⟩:=k.own i ds0 q0
     refine ⟨.ref ad,h1,.inl ⟨rfl,_,SqL.of h4⟩,G,ρ,k,?_⟩
     unfold sB at a
     cases z:f ρ with
     | bad=>rw [z] at a;exact a.elim
     | ok d ρ1 =>
      rw [z] at a
      dsimp only at a
      intro v G' H' k' s' r'
      cases q : ρ1[i]? with
      | none=>rw [q] at a;exact a.elim
      | some o =>
       cases o with
       | none=>rw [q] at a;exact a.elim
       | some sl =>
        cases sl with
        | pub d=>rw [q] at a;exact a.elim
        | own ds =>
         rw [q] at a
         dsimp only at a
         split at a
         ·rename_i hl
          obtain ⟨ad',vs,g1,g2,g3,g4,g5⟩:=k'.own i ds q
          rw [h1] at g1
          cases g1
          refine ⟨ad,vs,v,rfl,rfl,g4,by rw [g5.length];exact Nat.lt_of_lt_of_le hl lim,?_⟩
          exact a σ G' _ (k'.change q h1 (g5.append (.cons r' .nil))) s'
         ·exact a.elim
end
structure zeP (K:PySem.W.Frag) (J:It) (ds:List D) (G1:Hp):Prop where
 go:∀ i G H,Same G1 G->Same G H->i < ds.length->J.go i H
 stop:∀ i G H,Same G1 G->Same G H->ds.length<=i->J.stop i H
 yld:∀ i G H x H' d,Same G1 G->Same G H->ds[i]?=some d->J.yld i H x H'->∃ G',Ext G H G' H'/\Rep K G' x d
def iD (K:PySem.W.Frag) (B G0:Hp) (f:M (List D)):TI:=fun σ H R=>∃ G ρ,EOk K B G0 G H σ ρ /\ match f ρ with
 | .ok ds ρ'=>∀ J G' H',EOk K B G0 G' H' σ ρ'->Same G G'->zeP K J ds G'->R J H'
 | .bad=>False
section
variable {X:Cx} {B G0:Hp} {KX:XW} {e a b c tg:Expr} {pos:Pos} {es rest:List Expr} {st:Stmt} {sts sts2:List Stmt}
theorem piof {t t':TI} (h:PI X tg e t) (i:∀ σ H R,t' σ H R->t σ H R):PI X tg e t':=fun pins s σ H R I q=>h pins s σ H R I (i σ H R q)
theorem tM.toI {K:PySem.W.Frag} {α γ : Type} {R0:Hp -> γ -> α -> Prop} {f:M α} {g : α -> M (List D)} {σ : St} {H:Hp} {R:It->Hp->Prop} {P : γ -> Hp->Prop} (q:iD K B G0 (zas f g) σ H R)
  (i:∀ v H' G' ρ' x,EOk K B G0 G' H' σ ρ'->R0 G' v x->(match g x ρ' with
   | .ok ds ρ2=>∀ J G2 H2,EOk K B G0 G2 H2 σ ρ2->Same G' G2->zeP K J ds G2->R J H2
   | .bad=>False)->P v H'):tM K B G0 R0 f σ H P:=by
 obtain ⟨G,ρ,k,a⟩:=q
 refine ⟨G,ρ,k,?_⟩
 unfold zas at a
 cases z:f ρ with
 | bad=>rw [z] at a;exact a.elim
 | ok d ρ1 =>
  rw [z] at a
  intro v G' H' e s r
  refine i v H' G' ρ1 d e r ?_
  dsimp only at a
  cases z2:g d ρ1 with
  | bad=>rw [z2] at a;exact a.elim
  | ok ds ρ2 =>
   rw [z2] at a
   exact fun J G2 H2 k2 s2 it=>a J G2 H2 k2 (s.trans s2) it
theorem zhQ {K:PySem.W.Frag} {G1:Hp} {ad:Addr} {vs:List V} {ds:List D} (h:SqL K G1 ad vs) (r:Reps K G1 vs ds):zeP K (Itl K ad) ds G1 where
 go:=fun i G H s1 s2 hi=>by
  have hi':i < vs.length:=by rw [r.length];exact hi
  exact ⟨vs,vs[i],(s1.trans s2).seq h,List.getElem?_eq_getElem hi'⟩
 stop:=fun i G H s1 s2 hi=>⟨vs,(s1.trans s2).seq h,by rw [r.length];exact hi⟩
 yld:=fun i G H x H' d s1 s2 e y=>by
  obtain ⟨rfl,y⟩:=y
  obtain ⟨v,e1,r1⟩:=r.get e
  have:=y vs ((s1.trans s2).seq h)
  rw [e1] at this
  cases this
  exact ⟨G,.refl s2,r1.mono s1⟩
def zbV (lo hi:Int):List D:=(List.range (hi - lo).toNat).map fun (k:Nat)=>.int (lo+k)
theorem zbW (lo hi:Int):(zbV lo hi).length=(hi - lo).toNat:=by unfold zbV;rw [List.length_map,List.length_range]
theorem zep {K:PySem.W.Frag} {G1:Hp} (lo hi:Int):zeP K (Itr lo (hi - lo).toNat) (zbV lo hi) G1 where
 go:=fun i G H s1 s2 h=>by rw [zbW] at h;exact h
 stop:=fun i G H s1 s2 h=>by rw [zbW] at h;exact h
 yld:=fun i G H x H' d s1 s2 e y=>by
  obtain ⟨rfl,rfl⟩:=y
  unfold zbV at e
  rw [List.getElem?_map] at e
  have hi:i < (List.range (hi - lo).toNat).length:=by
   refine Nat.lt_of_not_le fun z=>?_
   rw [List.getElem?_eq_none z] at e
   cases e
  rw [List.getElem?_eq_getElem hi,List.getElem_range] at e
  cases e
  exact ⟨G,.refl s2,.int _⟩
def zhR:List D->Option (List D)
 | [.int j]=>if j<=1000000 /\ -1000000<=j then some (zbV 0 j) else none
 | _=>none
def zhS:List D->Option (List D)
 | [.int i,.int j]=>if j<=1000000 /\ -1000000<=j/\i<=1000000 /\ -1000000<=i then some (zbV i j) else none
 | _=>none
def zhT (f:M (List D)):M (List D):=zas f fun x=>mOpt (zhR x)
def zks (f:M (List D)):M (List D):=zas f fun x=>mOpt (zhS x)
theorem zeq {f:M (List D)} {p2:Pos} (hg:Gl X "range") (hm:X.mg "range" = none) (ha:PA X [a] (tDs X.K B G0 f)) (hs:starEach [a] X.env=[(false,eval a X.env)]:=by rfl) :
  PI X tg (.Call (.Name "range" p2) [a] [] pos) (iD X.K B G0 (zhT f)):=piof (zii hg hm ha hs) fun σ H R q=>tM.toI (R0:=Reps X.K) q fun v H' G' ρ' x k r a=>by
 cases z:zhR x with
 | none=>rw [z] at a;exact a.elim
 | some ds =>
  rw [z] at a
  unfold zhR at z
  split at z
  ·split at z
   ·rename_i j c
    cases z
    obtain ⟨w,rfl,r'⟩:=r.one_inv
    refine ⟨j,by rw [r'.int_inv],by omega,by omega,?_⟩
    have it:=zep (K:=X.K) (G1:=G') 0 j
    rw [Int.sub_zero] at it
    exact a _ G' H' k (.refl _) it
   ·cases z
  ·cases z
theorem ziN {f:M (List D)} {p2:Pos} (hg:Gl X "range") (hm:X.mg "range" = none) (ha:PA X [a,b] (tDs X.K B G0 f)) (hs:starEach [a,b] X.env=[(false,eval a X.env),(false,eval b X.env)]:=by rfl) (hs2:starEach [b] X.env=[(false,eval b X.env)]:=by rfl) :
  PI X tg (.Call (.Name "range" p2) [a,b] [] pos) (iD X.K B G0 (zks f)):=piof (zij hg hm ha hs hs2) fun σ H R q=>tM.toI (R0:=Reps X.K) q fun v H' G' ρ' x k r a=>by
 cases z:zhS x with
 | none=>rw [z] at a;exact a.elim
 | some ds =>
  rw [z] at a
  unfold zhS at z
  split at z
  ·split at z
   ·rename_i i j c
    cases z
    obtain ⟨w,w',rfl,r1,r2⟩:=r.two_inv
    refine ⟨i,j,by rw [r1.int_inv,r2.int_inv],⟨by omega,by omega,by omega,by omega⟩,?_⟩
    exact a _ G' H' k (.refl _) (zep i j)
   ·cases z
  ·cases z
def zdr (n:Nat):List D->List D
 | []=>[]
 | d :: r=>.tuple [.int n,d] :: zdr (n+1) r
theorem zcr:∀ (n:Nat) (ds:List D),(zdr n ds).length=ds.length
 | _,[]=>rfl
 | n,d :: r=>by rw [zdr,List.length_cons,List.length_cons,zcr]
theorem zfV:∀ (n:Nat) (ds:List D) (i:Nat),(zdr n ds)[i]?=ds[i]?.map fun d=>.tuple [.int ((n+i:Nat):Int),d]
 | _,[],i=>by simp [zdr]
 | n,d :: r,0=>by simp [zdr]
 | n,d :: r,i+1=>by
  rw [zdr,List.getElem?_cons_succ,List.getElem?_cons_succ,zfV (n+1) r i]
  have:n+1+i=n+(i+1):=by omega
  rw [this]
theorem zhU {K:PySem.W.Frag} {G1:Hp} {ad:Addr} {vs:List V} {ds:List D} (h:SqL K G1 ad vs) (r:Reps K G1 vs ds):zeP K (Ite K ad) (zdr 0 ds) G1 where
 go:=fun i G H s1 s2 hi=>by
  rw [zcr] at hi
  have hi':i < vs.length:=by rw [r.length];exact hi
  exact ⟨vs,vs[i],(s1.trans s2).seq h,List.getElem?_eq_getElem hi'⟩
 stop:=fun i G H s1 s2 hi=>by
  rw [zcr] at hi
  exact ⟨vs,(s1.trans s2).seq h,by rw [r.length];exact hi⟩
 yld:=fun i G H x H' d s1 s2 e y=>by
  obtain ⟨p,v,hp,rfl,y,rfl⟩:=y
  rw [zfV] at e
  cases z:ds[i]? with
  | none=>rw [z] at e;cases e
  | some d0 =>
   rw [z] at e
   cases e
   obtain ⟨w,e1,r1⟩:=r.get z
   have:=y vs ((s1.trans s2).seq h)
   rw [e1] at this
   cases this
   refine ⟨upd G p (.tup [.int i,v]),Ext.new s2 hp,.tup (SqT.of zat) (.cons ?_ (.cons ((r1.mono s1).mono (zaN (s2.free hp))) .nil))⟩
   rw [Nat.zero_add]
   exact .int _
def ziO:List D->Option (List D)
 | [.list ds]=>some (zdr 0 ds)
 | _=>none
def zfW (f:M (List D)):M (List D):=zas f fun x=>mOpt (ziO x)
theorem zfj {f:M (List D)} {p2:Pos} {elts:List Expr} {x1} {tp:Pos} (hg:Gl X "enumerate") (hm:X.mg "enumerate" = none) (ha:PA X [a] (tDs X.K B G0 f)) (hs:starEach [a] X.env=[(false,eval a X.env)]:=by rfl) :
  PI X (.Tuple elts x1 tp) (.Call (.Name "enumerate" p2) [a] [] pos) (iD X.K B G0 (zfW f)):=piof (zlA hg hm ha hs) fun σ H R q=>tM.toI (R0:=Reps X.K) q fun v H' G' ρ' x k r a=>by
 cases z:ziO x with
 | none=>rw [z] at a;exact a.elim
 | some ds =>
  rw [z] at a
  unfold ziO at z
  split at z
  ·cases z
   obtain ⟨w,rfl,r'⟩:=r.one_inv
   obtain ⟨ad,vs,rfl,h1,r1⟩:=r'.lst_inv
   exact ⟨ad,vs,rfl,k.gh.seq h1,a _ G' H' k (.refl _) (zhU h1 r1)⟩
  ·cases z
def zeQ (s:D->DEnv->Option DEnv) (g:SM):List D->SM
 | [],ρ=>.nx ρ
 | d :: r,ρ=>match s d ρ with
  | none=>.bad
  | some ρ1=>match g ρ1 with
   | .nx ρ2=>zeQ s g r ρ2
   | .ct ρ2=>zeQ s g r ρ2
   | .bk ρ2=>.nx ρ2
   | .rt d=>.rt d
   | .ex ρ2 d=>.ex ρ2 d
   | .bad=>.bad
def sFor (f:M (List D)) (s:D->DEnv->Option DEnv) (g:SM):SM:=sB f fun ds=>zeQ s g ds
theorem zc8 {iter:Expr} {body:List Stmt} {f:M (List D)} {s:D->DEnv->Option DEnv} {g:SM} (hp:PassesOwn (model X.prog X.w) X.A X.env X.xe) (hc:X.calm=true) (hi:PI X tg iter (iD X.K B G0 f)) (hg:PG X tg (tG X.K B G0 s)) (hb:PSs X body (tS X.K B G0 KX g))
  (hs:∀ x,foldedSetIterable iter X.env x=pure x:=by intro _;rfl):PS X (.For tg iter body [] pos) (tS X.K B G0 KX (sFor f s g)) :=
 psof (zmY hp hc hi hg hb hs) fun Dn σ H ⟨G,ρ,k,a⟩=>by
  refine ⟨G,ρ,k,?_⟩
  unfold sFor sB at a
  cases z:f ρ with
  | bad=>rw [z] at a;exact a.elim
  | ok ds ρ1 =>
   rw [z] at a
   dsimp only at a ⊢
   intro J G1 H1 k1 s1 it
   refine ⟨fun i m σ' H'=>m=ds.length - i/\∃ G' ρ',EOk X.K B G0 G' H' σ' ρ'/\Same G1 G'/\aftS X.K B G0 KX (zeQ s g (ds.drop i) ρ') G' Dn,⟨ds.length,by omega,G1,ρ1,k1,.refl _,by rw [List.drop_zero];exact aftS.mono s1 a⟩,?_⟩
   rintro i m σ' H' ⟨rfl,G',ρ',k',s',a'⟩
   by_cases hi:i < ds.length
   ·right
    refine ⟨it.go i G' H' s' k'.gh hi,fun σ2 H2=>∃ G2 ρ2,EOk X.K B G0 G2 H2 σ2 ρ2/\Same G1 G2/\aftS X.K B G0 KX (zeQ s g (ds.drop (i+1)) ρ2) G2 Dn,fun σ2 H2 h2=>⟨ds.length - (i+1),by omega,rfl,h2⟩,fun x H2 y=>?_⟩
    obtain ⟨G2,ex,rx⟩:=it.yld i G' H' x H2 ds[i] s' k'.gh (List.getElem?_eq_getElem hi) y
    rw [List.drop_eq_getElem_cons hi,zeQ] at a'
    cases z2:s ds[i] ρ' with
    | none=>rw [z2] at a';exact a'.elim
    | some ρ2 =>
     rw [z2] at a'
     dsimp only at a'
     refine ⟨G2,ρ',ds[i],ρ2,k'.ext ex,rx,z2,fun σ3 G3 H3 k3 s3=>⟨G3,ρ2,k3,?_⟩⟩
     have s13:Same G1 G3:=(s'.trans ex.g).trans s3
     cases z3:g ρ2 with
     | nx ρ3=>rw [z3] at a';exact fun σ4 G4 H4 k4 s4=>⟨G4,ρ3,k4,s13.trans s4,aftS.mono ((ex.g.trans s3).trans s4) a'⟩
     | ct ρ3=>rw [z3] at a';exact fun σ4 G4 H4 k4 s4=>⟨G4,ρ3,k4,s13.trans s4,aftS.mono ((ex.g.trans s3).trans s4) a'⟩
     | bk ρ3=>rw [z3] at a';exact fun σ4 G4 H4 k4 s4=>a' σ4 G4 H4 k4 ((ex.g.trans s3).trans s4)
     | rt d=>rw [z3] at a';exact a'
     | ex ρ3 d=>rw [z3] at a';exact fun v σ4 G4 H4 k4 s4 r4=>a' v σ4 G4 H4 k4 ((ex.g.trans s3).trans s4) r4
     | bad=>rw [z3] at a';exact a'.elim
   ·left
    rw [List.drop_eq_nil_of_le (by omega)] at a'
    exact ⟨it.stop i G' H' s' k'.gh (by omega),a' σ' G' H' k' (.refl _)⟩
theorem zkt {k:Nat} {f:Addr} {fd:FuncData} {ps:List Str} {F:List D->Option D} {g:M (List D)} {x:Str} {p2:Pos} {n:Nat} (FK:FnOk X.prog X.w X.K X.mg X.base CX0 k f fd ps (spD X.K n F)) (hr:Room k X.A) (hg:Gl X x) (hm:X.mg x=some (.ref f)) (hk:PySem.W.keepIn X.K (.ref f)=true)
  (hb:zcU X.K fd ps []) (ha:PA X (e :: es) (tDs X.K B G0 g)) (hn:(e :: es).length=n) (hdb:(x == ("__debug__" : Str))=false:=by decide) (he:starEach (e :: es) X.env=(false,eval e X.env) :: starEach es X.env:=by rfl) (hpl:(backTo pos (starEach es X.env)).any (·.1)=false:=by rfl) :
  PE X (.Call (.Name x p2) (e :: es) [] pos) (tD X.K B G0 (zas g fun xs=>if xs.length=n then mOpt (F xs) else fun _=>.bad)) :=
 peof (zlr FK hr hg hm hk hb .nil zne ha hdb he hpl) fun σ H Q q=>tM.one (R:=Reps X.K) q fun v H2 G ρ ds k r a=>by
  split at a
  ·rename_i hl
   obtain ⟨d,e,a⟩:=a.opt
   exact ⟨G,ds,d,by rw [List.append_nil,r.length];exact hl,k.gh,by rw [List.append_nil];exact r,e,fun w G' H' ex rw=>a.done k ex rw⟩
  ·exact a.elim
end
def zch (N:List Str) (ds:List D):DEnv:=(ds.map fun d=>some (Sl.pub d)) ++ List.replicate (N.length - ds.length) none
theorem zhk {K:PySem.W.Frag} {N:List Str} {G H:Hp} {vs:List V} {ds:List D} (s:Same G H) (r:Reps K G vs ds):EOk K H G G H (L2.zeh N vs) (zch N ds) where
 bh:=.refl _
 gh:=s
 g0:=.refl _
 np:=fun _ _ _ n=>n
 len:=by unfold L2.zeh zch;rw [List.length_append,List.length_append,List.length_map,List.length_map,List.length_replicate,List.length_replicate,r.length]
 pub:=fun i d q=>by
  unfold zch at q
  unfold L2.zeh
  by_cases hi:i < ds.length
  ·rw [List.getElem?_append_left (by rw [List.length_map];exact hi),List.getElem?_map] at q
   cases z:ds[i]? with
   | none=>rw [z] at q;cases q
   | some d' =>
    rw [z] at q
    cases q
    obtain ⟨v,e1,r1⟩:=r.get z
    refine ⟨v,?_,r1⟩
    rw [List.getElem?_append_left (by rw [List.length_map,r.length];exact hi),List.getElem?_map,e1]
    rfl
  ·rw [List.getElem?_append_right (by rw [List.length_map];omega),List.getElem?_replicate] at q
   split at q <;> cases q
 own:=fun i es q=>by
  unfold zch at q
  by_cases hi:i < ds.length
  ·rw [List.getElem?_append_left (by rw [List.length_map];exact hi),List.getElem?_map] at q
   cases z:ds[i]? with
   | none=>rw [z] at q;cases q
   | some d'=>rw [z] at q;cases q
  ·rw [List.getElem?_append_right (by rw [List.length_map];omega),List.getElem?_replicate] at q
   split at q <;> cases q
 sep:=fun i j a es fs q _ _ _=>by
  unfold zch at q
  by_cases hi:i < ds.length
  ·rw [List.getElem?_append_left (by rw [List.length_map];exact hi),List.getElem?_map] at q
   cases z:ds[i]? with
   | none=>rw [z] at q;cases q
   | some d'=>rw [z] at q;cases q
  ·rw [List.getElem?_append_right (by rw [List.length_map];omega),List.getElem?_replicate] at q
   split at q <;> cases q
def runD (N:List Str) (g:SM) (ds:List D):Option D:=match g (zch N ds) with
 | .rt d=>some d
 | .nx _=>some .none
 | _=>none
theorem okD {P:Program} {w:World} {K:PySem.W.Frag} {mg:Str->Option Value} {base:Heap} {x qual:Str} {st:Stmt} {f:Addr} {fd:FuncData} {N ps:List Str} {k n:Nat} {g:SM} (F:Fun K x qual st f fd) (S:zdI N ps (zam st)) (hn:ps.length=n)
  (der:∀ (cdv:Value) (A:Around) (outer:List Env) (s:Shared) (H:Hp) (E:XK) (B G0:Hp),Room k (A.deeper (envOfC qual (zam st) s.heap.objs.size f cdv)) ->
   PSs (cxOf CX0 P w K mg base N qual (zam st) f cdv A outer s H E).nox (zbo st) (tS K B G0 KX0 g)):FnOk P w K mg base CX0 (k+1) f fd ps (spD K n (runD N g)):=by
 refine F.ok S (fun vs H Q E h=>?_) (fun cdv A outer s H vs Q E hr h=>?_)
 ·obtain ⟨_,_,_,hl,_⟩:=h
  rw [hl,hn]
 ·obtain ⟨G,ds,d,hl,sg,r,hF,q⟩:=h
  refine ⟨_,der cdv A outer s H E H G hr,G,zch N ds,zhk sg r,?_⟩
  unfold runD at hF
  cases z:g (zch N ds) with
  | rt d' =>
   rw [z] at hF
   cases hF
   exact fun v G' H' ex rr=>q v G' H' ex rr
  | nx ρ =>
   rw [z] at hF
   cases hF
   exact fun σ' G' H' k' _=>q .non G' H' k'.exit .non
  | bk ρ=>rw [z] at hF;cases hF
  | ct ρ=>rw [z] at hF;cases hF
  | ex ρ d=>rw [z] at hF;cases hF
  | bad=>rw [z] at hF;cases hF
section
variable {X:Cx} {B G0:Hp} {e a b c tg:Expr} {pos:Pos} {es rest:List Expr}
def oNeg:D->Option D
 | .int i=>some (.int (-i))
 | _=>none
def dNeg (f:M D):M D:=zas f fun x=>mOpt (oNeg x)
theorem zer {f:M D} (h:PE X a (tD X.K B G0 f)):PE X (.UnaryOp .USub a pos) (tD X.K B G0 (dNeg f)) :=
 peof (zom zm5 h) fun σ H Q q=>tM.one (R:=Rep X.K) q fun v H2 G ρ x k r a=>by
  cases x with
  | int i=>exact ⟨i,r.int_inv,aft.now a k (.int _)⟩
  | _=>exact a.elim
end
def Def (P:Program) (w:World) (K:PySem.W.Frag) (mg:Str->Option Value) (base:Heap) (x:Str) (k n:Nat) (F:List D->Option D):Prop :=
 ∃ (f:Addr) (fd:FuncData) (ps:List Str),mg x=some (.ref f)/\PySem.W.keepIn K (.ref f)=true/\zcU K fd ps []/\FnOk P w K mg base CX0 k f fd ps (spD K n F)
def dFun (n:Nat) (F:List D->Option D) (g:M (List D)):M D:=zas g fun xs=>if xs.length=n then mOpt (F xs) else fun _=>.bad
section
variable {X:Cx} {B G0:Hp} {e:Expr} {pos:Pos} {es:List Expr}
theorem zlT {k n:Nat} {F:List D->Option D} {g:M (List D)} {x:Str} {p2:Pos} (d:Def X.prog X.w X.K X.mg X.base x k n F) (hr:Room k X.A) (hg:Gl X x) (ha:PA X (e :: es) (tDs X.K B G0 g)) (hn:(e :: es).length=n:=by rfl)
  (hdb:(x == ("__debug__" : Str))=false:=by decide) (he:starEach (e :: es) X.env=(false,eval e X.env) :: starEach es X.env:=by rfl) (hpl:(backTo pos (starEach es X.env)).any (·.1)=false:=by rfl) :
  PE X (.Call (.Name x p2) (e :: es) [] pos) (tD X.K B G0 (dFun n F g)):=by
 obtain ⟨f,fd,ps,h1,h2,h3,h4⟩:=d
 exact zkt h4 hr hg h1 h2 h3 ha hn hdb he hpl
end
theorem Def.mk {P:Program} {w:World} {K:PySem.W.Frag} {mg:Str->Option Value} {base:Heap} {x:Str} {k n:Nat} {F:List D->Option D} {st:Stmt} {f:Addr} {fd:FuncData} {ps:List Str} (hm:mg x=some (.ref f)) (FU:Fun K x x st f fd) (hb:zcU K fd ps []) (ok:FnOk P w K mg base CX0 k f fd ps (spD K n F)) :
  Def P w K mg base x k n F:=⟨f,fd,ps,hm,FU.kp,hb,ok⟩
theorem znA {K:PySem.W.Frag} {H:Hp} {a:Addr} {ns:List Int} {F:List D->Option D} {E:XK} (hS:SqL K H a (ns.map V.int)) (h:F [.list (ns.map PyData.int)]=some (.bool true)):spD K 1 F [.ref a] H (fun v _=>v=.bl true) E :=
 ⟨H,[.list (ns.map PyData.int)],.bool true,rfl,.refl _,.cons (.lst hS (Reps.ints ns)) .nil,h,fun _ _ _ _ r=>r.bl_inv⟩
end DL
namespace L2
open PySem PySem.Spec PyProof.Rows
theorem mem_of_lookup {x:Str} {k:NameKind}:∀ {l:List (Str × NameKind)},l.lookup x=some k->(x,k) ∈ l
 | [],h=>by cases h
 | (y,j) :: r,h=>by
  rw [List.lookup_cons] at h
  split at h
  ·rename_i e
   cases h
   have:x=y:=by simpa using e
   rw [this];exact List.mem_cons_self
  ·exact List.mem_cons_of_mem _ (mem_of_lookup h)
theorem zdN {env:Env}:∀ (l:List (Str × NameKind)) (acc:List (Str × Addr)),(∀ y ∈ l,y.2=.free->∃ c,env.cells.lookup y.1=some c) ->
  ∃ cl,(forIn l acc (fun x r=>if (x.2 == NameKind.free)=true then (do let a ← cellOf env x.1;pure (ForInStep.yield ((x.1,a) :: r))) else pure (ForInStep.yield r)):Sem (List (Str × Addr)))=pure cl /\
   (∀ x c,cl.lookup x=some c->acc.lookup x=some c ∨ env.cells.lookup x=some c)/\(∀ y ∈ l,y.2=.free->∃ c,cl.lookup y.1=some c)/\(∀ x c,acc.lookup x=some c->∃ c',cl.lookup x=some c')
 | [],acc,_=>⟨acc,rfl,fun _ _ h=>.inl h,fun _ h=>absurd h (by simp),fun x c h=>⟨c,h⟩⟩
 | (n,k) :: r,acc,h=>by
  by_cases hk:k=.free
  ·subst hk
   obtain ⟨c,hc⟩:=h (n,.free) List.mem_cons_self rfl
   obtain ⟨cl,e,p1,p2,p3⟩:=zdN r ((n,c) :: acc) fun y hy=>h y (List.mem_cons_of_mem _ hy)
   have hco:cellOf env n=pure c:=by unfold cellOf;rw [hc]
   have key:∀ x c',((n,c) :: acc).lookup x=some c'->acc.lookup x=some c' ∨ env.cells.lookup x=some c':=fun x c' q=>by
    rw [List.lookup_cons] at q
    split at q
    ·rename_i e1
     cases q
     have:x=n:=by simpa using e1
     subst this
     exact .inr hc
    ·exact .inl q
   have own:((n,c) :: acc).lookup n=some c:=by rw [List.lookup_cons];simp
   refine ⟨cl,?_,fun x c' q=>?_,fun y hy hf=>?_,fun x c' q=>?_⟩
   ·rw [List.forIn_cons]
    have:(if (((n,NameKind.free):Str × NameKind).2 == NameKind.free)=true then (do let a ← cellOf env n;pure (ForInStep.yield ((n,a) :: acc))) else pure (ForInStep.yield acc):Sem _)=pure (ForInStep.yield ((n,c) :: acc)):=by
     rw [if_pos (show ((n,NameKind.free).snd == NameKind.free)=true from rfl),hco];rfl
    refine Eq.trans ?_ e
    dsimp only at this ⊢
    rw [this]
    rfl
   ·rcases p1 x c' q with z | z
    ·exact key x c' z
    ·exact .inr z
   ·rcases List.mem_cons.mp hy with z | z
    ·subst z
     exact p3 n c own
    ·exact p2 y z hf
   ·by_cases hx:x=n
    ·subst hx;exact p3 x c own
    ·refine p3 x c' ?_
     have hb:(x == n)=false:=by simpa using hx
     rw [List.lookup_cons,hb]
     exact q
  ·obtain ⟨cl,e,p1,p2,p3⟩:=zdN r acc fun y hy=>h y (List.mem_cons_of_mem _ hy)
   refine ⟨cl,?_,p1,fun y hy hf=>?_,p3⟩
   ·rw [List.forIn_cons]
    have hb:(k == NameKind.free)=false:=by cases k <;> first | rfl | exact absurd rfl hk
    refine Eq.trans ?_ e
    dsimp only
    rw [hb,if_neg (by decide)]
    rfl
   ·rcases List.mem_cons.mp hy with z | z
    ·subst z;exact absurd hf hk
    ·exact p2 y z hf
theorem zhV {scope:Scope} {env:Env} (h:∀ y ∈ scope.names,y.2=.free->∃ c,env.cells.lookup y.1=some c) :
  ∃ cl,closureFor scope env=pure cl/\(∀ x c,cl.lookup x=some c->env.cells.lookup x=some c)/\∀ y ∈ scope.names,y.2=.free->∃ c,cl.lookup y.1=some c:=by
 obtain ⟨cl,e,p1,p2,_⟩:=zdN scope.names [] h
 refine ⟨cl,?_,fun x c q=>(p1 x c q).elim (fun z=>by cases z) id,p2⟩
 have e2:((forIn scope.names [] (fun x r=>if (x.2 == NameKind.free)=true then (do let a ← cellOf env x.1;pure (ForInStep.yield ((x.1,a) :: r))) else pure (ForInStep.yield r)):Sem (List (Str × Addr))) >>= fun s=>pure s)=pure cl:=by
  rw [e];rfl
 exact e2
theorem zes {env:Env} {x:Str} {k:NameKind}:∀ {names:List (Str × NameKind)},(names.map fun (n,k)=>if (k == NameKind.free && env.scope.kind == .function && env.kindOf n == some .cell) then (n,NameKind.cell) else (n,k)).lookup x=some k ->
  names.lookup x=some k ∨ (names.lookup x=some .free/\k=.cell)
 | [],h=>by cases h
 | (n,j) :: r,h=>by
  have ih:=@zes env x k r
  have h:List.lookup x ((if (j == NameKind.free && env.scope.kind == .function && env.kindOf n == some .cell)=true then (n,NameKind.cell) else (n,j)) :: _)=some k:=h
  cases hx:x == n with
  | true =>
   by_cases hc:(j == NameKind.free && env.scope.kind == .function && env.kindOf n == some .cell)=true
   ·rw [if_pos hc] at h
    simp only [List.lookup_cons,hx] at h ⊢
    cases h
    simp only [Bool.and_eq_true] at hc
    have:j=.free:=by have:=hc.1.1;cases j <;> first | rfl | cases this
    subst this
    exact .inr ⟨rfl,rfl⟩
   ·rw [if_neg hc] at h
    simp only [List.lookup_cons,hx] at h ⊢
    exact .inl h
  | false =>
   by_cases hc:(j == NameKind.free && env.scope.kind == .function && env.kindOf n == some .cell)=true
   ·rw [if_pos hc] at h
    simp only [List.lookup_cons,hx] at h ⊢
    exact ih h
   ·rw [if_neg hc] at h
    simp only [List.lookup_cons,hx] at h ⊢
    exact ih h
theorem zd0 {env:Env} {x:Str}:∀ {names:List (Str × NameKind)},names.lookup x=some .free ->
  (names.map fun (n,k)=>if (k == NameKind.free && env.scope.kind == .function && env.kindOf n == some .cell) then (n,NameKind.cell) else (n,k)).lookup x=some .free ∨
  (names.map fun (n,k)=>if (k == NameKind.free && env.scope.kind == .function && env.kindOf n == some .cell) then (n,NameKind.cell) else (n,k)).lookup x=some .cell
 | [],h=>by cases h
 | (n,j) :: r,h=>by
  have ih:=@zd0 env x r
  show List.lookup x ((if (j == NameKind.free && env.scope.kind == .function && env.kindOf n == some .cell)=true then (n,NameKind.cell) else (n,j)) :: _)=_ ∨ List.lookup x ((if (j == NameKind.free && env.scope.kind == .function && env.kindOf n == some .cell)=true then (n,NameKind.cell) else (n,j)) :: _)=_
  cases hx:x == n with
  | true =>
   simp only [List.lookup_cons,hx] at h
   cases h
   by_cases hc:(NameKind.free == NameKind.free && env.scope.kind == .function && env.kindOf n == some .cell)=true
   ·rw [if_pos hc];simp [List.lookup_cons,hx]
   ·rw [if_neg hc];simp [List.lookup_cons,hx]
  | false =>
   simp only [List.lookup_cons,hx] at h
   by_cases hc:(j == NameKind.free && env.scope.kind == .function && env.kindOf n == some .cell)=true
   ·rw [if_pos hc];simp only [List.lookup_cons,hx];exact ih h
   ·rw [if_neg hc];simp only [List.lookup_cons,hx];exact ih h
theorem zeZ {env:Env} {x:Str}:∀ {names:List (Str × NameKind)},names.lookup x=some .globalImplicit ->
  (names.map fun (n,k)=>if (k == NameKind.free && env.scope.kind == .function && env.kindOf n == some .cell) then (n,NameKind.cell) else (n,k)).lookup x=some .globalImplicit
 | [],h=>by cases h
 | (n,j) :: r,h=>by
  have ih:=@zeZ env x r
  show List.lookup x ((if (j == NameKind.free && env.scope.kind == .function && env.kindOf n == some .cell)=true then (n,NameKind.cell) else (n,j)) :: _)=_
  cases hx:x == n with
  | true =>
   simp only [List.lookup_cons,hx] at h
   cases h
   rw [if_neg (by simp)]
   simp [List.lookup_cons,hx]
  | false =>
   simp only [List.lookup_cons,hx] at h
   by_cases hc:(j == NameKind.free && env.scope.kind == .function && env.kindOf n == some .cell)=true
   ·rw [if_pos hc];simp only [List.lookup_cons,hx];exact ih h
   ·rw [if_neg hc];simp only [List.lookup_cons,hx];exact ih h
def Cx.blk (X:Cx) (N':List Str) (scope:Scope) (cl:List (Str × Addr)) (C:Addr) (s₀ : Shared) (H₀ : Hp) (ex:List Addr):Cx :=
 { X with N:=N',s₀:=s₀,H₀:=H₀,env:=compEnvC scope cl C X.env,outer:=X.stack,ex:=ex,fn:=fun _=>false,xe:=fun _ _=>False }
section
variable {X:Cx} {N':List Str} {scope:Scope} {cl:List (Str × Addr)} {C:Addr} {s₀ : Shared} {H₀ : Hp} {ex:List Addr} {x:Str}
theorem zlU (h:scope.names.lookup x=some .local ∨ scope.names.lookup x=some .free):Vis (X.blk N' scope cl C s₀ H₀ ex).env.scope x:=by
 rcases h with h | h
 ·exact .inl (lookup_relabel_local h)
 ·rcases zd0 (env:=X.env) h with z | z
  ·exact .inr (.inr z)
  ·exact .inr (.inl z)
theorem zcy (h:scope.names.lookup x=some .local):Loc (X.blk N' scope cl C s₀ H₀ ex).env.scope x:=.inl (lookup_relabel_local h)
theorem zc9 (h:scope.names.lookup x=some .local):(X.blk N' scope cl C s₀ H₀ ex).env.scope.names.lookup x=some .local:=lookup_relabel_local h
theorem ze0 (h:scope.names.lookup x=some .globalImplicit):Gl (X.blk N' scope cl C s₀ H₀ ex) x:=zeZ h
end
def zds (names:List (Str × NameKind)) (N N2:List Str) (k:Nat):Bool :=
 N2.length == N.length+k && (List.range N2.length).all fun i=>match N2[i]? with
  | none=>true
  | some x=>match names.lookup x with
   | some .free=>N[i]? == some x
   | some .local=>decide (N.length<=i) && decide (i < N.length+k)
   | some .cell=>false
   | _=>true
theorem zfX {names:List (Str × NameKind)} {N N2:List Str} {k:Nat} (h:zds names N N2 k=true) :
  N2.length=N.length+k/\∀ (i:Nat) x,N2[i]?=some x->(names.lookup x=some .free->N[i]?=some x)/\(names.lookup x=some .local->N.length<=i/\i < N.length+k):=by
 unfold zds at h
 simp only [Bool.and_eq_true,beq_iff_eq,List.all_eq_true,List.mem_range] at h
 refine ⟨h.1,fun i x e=>?_⟩
 have hi:=(List.getElem?_eq_some_iff.mp e).1
 have:=h.2 i hi
 rw [e] at this
 refine ⟨fun q=>?_,fun q=>?_⟩
 ·simp only [q] at this
  simpa using this
 ·simp only [q] at this
  simpa using this
theorem Inv.enter {X:Cx} {pins:List (Addr × Obj)} {σ : St} {H:Hp} {s3:Shared} (I:Inv X pins σ H s3) {scope:Scope} {cl:List (Str × Addr)} {N2:List Str} {k:Nat} {h':Heap} {fp:List Addr} {t':Nat} {m0:Str->Option Value}
  (hb:zds scope.names X.N N2 k=true) (hkind:scope.kind=.function) (hcell:∀ y ∈ scope.names,y.2 ≠ .cell)
  (hfree:∀ y ∈ scope.names,y.2=.free->X.env.scope.names.lookup y.1=some .cell ∨ X.env.scope.names.lookup y.1=some .free)
  (cl1:∀ x c,cl.lookup x=some c->X.env.cells.lookup x=some c) (cl2:∀ y ∈ scope.names,y.2=.free->∃ c,cl.lookup y.1=some c)
  (hn:h'.Ns s3.heap.objs.size m0) (hk:∀ b o,s3.heap.get? b=some o->h'.get? b=some o) (hf:∀ b ∈ fp,FpOk X pins H b) (hfo:∀ b ∈ fp,∃ o,s3.heap.get? b=some o) :
  Inv (X.blk N2 scope cl s3.heap.objs.size s3 H fp) pins (σ ++ List.replicate k none) H { s3 with heap:=h',toks:=t' }:=by
 obtain ⟨hl,hN⟩:=zfX hb
 have lt:∀ b o,s3.heap.get? b=some o->b ≠ s3.heap.objs.size:=fun b o e=>Nat.ne_of_lt (Heap.lt_size e)
 have ofl:∀ x,scope.names.lookup x=some .free->(x,NameKind.free) ∈ scope.names:=fun x h=>mem_of_lookup h
 have kinv:∀ x kk,(X.blk N2 scope cl s3.heap.objs.size s3 H fp).env.scope.names.lookup x=some kk->scope.names.lookup x=some kk ∨ (scope.names.lookup x=some .free/\kk=.cell):=fun x kk h=>zes (env:=X.env) h
 have isfree:∀ x,(X.blk N2 scope cl s3.heap.objs.size s3 H fp).env.scope.names.lookup x=some .cell ∨ (X.blk N2 scope cl s3.heap.objs.size s3 H fp).env.scope.names.lookup x=some .free->scope.names.lookup x=some .free:=fun x h=>by
  rcases h with h | h
  ·rcases kinv x _ h with z | z
   ·exact absurd rfl (hcell _ (mem_of_lookup z))
   ·exact z.1
  ·rcases kinv x _ h with z | z
   ·exact z
   ·exact z.1
 have ok:(X.blk N2 scope cl s3.heap.objs.size s3 H fp).Ok :=
  {
   mod:=I.ok.mod
   kind:=hkind
   glob:=I.ok.glob
   blt:=I.ok.blt
   above:=Nat.le_refl _
   inj:=fun x y c a b=>I.ok.inj x y c (cl1 x c a) (cl1 y c b)
   has:=fun x h=>cl2 (x,.free) (ofl x (isfree x h)) rfl
   cab:=fun x c h=>by cases h
   hd:=I.ok.hd
   frames:=I.ok.frames
   stk:=.inl rfl
   exf:=fun b hb=>⟨let ⟨o,e⟩:=hfo b hb;lt b o e,fun x c e=>(hf b hb).2.2.2.2.1 x c (cl1 x c e)⟩
   bs:=I.bs
   bsz:=Nat.le_trans I.ok.bsz I.sz
   noex:=fun b o e hb=>by
    rcases (hf b hb).2.2.2.1 with z | z
    ·exact I.ok.noex b o e z
    ·exact absurd (Nat.lt_of_lt_of_le (Heap.lt_size e) (Nat.le_trans I.ok.bsz z)) (Nat.lt_irrefl _)
   exfs:=fun b hb hx=>by
    rcases List.mem_cons.mp (I.stkSub b hx) with z | z
    ·exact (hf b hb).2.1 z
    ·exact (hf b hb).2.2.1 z
   funs:=I.stack
   frf:=I.stkFree }
 refine ⟨ok,rfl,I.bare,Un.kept hk,⟨m0,hn,fun i x v e1 e2 e3=>?_⟩,fun x c e=>?_,I.hok.fresh (Nat.le_refl _),fun x c e=>I.freeC x c (cl1 x c e),fun p hp=>?_,I.hok.kept hk,?_⟩
 ·have nl:scope.names.lookup x ≠ some .local:=fun z=>by
   obtain ⟨g1,g2⟩:=(hN i x e1).2 z
   rw [← I.len] at g1 g2
   rw [List.getElem?_append_right g1,List.getElem?_replicate] at e2
   split at e2 <;> cases e2
  have fr:scope.names.lookup x=some .free:=by
   rcases e3 with z | z | z
   ·rcases kinv x _ z with q | q
    ·exact absurd q nl
    ·cases q.2
   ·exact isfree x (.inl z)
   ·exact isfree x (.inr z)
  have eN:=(hN i x e1).1 fr
  have hi:i < σ.length:=by rw [I.len];exact (List.getElem?_eq_some_iff.mp eN).1
  rw [List.getElem?_append_left hi] at e2
  obtain ⟨m,hm,hlk⟩:=I.loc
  have hkd:=hfree _ (ofl x fr) rfl
  obtain ⟨u,r,l⟩:=hlk i x v eN e2 (.inr hkd)
  refine ⟨u,r,.inr ⟨?_,?_⟩⟩
  ·rcases e3 with z | z | z
   ·rcases kinv x _ z with q | q
    ·exact absurd q nl
    ·cases q.2
   ·exact .inl z
   ·exact .inr z
  ·rcases l with l | ⟨_,c,ec,z⟩
   ·have:X.env.scope.names.lookup x=some .local:=l.1
    rcases hkd with q | q <;> (dsimp only at q;rw [this] at q;cases q)
   ·obtain ⟨c',ec'⟩:=cl2 _ (ofl x fr) rfl
    have:=cl1 _ _ ec'
    dsimp only at this ec'
    rw [ec] at this
    cases this
    obtain ⟨o,ho,hd⟩:=z
    exact ⟨c,ec',o,hk c o ho,hd⟩
 ·obtain ⟨v,o,ho,hd⟩:=I.cell x c (cl1 x c e)
  exact ⟨v,o,hk c o ho,hd⟩
 ·obtain ⟨e,n,ne,nf,d⟩:=I.pin p hp
  refine ⟨hk _ _ e,n,lt _ _ e,fun z=>?_,d⟩
  rcases List.mem_cons.mp (I.stkSub _ z) with q | q
  ·exact ne q
  ·exact nf q
 ·rw [List.length_append,List.length_replicate,I.len]
  exact hl.symm
section
variable {prog:Program} {w:World} {A:Around} {R:Result->Shared->Prop} {s:Shared}
end
abbrev nox:Value->Shared->Prop:=fun _ _=>False
def zdt (prog:Program) (w:World) (A:Around) (tg:Expr) (ifs:List Expr) (env:Env) (it:Value) (code:Code) (W:(Shared->Prop)->Shared->Prop):Prop :=
 ∀ (R:Result->Shared->Prop) (I:Nat->Shared->Prop) (n:Nat) (s:Shared),I n s ->
  (∀ n s,I n s->wpAny (model prog w) A (pyNext it) (fun r s₁=>match r with
   | none=>R (.ok .next) s₁
   | some v=>wpAny (model prog w) A (letOwnedTupleGo tg it v) (fun _ s₁'=>wpAny (model prog w) A (assign tg env v) (fun _ s₂ =>
     wpAny (model prog w) A (forIn ifs true fun c r=>if r=true then do let ok ← isTrue c env (eval c env);pure (ForInStep.yield ok) else pure (ForInStep.yield r)) (fun ok s₃ =>
      if ok=true then W (fun s₅=>∃ m,m < n/\I m s₅) s₃ else ∃ m,m < n/\I m s₃) nox s₂) nox s₁') nox s₁) nox s)->codeAny (model prog w) A code R s
section
variable {prog:Program} {w:World} {A:Around} {elt tg i:Expr} {ifs:List Expr} {gens:List Comprehension} {scope:Scope} {pos:Pos} {it acc:Value} {env:Env} {j:Nat}
theorem ziP (hg:gens[j]?=some ⟨tg,i,ifs,0⟩) (hn:gens[j+1]?=none):zdt prog w A tg ifs env it (.compLoop (.ListComp elt gens scope pos) j it acc env)
  (fun Q s=>wpAny (model prog w) A (eval elt env) (fun x s₄=>wpAny (model prog w) A (call (.builtin "list.append") [acc,x]) (fun _ s₅=>Q s₅) nox s₄) nox s):=by
 intro R I n s h turn
 refine codeAny_loop rfl I (fun n s hI=>?_) n h
 show wpAny _ A ((compTurn (.ListComp elt gens scope pos) j it acc env).onRaise (fun x=>do noteFrame x env;theTreesLotGoes x)) _ _ s
 refine wpAny_noted ?_
 unfold compTurn
 dsimp only
 simp only [hg,hn]
 refine wpAny_bind (wpAny_standAt (wpAny_bind (wpAny_mono (turn n s hI) (fun r s₁ h₁=>?_) fun _ _ h'=>h'.elim)))
 cases r with
 | none=>exact wpAny_pure h₁
 | some v =>
  refine wpAny_bind (wpAny_mono h₁ (fun _ s₁' h₁'=>?_) fun _ _ h'=>h'.elim)
  refine wpAny_bind (wpAny_mono h₁' (fun _ s₂ h₂=>wpAny_bind (wpAny_mono h₂ (fun ok s₃ h₃=>?_) fun _ _ h'=>h'.elim)) fun _ _ h'=>h'.elim)
  cases ok with
  | false=>exact wpAny_pure ⟨rfl,h₃⟩
  | true=>exact wpAny_bind (wpAny_bind (wpAny_mono h₃ (fun x s₄ h₄=>wpAny_bind (wpAny_mono h₄ (fun _ s₅ h₅=>wpAny_pure (wpAny_pure ⟨rfl,h₅⟩)) fun _ _ h'=>h'.elim)) fun _ _ h'=>h'.elim))
theorem ziQ {tg1 i1:Expr} {ifs1:List Expr} (hg:gens[j]?=some ⟨tg,i,ifs,0⟩) (hn:gens[j+1]?=some ⟨tg1,i1,ifs1,0⟩) (hs:∀ x,foldedSetIterable i1 env x=pure x):zdt prog w A tg ifs env it (.compLoop (.ListComp elt gens scope pos) j it acc env)
  (fun Q s=>wpAny (model prog w) A (eval i1 env) (fun x s₄=>wpAny (model prog w) A (pyIter x) (fun it1 s₅=>codeAny (model prog w) A (.compStart (.ListComp elt gens scope pos) (j+1) it1 acc env)
   (fun r s₆=>match r with | .ok _=>Q s₆ | .error _=>False) s₅) nox s₄) nox s):=by
 intro R I n s h turn
 refine codeAny_loop rfl I (fun n s hI=>?_) n h
 show wpAny _ A ((compTurn (.ListComp elt gens scope pos) j it acc env).onRaise (fun x=>do noteFrame x env;theTreesLotGoes x)) _ _ s
 refine wpAny_noted ?_
 unfold compTurn
 dsimp only
 simp only [hg,hn]
 refine wpAny_bind (wpAny_standAt (wpAny_bind (wpAny_mono (turn n s hI) (fun r s₁ h₁=>?_) fun _ _ h'=>h'.elim)))
 cases r with
 | none=>exact wpAny_pure h₁
 | some v =>
  refine wpAny_bind (wpAny_mono h₁ (fun _ s₁' h₁'=>?_) fun _ _ h'=>h'.elim)
  refine wpAny_bind (wpAny_mono h₁' (fun _ s₂ h₂=>wpAny_bind (wpAny_mono h₂ (fun ok s₃ h₃=>?_) fun _ _ h'=>h'.elim)) fun _ _ h'=>h'.elim)
  cases ok with
  | false=>exact wpAny_pure ⟨rfl,h₃⟩
  | true =>
   refine wpAny_bind (wpAny_mono h₃ (fun x s₄ h₄=>wpAny_bind (wpAny_standAt (wpAny_bind (wpAny_of_eq (hs x) (wpAny_bind (wpAny_holding (wpAny_mono h₄ (fun it1 s₅ h₅=>?_) fun _ _ h'=>h'.elim))))))) fun _ _ h'=>h'.elim)
   refine wpAny_bind (wpAny_runOwn (codeAny_mono h₅ fun r s₆ h₆=>?_))
   cases r with
   | ok f=>exact wpAny_pure ⟨rfl,h₆⟩
   | error x=>exact h₆.elim
theorem zfY {R:Result->Shared->Prop} {s:Shared} (hg:gens[j]?=some ⟨tg,i,ifs,0⟩)
  (h0:codeAny (model prog w) A (.compLoop (.ListComp elt gens scope pos) j it acc env) R s)
  (h:wpAny (model prog w) A (pyIter it) (fun it' s'=>codeAny (model prog w) A (.compLoop (.ListComp elt gens scope pos) j it' acc env) R s') nox s) :
  codeAny (model prog w) A (.compStart (.ListComp elt gens scope pos) j it acc env) R s:=by
 refine codeAny_of_tree ?_
 show wpAny _ _ ((compStart (.ListComp elt gens scope pos) j it acc env).onRaise (fun x=>do noteFrame x env;standAt theWindowsPlace)) _ _ s
 refine wpAny_notedAt ?_
 unfold compStart
 have hc:(clausesOf (.ListComp elt gens scope pos))[j]?=some ⟨tg,i,ifs,0⟩:=hg
 simp only [hc]
 show wpAny _ _ (ask >>= _) _ _ s
 refine wpAny_bind (wpAny_askSetting (wpAny_ite ?_))
 split
 ·first
   | exact wpAny_bind (wpAny_pure (wpAny_pure (And.intro rfl h0)))
   | exact wpAny_pure (And.intro rfl h0)
 ·first
   | exact wpAny_bind (wpAny_rule (wpAny_bind (wpAny_standAt (wpAny_bind (wpAny_mono h (fun it' s' h'=>wpAny_pure (And.intro rfl h')) fun _ _ x=>x.elim)))))
   | (refine wpAny_bind (wpAny_rule ?_);show wpAny _ _ (standAt _ >>= _) _ _ s;exact wpAny_bind (wpAny_standAt (wpAny_bind (wpAny_mono h (fun it' s' h'=>wpAny_pure (And.intro rfl h')) fun _ _ x=>x.elim))))
end
end L2
namespace DL
open PySem PySem.Spec L2
open PyProof.Rows hiding St
def zfZ:Option Sl->Option Sl
 | some (.own _)=>none
 | x=>x
def za5 (ρ : DEnv):DEnv:=ρ.map zfZ
theorem ziR {ρ : DEnv} {i:Nat} {d:D} (h:(za5 ρ)[i]?=some (some (.pub d))) : ρ[i]?=some (some (.pub d)):=by
 unfold za5 at h
 rw [List.getElem?_map] at h
 cases e : ρ[i]? with
 | none=>rw [e] at h;cases h
 | some o =>
  rw [e] at h
  cases o with
  | none=>cases h
  | some sl=>cases sl with
   | pub d'=>cases h;rfl
   | own ds=>cases h
theorem zcC {ρ : DEnv} {i:Nat} {ds:List D} (h:(za5 ρ)[i]?=some (some (.own ds))):False:=by
 unfold za5 at h
 rw [List.getElem?_map] at h
 cases e : ρ[i]? with
 | none=>rw [e] at h;cases h
 | some o =>
  rw [e] at h
  cases o with
  | none=>cases h
  | some sl=>cases sl with
   | pub d'=>cases h
   | own ds=>cases h
def zco (s:D->DEnv->Option DEnv) (t:M Bool) (g:M D):List D->DEnv->List D->Option (List D)
 | [],_,es=>some es
 | d :: r,ρ,es=>match s d ρ with
  | none=>none
  | some ρ1=>match t ρ1 with
   | .bad=>none
   | .ok b ρ2=>if b=true then (match g ρ2 with
     | .bad=>none
     | .ok e ρ3=>if es.length < 1000000 then zco s t g r (za5 ρ3) (es ++ [e]) else none)
    else zco s t g r (za5 ρ2) es
def zdO (f:M (List D)) (k:Nat) (s:D->DEnv->Option DEnv) (t:M Bool) (g:M D):M (List D):=fun ρ=>match f ρ with
 | .bad=>.bad
 | .ok ds ρ1=>match zco s t g ds (za5 ρ1 ++ List.replicate k none) [] with
  | none=>.bad
  | some es=>.ok es ρ1
def PIfs (X:Cx) (ifs:List Expr) (t:TT):Prop :=
 ∀ (pins:List (Addr × Obj)) (s:Shared) (σ : St) (H:Hp) (Q:Bool->Hp->Prop),Inv X pins σ H s->t σ H Q ->
  wpAny (model X.prog X.w) X.A (forIn ifs true fun c r=>if r=true then do let ok ← isTrue c X.env (eval c X.env);pure (ForInStep.yield ok) else pure (ForInStep.yield r)) (TP X pins σ Q) X.xe s
section
variable {X:Cx} {B G0:Hp}
theorem zcJ:PIfs X [] (tBo X.K B G0 (zad true)):=fun pins s σ H Q I ⟨G,ρ,k,a⟩=>wpAny_tests_nil ⟨H,I,a true G H k (.refl _) rfl⟩
theorem zlV {c:Expr} {t:M Bool} (h:PT X c (tBo X.K B G0 t)):PIfs X [c] (tBo X.K B G0 t):=fun pins s σ H Q I q=>wpAny_tests_one (h pins s σ H Q I q)
theorem EOk.rebase {K:PySem.W.Frag} {G H:Hp} {σ : St} {ρ : DEnv} (k:EOk K B G0 G H σ ρ):EOk K H G G H σ (za5 ρ) where
 bh:=.refl _
 gh:=k.gh
 g0:=.refl _
 np:=fun _ _ _ n=>n
 len:=by unfold za5;rw [List.length_map];exact k.len
 pub:=fun i d q=>k.pub i d (ziR q)
 own:=fun i ds q=>(zcC q).elim
 sep:=fun i j a ds es q=>(zcC q).elim
theorem EOk.more {K:PySem.W.Frag} {G H:Hp} {σ : St} {ρ : DEnv} (k:EOk K H G G H σ (za5 ρ)) (n:Nat):EOk K H G G H (σ ++ List.replicate n none) (za5 ρ ++ List.replicate n none) where
 bh:=.refl _
 gh:=k.gh
 g0:=.refl _
 np:=fun _ _ _ n=>n
 len:=by rw [List.length_append,List.length_append,k.len,List.length_replicate,List.length_replicate]
 pub:=fun i d q=>by
  by_cases hi:i < (za5 ρ).length
  ·rw [List.getElem?_append_left hi] at q
   rw [List.getElem?_append_left (by rw [← k.len];exact hi)]
   exact k.pub i d q
  ·rw [List.getElem?_append_right (Nat.le_of_not_lt hi),List.getElem?_replicate] at q
   split at q <;> cases q
 own:=fun i ds q=>by
  by_cases hi:i < (za5 ρ).length
  ·rw [List.getElem?_append_left hi] at q
   exact (zcC q).elim
  ·rw [List.getElem?_append_right (Nat.le_of_not_lt hi),List.getElem?_replicate] at q
   split at q <;> cases q
 sep:=fun i j a ds es q=>by
  by_cases hi:i < (za5 ρ).length
  ·rw [List.getElem?_append_left hi] at q
   exact (zcC q).elim
  ·rw [List.getElem?_append_right (Nat.le_of_not_lt hi),List.getElem?_replicate] at q
   split at q <;> cases q
theorem EOk.beside {K:PySem.W.Frag} {G H:Hp} {σ : St} {ρ : DEnv} {a:Addr} {o:HO} (k:EOk K B G0 G H σ ρ) (hg:G a=none):EOk K (upd H a o) G G (upd H a o) σ (za5 ρ) where
 bh:=.refl _
 gh:=fun b u e=>by rw [zaw (fun z=>by subst z;rw [hg] at e;cases e)];exact k.gh b u e
 g0:=.refl _
 np:=fun _ _ _ n=>n
 len:=k.rebase.len
 pub:=k.rebase.pub
 own:=fun i ds q=>(zcC q).elim
 sep:=fun i j a ds es q=>(zcC q).elim
theorem lim1:1000000<=sizeLine:=lim
def zoC:Option Sl->Option Sl
 | some (.own ds)=>some (.pub (.list ds))
 | x=>x
def zd6 (ρ : DEnv):DEnv:=ρ.map zoC
theorem ziS {ρ : DEnv} {i:Nat} {d:D} (h:(zd6 ρ)[i]?=some (some (.pub d))) : ρ[i]?=some (some (.pub d)) ∨ ∃ ds,d=.list ds /\ ρ[i]?=some (some (.own ds)):=by
 unfold zd6 at h
 rw [List.getElem?_map] at h
 cases e : ρ[i]? with
 | none=>rw [e] at h;cases h
 | some o =>
  rw [e] at h
  cases o with
  | none=>cases h
  | some sl=>cases sl with
   | pub d'=>cases h;exact .inl rfl
   | own ds=>cases h;exact .inr ⟨ds,rfl,rfl⟩
theorem zf0 {ρ : DEnv} {i:Nat} {ds:List D} (h:(zd6 ρ)[i]?=some (some (.own ds))):False:=by
 unfold zd6 at h
 rw [List.getElem?_map] at h
 cases e : ρ[i]? with
 | none=>rw [e] at h;cases h
 | some o =>
  rw [e] at h
  cases o with
  | none=>cases h
  | some sl=>cases sl with
   | pub d'=>cases h
   | own ds=>cases h
def flat:D->Bool
 | .none=>true | .bool _=>true | .int _=>true | .str _=>true | _=>false
theorem Rep.flat {K:PySem.W.Frag} {G G':Hp} {v:V} {d:D} (r:Rep K G v d) (h:DL.flat d=true):Rep K G' v d:=by
 cases r with
 | non=>exact .non
 | bl b=>exact .bl b
 | int i=>exact .int i
 | str x=>exact .str x
 | lst _ _=>cases h
 | tup _ _=>cases h
 | dic _=>cases h
 | exc _ _ _ _=>cases h
 | dct _ _ _ _ _=>cases h
 | dtt _ _ _ _=>cases h
theorem Reps.flat {K:PySem.W.Frag} {G G':Hp}:∀ {vs:List V} {ds:List D},Reps K G vs ds->ds.all DL.flat=true->Reps K G' vs ds
 | _,_,.nil,_=>.nil
 | _,_,.cons r t,h=>by
  rw [List.all_cons,Bool.and_eq_true] at h
  exact .cons (r.flat h.1) (Reps.flat t h.2)
theorem EOk.lend {K:PySem.W.Frag} {B G0 G H:Hp} {σ : St} {ρ : DEnv} {D:Addr} {o:HO} (k:EOk K B G0 G H σ ρ) (hD:H D=none) (n:Nat):EOk K (upd H D o) H H (upd H D o) (σ ++ List.replicate n none) (zd6 ρ ++ List.replicate n none) where
 bh:=.refl _
 gh:=zaN hD
 g0:=.refl _
 np:=fun _ _ _ n=>n
 len:=by unfold zd6;rw [List.length_append,List.length_append,List.length_map,k.len,List.length_replicate,List.length_replicate]
 pub:=fun i d q=>by
  have hl:(zd6 ρ).length = ρ.length:=by unfold zd6;rw [List.length_map]
  by_cases hi:i < (zd6 ρ).length
  ·rw [List.getElem?_append_left hi] at q
   rw [List.getElem?_append_left (by rw [← k.len,← hl];exact hi)]
   rcases ziS q with e | ⟨ds,rfl,e⟩
   ·obtain ⟨v,h1,h2⟩:=k.pub i d e
    exact ⟨v,h1,h2.mono k.gh⟩
   ·obtain ⟨a,vs,h1,h2,h3,h4,h5⟩:=k.own i ds e
    exact ⟨.ref a,h1,.lst (SqL.of h4) (h5.mono k.gh)⟩
  ·rw [List.getElem?_append_right (Nat.le_of_not_lt hi),List.getElem?_replicate] at q
   split at q <;> cases q
 own:=fun i ds q=>by
  by_cases hi:i < (zd6 ρ).length
  ·rw [List.getElem?_append_left hi] at q
   exact (zf0 q).elim
  ·rw [List.getElem?_append_right (Nat.le_of_not_lt hi),List.getElem?_replicate] at q
   split at q <;> cases q
 sep:=fun i j a ds es q=>by
  by_cases hi:i < (zd6 ρ).length
  ·rw [List.getElem?_append_left hi] at q
   exact (zf0 q).elim
  ·rw [List.getElem?_append_right (Nat.le_of_not_lt hi),List.getElem?_replicate] at q
   split at q <;> cases q
end
def zdu (s:D->DEnv->Option DEnv) (t:M Bool) (g:M D):List D->DEnv->List D->Option (List D × DEnv)
 | [],ρ,es=>some (es,ρ)
 | d :: r,ρ,es=>match s d ρ with
  | none=>none
  | some ρ1=>match t ρ1 with
   | .bad=>none
   | .ok b ρ2=>if b=true then (match g ρ2 with
     | .bad=>none
     | .ok e ρ3=>if es.length < 1000000 then zdu s t g r (za5 ρ3) (es ++ [e]) else none)
    else zdu s t g r (za5 ρ2) es
def zcW (s0:D->DEnv->Option DEnv) (t0:M Bool) (f1:M (List D)) (s1:D->DEnv->Option DEnv) (t1:M Bool) (g:M D):List D->DEnv->List D->Option (List D)
 | [],_,es=>some es
 | d :: r,ρ,es=>match s0 d ρ with
  | none=>none
  | some ρ1=>match t0 ρ1 with
   | .bad=>none
   | .ok b ρ2=>if b=true then (match f1 ρ2 with
     | .bad=>none
     | .ok ds ρ3=>match zdu s1 t1 g ds (za5 ρ3) es with
      | none=>none
      | some (es',ρ4)=>zcW s0 t0 f1 s1 t1 g r ρ4 es')
    else zcW s0 t0 f1 s1 t1 g r (za5 ρ2) es
def zf1 (f:M (List D)) (k:Nat) (s:D->DEnv->Option DEnv) (t:M Bool) (f1:M (List D)) (s1':D->DEnv->Option DEnv) (t1':M Bool) (g:M D):M (List D):=fun ρ=>match f ρ with
 | .bad=>.bad
 | .ok ds ρ1=>match zcW s t f1 s1' t1' g ds (za5 ρ1 ++ List.replicate k none) [] with
  | none=>.bad
  | some es=>.ok es ρ1
abbrev RdB:=DEnv->List D->Option (List D × DEnv)
def rL (g:M D):RdB:=fun ρ es=>match g ρ with
 | .bad=>none
 | .ok e ρ3=>if es.length < 1000000 then some (es ++ [e],za5 ρ3) else none
def cT (s:D->DEnv->Option DEnv) (t:M Bool) (rd:RdB):List D->DEnv->List D->Option (List D × DEnv)
 | [],ρ,es=>some (es,ρ)
 | d :: r,ρ,es=>match s d ρ with
  | none=>none
  | some ρ1=>match t ρ1 with
   | .bad=>none
   | .ok b ρ2=>if b=true then (match rd ρ2 es with
     | none=>none
     | some (es',ρ')=>cT s t rd r ρ' es')
    else cT s t rd r (za5 ρ2) es
def rN (f:M (List D)) (s:D->DEnv->Option DEnv) (t:M Bool) (rd:RdB):RdB:=fun ρ es=>match f ρ with
 | .bad=>none
 | .ok ds ρ3=>cT s t rd ds (za5 ρ3) es
structure Left (Y:Cx) (D':Addr) (pins:List (Addr × Obj)) (H G:Hp) (es':List D) (ρ':DEnv) (σ':St) (H' G':Hp) (vs':List V) (s':Shared):Prop where
 inv:Inv Y pins σ' H' s'
 eok:EOk Y.K H' G' G' H' σ' ρ'
 hh:∀ a o,a ≠ D'->H a=some o->H' a=some o
 gg:Same G G'
 np:∀ a (u:MO),a ≠ D'->H a=some u.ho->G a=none->G' a=none
 hd:H' D'=some (.lst vs')
 gd:G' D'=none
 rp:Reps Y.K G' vs' es'
def ziT (Y:Cx) (D':Addr) (W:(Shared->Prop)->Shared->Prop) (rd:RdB):Prop :=
 ∀ (pins:List (Addr × Obj)) (sh:Shared) (σ : St) (B1 G1 H G:Hp) (ρ ρ':DEnv) (vs:List V) (es es':List D) (Q:Shared->Prop),
  Inv Y pins σ H sh->EOk Y.K B1 G1 G H σ ρ -> B1 D'=some (.lst vs)->G1 D'=none->Reps Y.K G1 vs es->rd ρ es=some (es',ρ') ->
  (∀ σ' H' G' vs' s',Left Y D' pins B1 G1 es' ρ' σ' H' G' vs' s'->Q s')->W Q sh
section
variable {Y:Cx} {D':Addr}
theorem ziU {elt:Expr} {g:M D} (hx:Y.xe=nox) (he:∀ B1 G1,PE Y elt (tD Y.K B1 G1 g)) :
  ziT Y D' (fun Q s=>wpAny (model Y.prog Y.w) Y.A (eval elt Y.env) (fun x s₄=>wpAny (model Y.prog Y.w) Y.A (call (.builtin "list.append") [.ref D',x]) (fun _ s₅=>Q s₅) nox s₄) nox s) (rL g):=by
 intro pins sh σ B1 G1 H G ρ ρ' vs es es' Q I k hD gD r z fin
 unfold rL at z
 cases zg:g ρ with
 | bad=>rw [zg] at z;cases z
 | ok e ρ4 =>
 rw [zg] at z
 dsimp only at z
 split at z
 ·rename_i hle
  cases z
  have h:=he B1 G1 pins sh σ H (fun v H8=>∃ G8,EOk Y.K B1 G1 G8 H8 σ ρ4/\Rep Y.K G8 v e) I ⟨G,ρ,k,by unfold aft;rw [zg];exact fun v G8 H8 k8 _ q=>⟨G8,k8,q⟩⟩
  rw [hx] at h
  refine thn h fun ev s8 ⟨v,H8,I8,rv,G8,k8,r8⟩=>?_
  have h2:=zfN pins s8 σ H8 (.ref D') [v] (.ref D') [ev] (fun _ H9=>H9=upd H8 D' (.lst (vs ++ [v]))) I8 rfl (.cons rv .nil) ⟨D',vs,v,rfl,rfl,k8.bh _ _ hD,by have:=lim1;rw [r.length];omega,rfl⟩
  rw [hx] at h2
  refine thn h2 fun _ s9 ⟨_,H9,I9,_,e9⟩=>?_
  subst e9
  have g8:=k8.np _ (.l _) hD gD
  exact fin σ _ G8 _ s9 ⟨I9,k8.beside g8,fun a o z q=>by rw [zaw z];exact k8.bh a o q,k8.g0,fun a o _ q w=>k8.np a o q w,zat,g8,(r.mono k8.g0).append (.cons r8 .nil)⟩
 ·cases z
theorem zhl {tg:Expr} {ifs:List Expr} {code:Code} {W:(Shared->Prop)->Shared->Prop} {s:D->DEnv->Option DEnv} {t:M Bool} {rd:RdB} {it:Addr} (hx:Y.xe=nox) (hc:Y.calm=true) (rule:zdt Y.prog Y.w Y.A tg ifs Y.env (.ref it) code W)
  (hg:∀ B1 G1,PG Y tg (tG Y.K B1 G1 s)) (ht:∀ B1 G1,PIfs Y ifs (tBo Y.K B1 G1 t)) (hb:ziT Y D' W rd)
  {pins:List (Addr × Obj)} {sh:Shared} {σ : St} {H G:Hp} {ρ ρF:DEnv} {fp:List Addr} {tn:Nat->Heap->Prop} {J:It} {ds es esF:List D} {vs:List V} {R:Result->Shared->Prop}
  (I:Inv Y pins σ H sh) (T:Turn Y.prog Y.w Y.K tg J fp it tn) (st:tn 0 sh.heap) (hf:∀ b ∈ fp,FpOk Y pins H b)
  (k:EOk Y.K H G G H σ ρ) (its:zeP Y.K J ds G) (hD:H D'=some (.lst vs)) (gD:G D'=none) (r:Reps Y.K G vs es) (zl:cT s t rd ds ρ es=some (esF,ρF))
  (hfin:∀ σ' H' G' vs' s',Left Y D' pins H G esF ρF σ' H' G' vs' s'->R (.ok .next) s'):codeAny (model Y.prog Y.w) Y.A code R sh:=by
 have stat:∀ {H':Hp},(∀ b ∈ fp,H' b=none)->∀ b ∈ fp,FpOk Y pins H' b:=fun hn b hb=>⟨hn b hb,(hf b hb).2⟩
 refine rule R (fun n s'=>∃ i σ' H' G' ρ' vs' es',n=ds.length - i/\tn i s'.heap/\(∀ b ∈ fp,H' b=none)/\Left Y D' pins H G es' ρ' σ' H' G' vs' s'/\cT s t rd (ds.drop i) ρ' es'=some (esF,ρF)) ds.length sh
  ⟨0,σ,H,G,ρ,vs,es,rfl,st,fun b hb=>(hf b hb).1,⟨I,k,fun _ _ _ q=>q,.refl _,fun _ _ _ _ n=>n,hD,gD,r⟩,by rw [List.drop_zero];exact zl⟩ ?_
 rintro n s' ⟨i,σ',H',G',ρ',vs',es',rfl,tn',fr',⟨I',k',sh',sg',np',hD',gD',r'⟩,zc⟩
 by_cases hlt:i < ds.length
 ·rw [List.drop_eq_getElem_cons hlt,cT] at zc
  cases zs:s ds[i] ρ' with
  | none=>rw [zs] at zc;cases zc
  | some ρ2 =>
  rw [zs] at zc
  dsimp only at zc
  cases zt:t ρ2 with
  | bad=>rw [zt] at zc;cases zc
  | ok b ρ3 =>
  rw [zt] at zc
  dsimp only at zc
  refine thn (T.item Y rfl rfl rfl hc i pins s' σ' H' nox I' (stat fr') tn' (its.go i G' H' sg' k'.gh hlt)) fun rr s4 ⟨u,hr,h4⟩=>?_
  subst hr
  refine thn h4 fun _ s5 ⟨x,H5,I5,r5,y5,st5,fr5⟩=>?_
  obtain ⟨G5,e5,rx⟩:=its.yld i G' H' x H5 ds[i] sg' k'.gh (List.getElem?_eq_getElem hlt) y5
  have h6:=hg H' G' _ s5 σ' H5 x u (fun σ6 H6=>∃ G6,EOk Y.K H' G' G6 H6 σ6 ρ2) (I5.pinned (stat fr5) (T.obj _ _ st5)) r5 ⟨G5,ρ',ds[i],ρ2,k'.ext e5,rx,zs,fun σ6 G6 H6 k6 _=>⟨G6,k6⟩⟩
  rw [hx] at h6
  refine thn h6 fun _ s6 ⟨σ6,H6,I6,G6,k6⟩=>?_
  have h7:=ht H' G' _ s6 σ6 H6 (fun c H7=>c=b/\∃ G7,EOk Y.K H' G' G7 H7 σ6 ρ3) I6 ⟨G6,ρ2,k6,by unfold aft;rw [zt];exact fun c G7 H7 k7 _ q=>⟨q,G7,k7⟩⟩
  rw [hx] at h7
  refine thn h7 fun ok s7 ⟨H7,I7,hb7,G7,k7⟩=>?_
  subst hb7
  have again:∀ {H9:Hp} {σ9:St} {s9:Shared},Inv Y (pins ++ zfF fp s5.heap) σ9 H9 s9->Inv Y pins σ9 H9 s9/\tn (i+1) s9.heap/\∀ b ∈ fp,H9 b=none:=fun {H9 σ9 s9} I9=>by
   refine ⟨I9.unpinned,T.keep _ _ _ st5 fun b hb o e=>(I9.pin (b,o) (List.mem_append_right _ (List.mem_append_right _ (zc5 hb e)))).1,fun b hb=>?_⟩
   obtain ⟨o,e,d⟩:=T.obj _ _ st5 b hb
   exact (I9.pin (b,o) (List.mem_append_right _ (List.mem_append_right _ (zc5 hb e)))).2.1
  have lt:ds.length - (i+1) < ds.length - i:=Nat.sub_lt_sub_left hlt (Nat.lt_succ_self i)
  cases ok with
  | false =>
   rw [if_neg (by decide)] at zc ⊢
   obtain ⟨J1,J2,J3⟩:=again I7
   exact ⟨_,lt,i+1,σ6,H7,G7,za5 ρ3,vs',es',rfl,J2,J3,⟨J1,k7.rebase,fun a o z q=>k7.bh a o (sh' a o z q),sg'.trans k7.g0,fun a o z q w=>k7.np a o (sh' a _ z q) (np' a o z q w),k7.bh _ _ hD',k7.np _ (.l _) hD' gD',r'.mono k7.g0⟩,zc⟩
  | true =>
   rw [if_pos rfl] at zc ⊢
   cases ze:rd ρ3 es' with
   | none=>rw [ze] at zc;cases zc
   | some pr =>
   obtain ⟨es1,ρ5⟩:=pr
   rw [ze] at zc
   refine hb _ s7 σ6 H' G' H7 G7 ρ3 ρ5 vs' es' es1 _ I7 k7 hD' gD' r' ze fun σ9 H9 G9 vs9 s9 L=>?_
   obtain ⟨J1,J2,J3⟩:=again L.inv
   exact ⟨_,lt,i+1,σ9,H9,G9,ρ5,vs9,es1,rfl,J2,J3,⟨J1,L.eok,fun a o z q=>L.hh a o z (sh' a o z q),sg'.trans L.gg,fun a o z q w=>L.np a o z (sh' a _ z q) (np' a o z q w),L.hd,L.gd,L.rp⟩,zc⟩
 ·rw [List.drop_eq_nil_of_le (Nat.le_of_not_lt hlt),cT] at zc
  cases zc
  refine thn (T.done Y rfl rfl rfl hc i pins s' σ' H' nox I' (stat fr') tn' (its.stop i G' H' sg' k'.gh (Nat.le_of_not_lt hlt))) fun rr s4 ⟨hr,I6⟩=>?_
  subst hr
  exact hfin σ' H' G' vs' s4 ⟨I6,k',sh',sg',np',hD',gD',r'⟩
theorem ziV {elt tg1 i1:Expr} {ifs1:List Expr} {gens:List Comprehension} {scope:Scope} {pos:Pos} {j:Nat} {W:Value->(Shared->Prop)->Shared->Prop} {f:M (List D)} {s:D->DEnv->Option DEnv} {t:M Bool} {rd:RdB} (hx:Y.xe=nox) (hc:Y.calm=true)
  (hn:gens[j+1]?=some ⟨tg1,i1,ifs1,0⟩) (rule:∀ it1,zdt Y.prog Y.w Y.A tg1 ifs1 Y.env it1 (.compLoop (.ListComp elt gens scope pos) (j+1) it1 (.ref D') Y.env) (W it1))
  (hi:∀ B1 G1,PI Y tg1 i1 (iD Y.K B1 G1 f)) (hg:∀ B1 G1,PG Y tg1 (tG Y.K B1 G1 s)) (ht:∀ B1 G1,PIfs Y ifs1 (tBo Y.K B1 G1 t)) (hb:∀ it1,ziT Y D' (W it1) rd) :
  ziT Y D' (fun Q s=>wpAny (model Y.prog Y.w) Y.A (eval i1 Y.env) (fun x s₄=>wpAny (model Y.prog Y.w) Y.A (pyIter x) (fun it1 s₅=>codeAny (model Y.prog Y.w) Y.A (.compStart (.ListComp elt gens scope pos) (j+1) it1 (.ref D') Y.env)
   (fun r s₆=>match r with | .ok _=>Q s₆ | .error _=>False) s₅) nox s₄) nox s) (rN f s t rd):=by
 intro pins sh σ B1 G1 H G ρ ρ' vs es es' Q I k hD gD r z fin
 unfold rN at z
 cases zf:f ρ with
 | bad=>rw [zf] at z;cases z
 | ok ds ρ3 =>
 rw [zf] at z
 have h:=hi B1 G1 pins sh σ H (fun J1 H8=>∃ G8,EOk Y.K B1 G1 G8 H8 σ ρ3/\zeP Y.K J1 ds G8) I ⟨G,ρ,k,by rw [zf];exact fun J1 G8 H8 k8 _ q=>⟨G8,k8,q⟩⟩
 rw [hx] at h
 refine thn h fun xv s8 h8=>thn h8 fun itv s9 h9=>?_
 obtain ⟨it1,fp1,tn1,J1,H9,rfl,I9,T1,st9,f9,G9,k9,its9⟩:=h9
 have loop:codeAny (model Y.prog Y.w) Y.A (.compLoop (.ListComp elt gens scope pos) (j+1) (.ref it1) (.ref D') Y.env) (fun r s₆=>match r with | .ok _=>Q s₆ | .error _=>False) s9 :=
  zhl hx hc (rule (.ref it1)) hg ht (hb _) I9 T1 st9 f9 k9.rebase its9 (k9.bh _ _ hD) (k9.np _ (.l _) hD gD) (r.mono k9.g0) z fun σ' H' G' vs' s' L =>
   fin σ' H' G' vs' s' ⟨L.inv,L.eok,fun a o z q=>L.hh a o z (k9.bh a o q),k9.g0.trans L.gg,fun a o z q w=>L.np a o z (k9.bh a _ q) (k9.np a o q w),L.hd,L.gd,L.rp⟩
 exact zfY hn loop (T1.self Y.A 0 _ _ _ st9 loop)
end
def zku (Y:Cx) (e:Expr) (j:Nat) (tg:Expr) (ifs:List Expr) (rd:RdB):Prop :=
 ∀ (D':Addr) (it:Value),∃ W,zdt Y.prog Y.w Y.A tg ifs Y.env it (.compLoop e j it (.ref D') Y.env) W/\ziT Y D' W rd
section
variable {Y:Cx} {elt tg i:Expr} {ifs:List Expr} {gens:List Comprehension} {scope:Scope} {pos:Pos} {j:Nat}
theorem zbX {g:M D} (hx:Y.xe=nox) (hg:gens[j]?=some ⟨tg,i,ifs,0⟩) (hn:gens[j+1]?=none) (he:∀ B1 G1,PE Y elt (tD Y.K B1 G1 g)):zku Y (.ListComp elt gens scope pos) j tg ifs (rL g) :=
 fun _ _=>⟨_,ziP hg hn,ziU hx he⟩
theorem ziW {tg1 i1:Expr} {ifs1:List Expr} {f:M (List D)} {s:D->DEnv->Option DEnv} {t:M Bool} {rd:RdB} (hx:Y.xe=nox) (hc:Y.calm=true) (hg:gens[j]?=some ⟨tg,i,ifs,0⟩) (hn:gens[j+1]?=some ⟨tg1,i1,ifs1,0⟩) (hs:∀ x,foldedSetIterable i1 Y.env x=pure x)
  (hi:∀ B1 G1,PI Y tg1 i1 (iD Y.K B1 G1 f)) (hgt:∀ B1 G1,PG Y tg1 (tG Y.K B1 G1 s)) (ht:∀ B1 G1,PIfs Y ifs1 (tBo Y.K B1 G1 t)) (hb:zku Y (.ListComp elt gens scope pos) (j+1) tg1 ifs1 rd):zku Y (.ListComp elt gens scope pos) j tg ifs (rN f s t rd) :=
 fun D' _=>⟨_,ziQ hg hn hs,ziV hx hc hn (fun it1=>(Classical.choose_spec (hb D' it1)).1) hi hgt ht (fun it1=>(Classical.choose_spec (hb D' it1)).2)⟩
end
def envB (l:Bool) (ρ : DEnv):DEnv:=match l with | true=>zd6 ρ | false=>za5 ρ
theorem entry {K:PySem.W.Frag} {B G0 G1 H2:Hp} {σ : St} {ρ1:DEnv} {D:Addr} (l:Bool) (k1:EOk K B G0 G1 H2 σ ρ1) (hfr:H2 D=none) (n:Nat) :
  ∃ Gb,EOk K (upd H2 D (.lst [])) Gb Gb (upd H2 D (.lst [])) (σ ++ List.replicate n none) (envB l ρ1 ++ List.replicate n none)/\Same G1 Gb/\Gb D=none /\
   ∀ (G' H':Hp) vs es,(l=true->es.all flat=true)->Same Gb G'->Same H2 H'->Same G' H'->(∀ a (u:MO),H2 a=some u.ho->Gb a=none->G' a=none)->G' D=none->Reps K G' vs es->∃ Gf,Ext G1 H2 Gf H'/\Gf D=none/\Reps K Gf vs es:=by
 have gD:G1 D=none:=k1.gh.free hfr
 cases l with
 | false=>exact ⟨G1,(k1.beside gD).more n,.refl _,gD,fun G' H' vs es _ g h gh np d r=>⟨G',⟨h,g,gh,np⟩,d,r⟩⟩
 | true=>exact ⟨H2,k1.lend hfr n,k1.gh,hfr,fun G' H' vs es fl _ h _ _ _ r=>⟨G1,⟨h,.refl _,k1.gh.trans h,fun _ _ _ n=>n⟩,gD,r.flat (fl rfl)⟩⟩
def dCG (l:Bool) (f:M (List D)) (k:Nat) (s:D->DEnv->Option DEnv) (t:M Bool) (rd:RdB):M (List D):=fun ρ=>match f ρ with
 | .bad=>.bad
 | .ok ds ρ1=>match cT s t rd ds (envB l ρ1 ++ List.replicate k none) [] with
  | none=>.bad
  | some (es,_)=>if l=true->es.all flat=true then .ok es ρ1 else .bad
theorem ziX {l:Bool} {f:M (List D)} {k:Nat} {s:D->DEnv->Option DEnv} {t:M Bool} {rd:RdB} {ρ ρ':DEnv} {es:List D} (h:dCG l f k s t rd ρ = .ok es ρ'):∃ ds ρF,f ρ = .ok ds ρ'/\cT s t rd ds (envB l ρ' ++ List.replicate k none) []=some (es,ρF)/\(l=true->es.all flat=true):=by
 unfold dCG at h
 cases zf:f ρ with
 | bad=>rw [zf] at h;cases h
 | ok ds ρ1 =>
 rw [zf] at h
 dsimp only at h
 cases zl:cT s t rd ds (envB l ρ1 ++ List.replicate k none) [] with
 | none=>rw [zl] at h;cases h
 | some pr =>
 obtain ⟨esF,ρF⟩:=pr
 rw [zl] at h
 dsimp only at h
 split at h
 ·rename_i hf
  cases h
  exact ⟨ds,ρF,rfl,zl,hf⟩
 ·cases h
section
variable {X:Cx} {B G0:Hp} {KX:XW}
def PBlk (X:Cx) (N2:List Str) (scope:Scope) (e tg:Expr) (ifs:List Expr) (s:D->DEnv->Option DEnv) (t:M Bool) (rd:RdB):Prop :=
 ∀ (cl:List (Str × Addr)) (C:Addr) (s₀ : Shared) (H₀ : Hp) (ex:List Addr),(∀ B' G',PG (X.blk N2 scope cl C s₀ H₀ ex) tg (tG X.K B' G' s))/\(∀ B' G',PIfs (X.blk N2 scope cl C s₀ H₀ ex) ifs (tBo X.K B' G' t))/\zku (X.blk N2 scope cl C s₀ H₀ ex) e 0 tg ifs rd
structure ziY (SC scope:Scope) (N1 N2:List Str) (k:Nat):Prop where
 b:zds scope.names N1 N2 k=true
 kind:scope.kind=.function
 cell:∀ y ∈ scope.names,y.2 ≠ .cell
 names:∀ y ∈ scope.names,y.2=.local->scope.names.lookup y.1=some .local
 free:∀ y ∈ scope.names,y.2=.free->SC.names.lookup y.1=some .cell ∨ SC.names.lookup y.1=some .free
theorem zhm {l:Bool} {tg elt iter:Expr} {ifs:List Expr} {gs:List Comprehension} {scope:Scope} {pos pos':Pos} {N2:List Str} {k:Nat} {f:M (List D)} {s:D->DEnv->Option DEnv} {t:M Bool} {rd:RdB} {use:Option (Value->Sem Unit)} {Qc:Value->Shared->Prop} (hc:X.calm=true)
  (hi:PI X tg iter (iD X.K B G0 f)) (hblk:PBlk X N2 scope (.ListComp elt (⟨tg,iter,ifs,0⟩ :: gs) scope pos) tg ifs s t rd) (hb:ziY X.env.scope scope X.N N2 k) (hs:∀ x,foldedSetIterable iter X.env x=pure x)
  {pins:List (Addr × Obj)} {s0:Shared} {σ : St} {G H:Hp} {ρ ρ1 ρF:DEnv} {ds esF:List D} (I:Inv X pins σ H s0) (k0:EOk X.K B G0 G H σ ρ) (zf:f ρ = .ok ds ρ1) (zl:cT s t rd ds (envB l ρ1 ++ List.replicate k none) []=some (esF,ρF)) (hfl:l=true->esF.all flat=true)
  (hfin:∀ (C D:Addr) (vs:List V) (G' H':Hp) (s4:Shared) (m:Str->Option Value),Inv X pins σ H' s4->s4.heap.Ns C m->H' C=none->C ≠ X.env.locals->X.s₀.heap.objs.size<=C->(∀ x c,X.env.cells.lookup x=some c->c ≠ C)->(∀ p ∈ X.pn ++ pins,p.1 ≠ C) ->
   EOk X.K B G0 G' H' σ ρ1->Same G G'->NewL X.K B G' H' σ ρ1 D vs esF->compPost (model X.prog X.w) X.A X.xe use Qc (.ref D) C (.ok .next) s4) :
  wpAny (model X.prog X.w) X.A (comprehension (.ListComp elt (⟨tg,iter,ifs,0⟩ :: gs) scope pos) scope X.env pos' (newList []) false (eval iter X.env) use) Qc X.xe s0:=by
 obtain ⟨cl,hcl,cl1,cl2⟩:=zhV (scope:=scope) (env:=X.env) fun y hy hf=>I.ok.has y.1 (hb.free y hy hf)
 refine wpAny_comprehension_free (use:=use) rfl hs hcl hb.kind hb.names (thn (hi pins s0 σ H (fun J H1=>∃ G1,EOk X.K B G0 G1 H1 σ ρ1/\Same G G1/\zeP X.K J ds G1) I ⟨G,ρ,k0,by rw [zf];exact fun J G1 H1 k1 s1 it=>⟨G1,k1,s1,it⟩⟩) fun v s1 h1=>thn h1 fun itv s2 h2=>?_)
 obtain ⟨it,fp,tn,J,H2,rfl,I2,T,st2,f2,G1,k1,sg1,its⟩:=h2
 refine wpAny_newObj_type (wpAny_newFunctionEnv hb.cell (by intro y hy;simp at hy) (fun h₁ hns₁ hsb₁=>?_) hb.kind)
 dsimp only at hns₁ hsb₁ ⊢
 have hfr:H2 s2.heap.objs.size=none:=I2.hok.fresh (Nat.le_refl _)
 have I3:Inv X pins σ (upd H2 s2.heap.objs.size (.lst [])) { s2 with heap:=s2.heap.push { cls:=.type "list", dict:=none,data:=.seq ([]:List Value).toArray } } :=
  I2.laid (t':=s2.toks) (fun b u e=>Heap.get?_push_of_some _ e) (Nat.le_refl _) ⟨Nat.zero_le _,[],0,.nil,Heap.get?_push_size _ rfl⟩
 generalize hP:s2.heap.push { cls:=.type "list", dict:=none,data:=.seq ([]:List Value).toArray }=P at I3 hns₁ hsb₁ ⊢
 have old:∀ b o,s2.heap.get? b=some o->P.get? b=some o:=fun b o e=>hP ▸ Heap.get?_push_of_some _ e
 have kept:∀ b o,P.get? b=some o->h₁.get? b=some o:=fun b o e=>hsb₁.extBut b o (Nat.ne_of_lt (Heap.lt_size e)) (Heap.get?_push_of_some _ e)
 have fpo:∀ b ∈ fp,∃ o,s2.heap.get? b=some o:=fun b hb=>let ⟨o,e,_⟩:=T.obj _ _ st2 b hb;⟨o,e⟩
 have fpD:∀ b ∈ fp,b ≠ s2.heap.objs.size:=fun b hb=>let ⟨o,e⟩:=fpo b hb;Nat.ne_of_lt (Heap.lt_size e)
 have f3:∀ b ∈ fp,FpOk X pins (upd H2 s2.heap.objs.size (.lst [])) b:=fun b hb=>⟨by rw [zaw (fpD b hb)];exact (f2 b hb).1,(f2 b hb).2⟩
 have I4:=I3.enter (scope:=scope) (cl:=cl) (N2:=N2) (k:=k) (fp:=fp) (t':=s2.toks+([]:List (Str × Value)).length) hb.b hb.kind hb.cell hb.free cl1 cl2 hns₁ kept f3 (fun b hb=>let ⟨o,e⟩:=fpo b hb;⟨o,old b o e⟩)
 dsimp only at I4
 obtain ⟨Gb,kb,sgb,gbD,ex⟩:=entry l k1 hfr k
 have sH:Same H2 (upd H2 s2.heap.objs.size (.lst [])):=zaN hfr
 have hD3:upd H2 s2.heap.objs.size (.lst []) s2.heap.objs.size=some (.lst []):=zat
 generalize upd H2 s2.heap.objs.size (.lst [])=H3 at I3 I4 f3 kb sH hD3
 generalize s2.heap.objs.size=D at *
 have tn0:tn 0 h₁:=T.keep 0 _ _ st2 fun b hb o e=>kept b o (old b o e)
 have stat:∀ b ∈ fp,FpOk (X.blk N2 scope cl P.objs.size { s2 with heap:=P } H3 fp) pins H3 b:=fun b hb=>by
  obtain ⟨z0,z1,z2,z3,z4,z5⟩:=f3 b hb
  obtain ⟨o,e⟩:=fpo b hb
  refine ⟨z0,Nat.ne_of_lt (Heap.lt_size (old b o e)),fun z=>?_,.inl hb,fun x c q=>z4 x c (cl1 x c q),z5⟩
  rcases List.mem_cons.mp (I3.stkSub b z) with q | q
  ·exact z1 q
  ·exact z2 q
 have neD:∀ a o,H2 a=some o->a ≠ D:=fun a o q z=>by subst z;rw [hfr] at q;cases q
 obtain ⟨hg,ht,hcl'⟩:=hblk cl P.objs.size { s2 with heap:=P } H3 fp
 obtain ⟨W,rule,body⟩:=hcl' D (.ref it)
 have loop:=zhl (Y:=X.blk N2 scope cl P.objs.size { s2 with heap:=P } H3 fp) (D':=D) (R:=compPost (model X.prog X.w) X.A X.xe use Qc (.ref D) P.objs.size) rfl hc rule hg ht body I4 T tn0 stat kb
  ⟨fun i G H s1 s2 hi=>its.go i G H (sgb.trans s1) s2 hi,fun i G H s1 s2 hi=>its.stop i G H (sgb.trans s1) s2 hi,fun i G H x H' d s1 s2 e y=>its.yld i G H x H' d (sgb.trans s1) s2 e y⟩ hD3 gbD .nil zl fun σ' H' G' vs' s4 L=>by
   obtain ⟨m,hm,_⟩:=id L.inv.loc
   have I7:Inv X pins σ H' s4:=I3.call' (ch:=fp) L.inv.os L.inv.base L.inv.hok L.inv.bare fun b hb=>⟨(f3 b hb).2.2.2.1,(f3 b hb).2.1,(f3 b hb).2.2.2.2.1,(f3 b hb).2.2.2.2.2⟩
   obtain ⟨Gf,eF,dF,rF⟩:=ex G' H' vs' esF hfl L.gg (fun a o q=>L.hh a o (neD a o q) (sH a o q)) L.eok.gh (fun a o q z=>L.np a o (neD a _ q) (sH a _ q) z) L.gd L.rp
   refine hfin P.objs.size D vs' Gf H' s4 m I7 hm L.inv.free (Nat.ne_of_gt I3.lt) I3.sz (fun x c e z=>by obtain ⟨_,q⟩:=I3.cell x c e;exact absurd q.lt (by rw [z];exact Nat.lt_irrefl _)) (fun p hp z=>by have:=Heap.lt_size (I3.pin p hp).1;exact absurd this (by rw [z];exact Nat.lt_irrefl _))
    (k1.ext eF) (sg1.trans eF.g) ⟨k1.bh.free hfr,dF,L.hd,rF,fun j es' q z=>?_⟩
   obtain ⟨a',ws,h1',h2',h3',h4',h5'⟩:=k1.own j es' q
   rw [z] at h1'
   cases h1'
   rw [hfr] at h4';cases h4'
 exact codeAny_compStart_list loop (T.self X.A 0 _ _ _ tn0 loop)
theorem zoD {l:Bool} {tg elt iter:Expr} {ifs:List Expr} {gs:List Comprehension} {scope:Scope} {pos:Pos} {N2:List Str} {k:Nat} {f:M (List D)} {s:D->DEnv->Option DEnv} {t:M Bool} {rd:RdB} (hc:X.calm=true)
  (hi:PI X tg iter (iD X.K B G0 f)) (hblk:PBlk X N2 scope (.ListComp elt (⟨tg,iter,ifs,0⟩ :: gs) scope pos) tg ifs s t rd) (hb:ziY X.env.scope scope X.N N2 k) (hs:∀ x,foldedSetIterable iter X.env x=pure x:=by intro _;rfl) :
  PE X (.ListComp elt (⟨tg,iter,ifs,0⟩ :: gs) scope pos) (tL X.K B G0 (dCG l f k s t rd)):=by
 intro pins s0 σ H Q I ⟨G,ρ,k0,a⟩
 cases z:dCG l f k s t rd ρ with
 | bad=>rw [z] at a;exact a.elim
 | ok es ρ1 =>
 rw [z] at a
 obtain ⟨ds,ρF,zf,zl,hfl⟩:=ziX z
 rw [eval_ListComp]
 refine zhm hc hi hblk hb hs I k0 zf zl hfl fun C D vs G' H' s4 m I7 hm hC hL hz hcl hp k' s' n=>?_
 exact ⟨m,hm,fun h' sb=>⟨.ref D,H',I7.turned (t':=s4.toks) (it:=C) (fun b o hb e=>(sb.2 b hb).trans e) hC hL (.inr hz) hcl hp,rfl,a D vs G' H' k' s' n⟩⟩
theorem sD_g {l:Bool} {y:Str} {j:Nat} {py:Pos} {spos:Pos} {tg elt iter:Expr} {ifs:List Expr} {gs:List Comprehension} {scope:Scope} {pos:Pos} {N2:List Str} {k:Nat} {f:M (List D)} {s:D->DEnv->Option DEnv} {t:M Bool} {rd:RdB} (hN:X.N.Nodup) (hj:X.N[j]?=some y) (hy:X.env.scope.names.lookup y=some .local) (hc:X.calm=true)
  (hi:PI X tg iter (iD X.K B G0 f)) (hblk:PBlk X N2 scope (.ListComp elt (⟨tg,iter,ifs,0⟩ :: gs) scope pos) tg ifs s t rd) (hb:ziY X.env.scope scope X.N N2 k) (hs:∀ x,foldedSetIterable iter X.env x=pure x:=by intro _;rfl)
  (hsw:swapsWith (.ListComp elt (⟨tg,iter,ifs,0⟩ :: gs) scope pos) (some (.Name y py)) spos.line X.env=pure true:=by rfl) :
  PS X (.Assign [.Name y py] (.ListComp elt (⟨tg,iter,ifs,0⟩ :: gs) scope pos) spos) (tS X.K B G0 KX (zb1 j (dCG l f k s t rd))):=by
 intro pins s0 σ H Dn I ⟨G,ρ,k0,a⟩
 unfold zb1 sB at a
 cases z:dCG l f k s t rd ρ with
 | bad=>rw [z] at a;exact a.elim
 | ok es ρ1 =>
 rw [z] at a
 dsimp only at a
 by_cases hl:j < ρ1.length
 ·rw [if_pos hl] at a
  obtain ⟨ds,ρF,zf,zl,hfl⟩:=ziX z
  rw [exec_Assign_Name_used _ _ _ _ hsw]
  refine wpAny_bind (wpAny_standAt (wpAny_bind ?_))
  show wpAny _ X.A (do let _ ← comprehension (.ListComp elt (⟨tg,iter,ifs,0⟩ :: gs) scope pos) scope X.env _ (newList []) false (eval iter X.env) (some (assign (.Name y py) X.env))) _ _ s0
  refine wpAny_bind (wpAny_mono (zhm (use:=some (assign (.Name y py) X.env)) (Qc:=fun _ s'=>SP X pins Dn .next s') hc hi hblk hb hs I k0 zf zl hfl fun C D vs G' H' s4 m I7 hm hC hL hz hcl hp k' s' n=>?_) (fun _ s' hq=>wpAny_pure (wpAny_pure hq)) fun _ _ e=>e)
  show wpAny _ X.A (assign (.Name y py) X.env (.ref D)) _ _ s4
  refine wpAny_assign_Name (zfE I7 hN hj (.inl hy) (v:=.ref D) rfl (fun s5 I8 ⟨ad,sb,hx⟩=>?_) (.inr hy))
  have hCa:C ≠ ad:=by
   rcases hx with e | e
   ·rw [e];exact hL
   ·exact Ne.symm (hcl y ad e)
  refine ⟨m,hm.sameBut sb hCa,fun h' sb'=>⟨_,H',I8.turned (t':=s5.toks) (it:=C) (fun b o hb e=>(sb'.2 b hb).trans e) hC hL (.inr hz) hcl hp,?_⟩⟩
  exact a _ G' H' (k'.setOwn n hl) s'
 ·rw [if_neg hl] at a;exact a.elim
theorem zoE {K:PySem.W.Frag} {f f':M (List D)} (h:∀ ρ es ρ',f ρ = .ok es ρ'->f' ρ = .ok es ρ') {σ : St} {H:Hp} {Q:VK} (q:tL K B G0 f σ H Q):tL K B G0 f' σ H Q:=by
 obtain ⟨G,ρ,k,a⟩:=q
 refine ⟨G,ρ,k,?_⟩
 cases z:f ρ with
 | bad=>rw [z] at a;exact a.elim
 | ok es ρ'=>rw [z] at a;rw [h ρ es ρ' z];exact a
theorem znB {K:PySem.W.Frag} {f f':M (List D)} {j:Nat} (h:∀ ρ es ρ',f ρ = .ok es ρ'->f' ρ = .ok es ρ') {Dn:_} {σ : St} {H:Hp} (q:tS K B G0 KX (zb1 j f) Dn σ H):tS K B G0 KX (zb1 j f') Dn σ H:=by
 obtain ⟨G,ρ,k,a⟩:=q
 refine ⟨G,ρ,k,?_⟩
 unfold zb1 sB at a ⊢
 cases z:f ρ with
 | bad=>rw [z] at a;exact a.elim
 | ok es ρ'=>rw [z] at a;rw [h ρ es ρ' z];exact a
end
theorem zfk {s:D->DEnv->Option DEnv} {t:M Bool} {g:M D}:∀ {ds:List D} {ρ : DEnv} {es esF:List D},zco s t g ds ρ es=some esF->∃ ρF,cT s t (rL g) ds ρ es=some (esF,ρF)
 | [],ρ,es,esF,h=>by rw [zco] at h;cases h;exact ⟨ρ,rfl⟩
 | d :: r,ρ,es,esF,h=>by
  rw [zco] at h
  rw [cT]
  cases zs:s d ρ with
  | none=>rw [zs] at h;cases h
  | some ρ1 =>
  rw [zs] at h
  dsimp only at h ⊢
  cases zt:t ρ1 with
  | bad=>rw [zt] at h;cases h
  | ok b ρ2 =>
  rw [zt] at h
  dsimp only at h ⊢
  cases b with
  | false=>exact zfk (ds:=r) h
  | true =>
   rw [if_pos rfl] at h ⊢
   unfold rL
   cases zg:g ρ2 with
   | bad=>rw [zg] at h;cases h
   | ok e ρ3 =>
   rw [zg] at h
   dsimp only at h ⊢
   split at h
   ·rename_i hl
    rw [if_pos hl]
    exact zfk (ds:=r) h
   ·cases h
theorem zet {s:D->DEnv->Option DEnv} {t:M Bool} {g:M D}:∀ {ds:List D} {ρ : DEnv} {es:List D},zdu s t g ds ρ es=cT s t (rL g) ds ρ es
 | [],ρ,es=>rfl
 | d :: r,ρ,es=>by
  rw [zdu,cT]
  cases s d ρ with
  | none=>rfl
  | some ρ1 =>
  dsimp only
  cases t ρ1 with
  | bad=>rfl
  | ok b ρ2 =>
  dsimp only
  cases b with
  | false=>exact zet (ds:=r)
  | true =>
   rw [if_pos rfl,if_pos rfl]
   unfold rL
   cases g ρ2 with
   | bad=>rfl
   | ok e ρ3 =>
   dsimp only
   split
   ·exact zet (ds:=r)
   ·rfl
theorem zeu {s s1:D->DEnv->Option DEnv} {t t1:M Bool} {f:M (List D)} {g:M D}:∀ {ds:List D} {ρ : DEnv} {es esF:List D},zcW s t f s1 t1 g ds ρ es=some esF->∃ ρF,cT s t (rN f s1 t1 (rL g)) ds ρ es=some (esF,ρF)
 | [],ρ,es,esF,h=>by rw [zcW] at h;cases h;exact ⟨ρ,rfl⟩
 | d :: r,ρ,es,esF,h=>by
  rw [zcW] at h
  rw [cT]
  cases zs:s d ρ with
  | none=>rw [zs] at h;cases h
  | some ρ1 =>
  rw [zs] at h
  dsimp only at h ⊢
  cases zt:t ρ1 with
  | bad=>rw [zt] at h;cases h
  | ok b ρ2 =>
  rw [zt] at h
  dsimp only at h ⊢
  cases b with
  | false=>exact zeu (ds:=r) h
  | true =>
   rw [if_pos rfl] at h ⊢
   unfold rN
   cases zg:f ρ2 with
   | bad=>rw [zg] at h;cases h
   | ok ds ρ3 =>
   rw [zg] at h
   dsimp only at h ⊢
   rw [← zet]
   cases zl:zdu s1 t1 g ds (za5 ρ3) es with
   | none=>rw [zl] at h;cases h
   | some pr=>rw [zl] at h;exact zeu (ds:=r) h
theorem zcs {f:M (List D)} {k:Nat} {s:D->DEnv->Option DEnv} {t:M Bool} {g:M D} (ρ : DEnv) (es:List D) (ρ':DEnv) (h:zdO f k s t g ρ = .ok es ρ'):dCG false f k s t (rL g) ρ = .ok es ρ':=by
 unfold zdO at h
 unfold dCG
 cases zf:f ρ with
 | bad=>rw [zf] at h;cases h
 | ok ds ρ1 =>
 rw [zf] at h
 dsimp only [envB] at h ⊢
 cases zl:zco s t g ds (za5 ρ1 ++ List.replicate k none) [] with
 | none=>rw [zl] at h;cases h
 | some esF =>
 rw [zl] at h
 cases h
 obtain ⟨ρF,e⟩:=zfk zl
 rw [e]
 exact if_pos fun z=>by cases z
theorem ziZ {f f1:M (List D)} {k:Nat} {s s1:D->DEnv->Option DEnv} {t t1:M Bool} {g:M D} (ρ : DEnv) (es:List D) (ρ':DEnv) (h:zf1 f k s t f1 s1 t1 g ρ = .ok es ρ'):dCG false f k s t (rN f1 s1 t1 (rL g)) ρ = .ok es ρ':=by
 unfold zf1 at h
 unfold dCG
 cases zf:f ρ with
 | bad=>rw [zf] at h;cases h
 | ok ds ρ1 =>
 rw [zf] at h
 dsimp only [envB] at h ⊢
 cases zl:zcW s t f1 s1 t1 g ds (za5 ρ1 ++ List.replicate k none) [] with
 | none=>rw [zl] at h;cases h
 | some esF =>
 rw [zl] at h
 cases h
 obtain ⟨ρF,e⟩:=zeu zl
 rw [e]
 exact if_pos fun z=>by cases z
def zf2 (q:Option NameKind->Bool) (SC scope:Scope) (N1 N2:List Str) (k:Nat):Bool :=
 zds scope.names N1 N2 k && decide (scope.kind=.function) && scope.names.all fun y=>match y.2 with
  | .cell=>false
  | .local=>decide (scope.names.lookup y.1=some .local)
  | .free=>q (SC.names.lookup y.1)
  | _=>true
def zlW:Option NameKind->Bool
 | some .cell=>true | some .free=>true | _=>false
theorem zhW {q:Option NameKind->Bool} {SC SC' scope:Scope} {N1 N2:List Str} {k:Nat} (h:zf2 q SC scope N1 N2 k=true) (f:∀ x,q (SC.names.lookup x)=true->SC'.names.lookup x=some .cell ∨ SC'.names.lookup x=some .free):ziY SC' scope N1 N2 k:=by
 unfold zf2 at h
 rw [Bool.and_eq_true,Bool.and_eq_true,List.all_eq_true] at h
 obtain ⟨⟨h1,h2⟩,h3⟩:=h
 refine ⟨h1,of_decide_eq_true h2,fun y hy e=>?_,fun y hy e=>?_,fun y hy e=>?_⟩
 ·have:=h3 y hy;rw [e] at this;cases this
 ·have:=h3 y hy;rw [e] at this;exact of_decide_eq_true this
 ·have:=h3 y hy;rw [e] at this;exact f _ this
theorem zi0 {SC scope:Scope} {N1 N2:List Str} {k:Nat} (h:zf2 zlW SC scope N1 N2 k=true):ziY SC scope N1 N2 k:=zhW h fun x e=>by
 cases z:SC.names.lookup x with
 | none=>rw [z] at e;cases e
 | some y=>rw [z] at e;cases y <;> first | exact .inl rfl | exact .inr rfl | cases e
section
variable {X:Cx} {B G0:Hp} {KX:XW}
theorem zi1 {l:Bool} {tg elt iter:Expr} {ifs:List Expr} {gs:List Comprehension} {scope:Scope} {pos:Pos} {f:M (List D)} {s:D->DEnv->Option DEnv} {t:M Bool} {rd:RdB} {F:M (List D)} (SC:Scope) (N1 N2:List Str) (k:Nat) (le:∀ ρ es ρ',F ρ = .ok es ρ'->dCG l f k s t rd ρ = .ok es ρ') (hc:X.calm=true)
  (hi:PI X tg iter (iD X.K B G0 f)) (hblk:PBlk X N2 scope (.ListComp elt (⟨tg,iter,ifs,0⟩ :: gs) scope pos) tg ifs s t rd) (h1:X.env.scope=SC) (h2:X.N=N1) (hb:zf2 zlW SC scope N1 N2 k=true) (hs:∀ x,foldedSetIterable iter X.env x=pure x:=by intro _;rfl) :
  PE X (.ListComp elt (⟨tg,iter,ifs,0⟩ :: gs) scope pos) (tL X.K B G0 F) :=
 peof (zoD hc hi hblk (by rw [h1,h2];exact zi0 hb) hs) fun _ _ _ q=>zoE le q
theorem sD_1 {l:Bool} {y:Str} {j:Nat} {py:Pos} {spos:Pos} {tg elt iter:Expr} {ifs:List Expr} {gs:List Comprehension} {scope:Scope} {pos:Pos} {f:M (List D)} {s:D->DEnv->Option DEnv} {t:M Bool} {rd:RdB} {F:M (List D)} (SC:Scope) (N1 N2:List Str) (k:Nat) (le:∀ ρ es ρ',F ρ = .ok es ρ'->dCG l f k s t rd ρ = .ok es ρ') (hN:X.N.Nodup) (hj:X.N[j]?=some y) (hy:X.env.scope.names.lookup y=some .local) (hc:X.calm=true)
  (hi:PI X tg iter (iD X.K B G0 f)) (hblk:PBlk X N2 scope (.ListComp elt (⟨tg,iter,ifs,0⟩ :: gs) scope pos) tg ifs s t rd) (h1:X.env.scope=SC) (h2:X.N=N1) (hb:zf2 zlW SC scope N1 N2 k=true) (hs:∀ x,foldedSetIterable iter X.env x=pure x:=by intro _;rfl)
  (hsw:swapsWith (.ListComp elt (⟨tg,iter,ifs,0⟩ :: gs) scope pos) (some (.Name y py)) spos.line X.env=pure true:=by rfl) :
  PS X (.Assign [.Name y py] (.ListComp elt (⟨tg,iter,ifs,0⟩ :: gs) scope pos) spos) (tS X.K B G0 KX (zb1 j F)) :=
 psof (sD_g hN hj hy hc hi hblk (by rw [h1,h2];exact zi0 hb) hs hsw) fun _ _ _ q=>znB le q
end
section
variable {X:Cx} {B G0:Hp} {e a b c tg:Expr} {pos:Pos} {es rest:List Expr}
theorem EOk.given {K:PySem.W.Frag} {G H:Hp} {σ : St} {ρ : DEnv} {a:Addr} {vs:List V} {ds:List D} (k:EOk K B G0 G H σ ρ) (n:NewL K B G H σ ρ a vs ds):EOk K B G0 (upd G a (.lst vs)) H σ ρ where
 bh:=k.bh
 gh:=fun b u q=>by
  by_cases z:b=a
  ·subst z;rw [zat] at q;cases q;exact n.h
  ·rw [zaw z] at q;exact k.gh b u q
 g0:=k.g0.trans (zaN n.g)
 np:=fun b o q z=>by
  have zb:b ≠ a:=fun z=>by subst z;rw [n.b] at q;cases q
  rw [zaw zb];exact k.np b o q z
 len:=k.len
 pub:=fun i d q=>let ⟨v,h1,h2⟩:=k.pub i d q;⟨v,h1,h2.mono (zaN n.g)⟩
 own:=fun i ds q=>by
  obtain ⟨b,ws,h1,h2,h3,h4,h5⟩:=k.own i ds q
  have zb:b ≠ a:=fun z=>by subst z;exact n.f i ds q h1
  exact ⟨b,ws,h1,h2,by rw [zaw zb];exact h3,h4,h5.mono (zaN n.g)⟩
 sep:=k.sep
theorem zcX {f:M (List D)} (h:PE X e (tL X.K B G0 f)):PE X e (tD X.K B G0 (mMap PyData.list f)) :=
 peof h fun σ H Q ⟨G,ρ,k,a⟩=>by
  refine ⟨G,ρ,k,?_⟩
  unfold mMap zas at a
  cases z:f ρ with
  | bad=>rw [z] at a;exact a.elim
  | ok ds ρ1 =>
   rw [z] at a
   intro ad vs G' H' k' s' n
   exact a (.ref ad) _ H' (k'.given n) (s'.trans (zaN n.g)) (.lst (SqL.of zat) (n.r.mono (zaN n.g)))
theorem zkv (hc:X.calm=true):zdm X (.builtin "all") (fun xs H Q=>∃ l,∃ bs:List Bool,xs=[.ref l]/\SqL X.K H l (bs.map V.bl)/\Q (.bl (bs.all id)) H):=by
 intro pins s σ H xs us Q I rx h
 obtain ⟨l,bs,rfl,hq,q⟩:=h
 obtain ⟨u,rfl,ru⟩:=rx.one
 cases ru
 obtain ⟨its,rv,p,hz⟩:=I.list hq
 have hl:=p.isList
 have hlt:l < s.heap.objs.size:=by obtain ⟨_,e,_⟩:=id hl;exact Heap.lt_size e
 have key:∀ (i:Nat) v,its.toArray[i]?=some v->∃ t,bs[i]?=some t/\v=.bool t:=fun i v e=>by
  have e:its[i]?=some v:=by simpa using e
  have hi:i < bs.length:=by
   have:=(List.getElem?_eq_some_iff.mp e).1
   have h2:=rv.length
   rw [List.length_map] at h2
   omega
  obtain ⟨u,e2,r2⟩:=rv.get (i:=i) (x:=.bl bs[i]) (by rw [List.getElem?_map,List.getElem?_eq_getElem hi];rfl)
  rw [e] at e2
  cases e2
  exact ⟨bs[i],List.getElem?_eq_getElem hi,r2⟩
 refine call_all_walk (wpAny_pyIter_list hl ?_)
 refine ⟨s.heap.objs.size,[s.heap.objs.size,l],[s.heap.objs.size],its.toArray.size,_,_,fun i=>(bs[i]?).getD true,rfl,Walks.list (A:=X.A.in1) (I.ok.hd hc) _ l (Nat.ne_of_lt hlt) its.toArray,
  ⟨⟨_,Heap.get?_push_size _ rfl,rfl,rfl⟩,hl.push _⟩,fun i v s' Q' E' hP hQ=>?_,fun h' tk hk=>?_⟩
 ·obtain ⟨b,e,rfl⟩:=key i v hP
  simp only [e,Option.getD_some] at hQ
  exact wpAny_truthy_bool hQ
 ·have hn:its.toArray.size=bs.length:=by have:=rv.length;rw [List.length_map] at this;simp;omega
  have e:((List.range its.toArray.size).all fun i=>(bs[i]?).getD true)=bs.all id:=by
   rw [hn,Bool.eq_iff_iff,List.all_eq_true,List.all_eq_true]
   constructor
   ·intro h b hb
    obtain ⟨i,hi,e⟩:=List.getElem_of_mem hb
    have:=h i (List.mem_range.mpr hi)
    simp only [List.getElem?_eq_getElem hi,Option.getD_some,e] at this
    exact this
   ·intro h i hi
    have hi':=List.mem_range.mp hi
    simp only [List.getElem?_eq_getElem hi',Option.getD_some]
    exact h _ (List.getElem_mem hi')
  rw [e]
  exact ⟨.bl (bs.all id),H,I.kept (t':=tk) fun b x e=>hk b x (fun hm=>by rw [List.mem_singleton.mp hm] at e;exact Nat.lt_irrefl _ (Heap.lt_size e)) (Heap.get?_push_of_some _ e),rfl,q⟩
def zcY:List D->Option (List Bool)
 | []=>some []
 | .bool b :: r=>(zcY r).map (b :: ·)
 | _=>none
theorem zd1 {K:PySem.W.Frag} {G:Hp}:∀ {vs:List V} {ds:List D} {bs:List Bool},Reps K G vs ds->zcY ds=some bs->vs=bs.map V.bl
 | _,_,bs,.nil,e=>by cases e;rfl
 | _,_,bs,.cons (d:=d) r t,e=>by
  cases d with
  | bool b =>
   unfold zcY at e
   cases z:zcY _ with
   | none=>rw [z] at e;cases e
   | some cs =>
    rw [z] at e
    cases e
    rw [r.bl_inv,zd1 t z];rfl
  | _=>cases e
def oAll:List D->Option D
 | [.list ds]=>(zcY ds).map fun bs=>.bool (bs.all id)
 | _=>none
theorem zkw (hc:X.calm=true):zfU X (.builtin "all") oAll:=by
 refine ⟨_,zkv hc,fun vs G H ds d Q s r e k=>?_⟩
 unfold oAll at e
 split at e
 ·rename_i ds
  cases z:zcY ds with
  | none=>rw [z] at e;cases e
  | some bs =>
   rw [z] at e
   cases e
   obtain ⟨v,rfl,q⟩:=r.one_inv
   obtain ⟨l,ws,rfl,h1,r1⟩:=q.lst_inv
   have hw:=zd1 r1 z
   subst hw
   exact ⟨l,bs,rfl,s.seq h1,k _ G H (.refl s) (.bl _)⟩
 ·cases e
def Its (x:Str):It:=⟨fun i _=>i < x.cps.size,fun i H v H'=>H'=H/\∃ c,x.cps[i]?=some c/\v=.str ⟨#[c]⟩,fun i _=>x.cps.size<=i⟩
theorem zkx {P:Program} {w:World} {K:PySem.W.Frag} {tg:Expr} (x:Str) (t:Tok) (it:Addr):Turn P w K tg (Its x) [it] it (fun i h=>h.IsStrIter it (strIterType x) x t i) where
 mem:=by simp
 obj:=fun i h st b hb=>by
  have e:b=it:=by simpa using hb
  subst e
  obtain ⟨o,e,c,d⟩:=st
  exact ⟨o,e,fun v z=>by rw [d] at z;cases z⟩
 keep:=fun i h h' st k=>by
  obtain ⟨o,e,c,d⟩:=st
  exact ⟨o,k it (by simp) o e,c,d⟩
 item:=by
  intro X hP hw hK hc i pins s σ H E I hf st hg
  subst hP hw hK
  obtain ⟨f0,f1,f2,f3,f4,f5⟩:=hf it (by simp)
  have hx:x.cps[i]?=some x.cps[i]:=Array.getElem?_eq_getElem hg
  have fin:∀ h' tk (T:String),strIterType x=T->h'.IsStrIter it T x t (i+1)->Heap.SameBut it s.heap h'->["enumerate", "zip", "dict_itemiterator", "dict_reverseitemiterator", "odict_iterator", "itertools.zip_longest", "itertools.pairwise"].contains T=false ->
    ∃ u,some (Value.str ⟨#[x.cps[i]]⟩ s.toks)=some u/\wpAny (model X.prog X.w) X.A (letOwnedTupleGo tg (.ref it) u) (fun _ s2=>∃ v H',Inv X pins σ H' s2/\RelV v u/\(Its x).yld i H v H'/\s2.heap.IsStrIter it (strIterType x) x t (i+1)/\∀ b ∈ [it],H' b=none) E { s with heap:=h',toks:=tk }:=by
   intro h' tk T eT st' sb hn
   have I1:Inv X pins σ H { s with heap:=h',toks:=tk }:=I.turned (t':=tk) (fun b o hb e=>(sb.2 b hb).trans e) f0 f1 f3 f4 f5
   obtain ⟨o,e,c,d⟩:=id st'
   refine ⟨_,rfl,zj4 (s:={ s with heap:=h',toks:=tk }) e c d hn ⟨.str ⟨#[x.cps[i]]⟩,H,I1,⟨_,rfl⟩,⟨rfl,_,hx,rfl⟩,by rw [eT];exact st',fun b hb=>(hf b hb).1⟩⟩
  cases ha:x.cps.all (· < 128) with
  | true =>
   have eT:strIterType x = "str_ascii_iterator" := by simp [strIterType,ha]
   rw [eT] at st
   exact wpAny_pyNext_ascii_item st hx fun h' st' sb=>fin h' _ _ eT st' sb (by decide)
  | false =>
   have eT:strIterType x = "str_iterator" := by simp [strIterType,ha]
   rw [eT] at st
   exact wpAny_pyNext_wide_item st hx fun h' st' sb=>fin h' _ _ eT st' sb (by decide)
 done:=by
  intro X hP hw hK hc i pins s σ H E I hf st hg
  subst hP hw hK
  obtain ⟨f0,f1,f2,f3,f4,f5⟩:=hf it (by simp)
  have hx:x.cps[i]?=none:=Array.getElem?_eq_none hg
  cases ha:x.cps.all (· < 128) with
  | true =>
   have eT:strIterType x = "str_ascii_iterator" := by simp [strIterType,ha]
   rw [eT] at st
   exact wpAny_pyNext_ascii_end (I.ok.hd hc) st hx fun h' eb=>⟨rfl,I.turned (t':=s.toks) (fun b o hb e=>eb b o hb e) f0 f1 f3 f4 f5⟩
  | false =>
   have eT:strIterType x = "str_iterator" := by simp [strIterType,ha]
   rw [eT] at st
   exact wpAny_pyNext_wide_end (I.ok.hd hc) st hx fun h' eb=>⟨rfl,I.turned (t':=s.toks) (fun b o hb e=>eb b o hb e) f0 f1 f3 f4 f5⟩
 self:=fun A i s Q E st h=>by
  cases ha:x.cps.all (· < 128) with
  | true =>
   have eT:strIterType x = "str_ascii_iterator" := by simp [strIterType,ha]
   rw [eT] at st
   exact wpAny_pyIter_striter_ascii st h
  | false =>
   have eT:strIterType x = "str_iterator" := by simp [strIterType,ha]
   rw [eT] at st
   exact wpAny_pyIter_striter_wide st h
def iAny (K:PySem.W.Frag) (tl:TE):TI:=fun σ H R=>tl σ H fun x H1=>(∃ a,x=.ref a/\(∃ xs,SqL K H1 a xs)/\R (Itl K a) H1) ∨ (∃ a,x=.ref a/\(∃ xs,SqT K H1 a xs)/\R (Itt K a) H1) ∨ ∃ z,x=.str z/\R (Its z) H1
theorem znC {l:Expr} {tl:TE} (hl:PE X l tl):PI X tg l (iAny X.K tl):=by
 intro pins s σ H R I h
 refine thn (hl pins s σ H _ I h) fun v s1 ⟨x,H1,I1,r1,q1⟩=>?_
 have fpOk:∀ b ∈ [s1.heap.objs.size],FpOk X pins H1 b:=fun b hb=>by
  have e:b=s1.heap.objs.size:=by simpa using hb
  subst e
  exact I1.fpOk (Nat.le_refl _) (I1.hok.fresh (Nat.le_refl _))
 rcases q1 with ⟨a,e,⟨xs,hq⟩,q⟩ | ⟨a,e,⟨xs,hq⟩,q⟩ | ⟨z,e,q⟩
 ·subst e
  cases r1
  obtain ⟨its,rv,p,hz⟩:=I1.list hq
  refine wpAny_pyIter_list p.isList ?_
  exact ⟨s1.heap.objs.size,[s1.heap.objs.size],_,_,H1,rfl,I1.kept (t':=s1.toks) fun b o e=>Heap.get?_push_of_some _ e,zih a _,⟨_,Heap.get?_push_size _ rfl,rfl,rfl⟩,fpOk,q⟩
 ·subst e
  cases r1
  obtain ⟨its,rv,p,hz⟩:=I1.tuple hq
  refine wpAny_pyIter_tuple p ?_
  exact ⟨s1.heap.objs.size,[s1.heap.objs.size],_,_,H1,rfl,I1.kept (t':=s1.toks) fun b o e=>Heap.get?_push_of_some _ e,zhE a _,⟨_,Heap.get?_push_size _ rfl,rfl,rfl⟩,fpOk,q⟩
 ·subst e
  obtain ⟨t,rfl⟩:=r1
  refine wpAny_pyIter_strU ?_
  exact ⟨s1.heap.objs.size,[s1.heap.objs.size],_,_,H1,rfl,I1.kept (t':=s1.toks) fun b o e=>Heap.get?_push_of_some _ e,zkx z t _,⟨_,Heap.get?_push_size _ rfl,rfl,rfl⟩,fpOk,q⟩
def zf3 (z:Str):List D:=z.cps.toList.map fun c=>.str ⟨#[c]⟩
def zgK:D->Option (List D)
 | .list ds=>some ds
 | .tuple ds=>some ds
 | .str z=>some (zf3 z)
 | _=>none
theorem zgL {K:PySem.W.Frag} {G1:Hp} {ad:Addr} {vs:List V} {ds:List D} (h:SqT K G1 ad vs) (r:Reps K G1 vs ds):zeP K (Itt K ad) ds G1 where
 go:=fun i G H s1 s2 hi=>by
  have hi':i < vs.length:=by rw [r.length];exact hi
  exact ⟨vs,vs[i],zdh (s1.trans s2) h,List.getElem?_eq_getElem hi'⟩
 stop:=fun i G H s1 s2 hi=>⟨vs,zdh (s1.trans s2) h,by rw [r.length];exact hi⟩
 yld:=fun i G H x H' d s1 s2 e y=>by
  obtain ⟨rfl,y⟩:=y
  obtain ⟨v,e1,r1⟩:=r.get e
  have:=y vs (zdh (s1.trans s2) h)
  rw [e1] at this
  cases this
  exact ⟨G,.refl s2,r1.mono s1⟩
theorem zi2 {K:PySem.W.Frag} {G1:Hp} {z:Str}:zeP K (Its z) (zf3 z) G1 where
 go:=fun i G H s1 s2 hi=>by unfold zf3 at hi;simpa [Its] using hi
 stop:=fun i G H s1 s2 hi=>by unfold zf3 at hi;simpa [Its] using hi
 yld:=fun i G H x H' d s1 s2 e y=>by
  obtain ⟨rfl,c,hc,rfl⟩:=y
  unfold zf3 at e
  rw [List.getElem?_map] at e
  have:z.cps.toList[i]?=some c:=by simpa using hc
  rw [this] at e
  cases e
  exact ⟨G,.refl s2,.str _⟩
def zbH (f:M D):M (List D):=zas f fun x=>mOpt (zgK x)
theorem zcO {f:M D} (h:PE X e (tD X.K B G0 f)):PI X tg e (iD X.K B G0 (zbH f)):=piof (znC h) fun σ H R q=>tM.toI (R0:=Rep X.K) q fun v H' G' ρ' x k r a=>by
 cases x with
 | list ds =>
  obtain ⟨ad,vs,rfl,h1,r1⟩:=r.lst_inv
  exact .inl ⟨ad,rfl,⟨vs,k.gh.seq h1⟩,a _ G' H' k (.refl _) (zhQ h1 r1)⟩
 | tuple ds =>
  obtain ⟨ad,vs,rfl,h1,r1⟩:=r.tup_inv
  exact .inr (.inl ⟨ad,rfl,⟨vs,zdh k.gh h1⟩,a _ G' H' k (.refl _) (zgL h1 r1)⟩)
 | str z =>
  have:=r.str_inv
  subst this
  exact .inr (.inr ⟨z,rfl,a _ G' H' k (.refl _) zi2⟩)
 | _=>exact a.elim
def inS (i j:Str):Bool:=!(Builtin.Str.occurrences j i 0 j.length 1).isEmpty
def oInS:D->D->Option Bool
 | .str i,.str j=>some (inS i j)
 | _,_=>none
def znD:D->D->Option Bool
 | .str i,.str j=>some (!inS i j)
 | _,_=>none
theorem zoF:OpB X (compareOp .In) oInS:=⟨_,zil,fun v u G H x y d Q s rx ry e k=>by
 unfold oInS at e
 split at e
 ·cases e
  have:=rx.str_inv;subst this
  have:=ry.str_inv;subst this
  exact ⟨_,_,rfl,rfl,k⟩
 ·cases e⟩
theorem znE:OpB X (compareOp .NotIn) znD:=⟨_,zfG,fun v u G H x y d Q s rx ry e k=>by
 unfold znD at e
 split at e
 ·cases e
  have:=rx.str_inv;subst this
  have:=ry.str_inv;subst this
  exact ⟨_,_,rfl,rfl,k⟩
 ·cases e⟩
theorem zky {x:Str} {i:Int} (hg:Gl X x) (hm:∃ t,X.mg x=some (.int i t)) (hd:(x == ("__debug__" : Str))=false:=by decide):PE X (.Name x pos) (tD X.K B G0 (zad (.int i))):=by
 obtain ⟨t,hm⟩:=hm
 exact peof (zgy (v:=.int i) hg hm ⟨t,rfl⟩ hd) fun σ H Q ⟨G,ρ,k,a⟩=>aft.now a k (.int _)
end
section
variable {X:Cx} {B G0:Hp} {KX:XW} {e o a b c tg i:Expr} {pos p2:Pos} {es rest:List Expr} {te to ti:TE}
def znF (te to ti:TE):TS:=fun D σ H=>te σ H fun v H1=>to σ H1 fun x H2=>ti σ H2 fun k H3=>∃ l xs n,x=.ref l/\H3 l=some (.lst xs)/\k=.int n/\0<=n/\n < xs.length/\D.nx σ (upd H3 l (.lst (xs.set n.toNat v)))
theorem zkz (he:PE X e te) (ho:PE X o to) (hi:PE X i ti) (hs:swapsWith e (some (.Subscript o i p2)) pos.line X.env=pure false:=by rfl):PS X (.Assign [.Subscript o i p2] e pos) (znF te to ti):=by
 intro pins s σ H D I h
 refine wpAny_Assign_Subscript (thn (he pins s σ H _ I h) fun v s1 ⟨x,H1,I1,r1,q1⟩=>thn (ho pins s1 σ H1 _ I1 q1) fun ov s2 ⟨y,H2,I2,r2,q2⟩=>thn (hi pins s2 σ H2 _ I2 q2) fun iv s3 ⟨k,H3,I3,r3,q3⟩=>?_) hs
 obtain ⟨l,xs,n,rfl,hl,rfl,h0,h1,q⟩:=q3
 cases r2
 obtain ⟨t,rfl⟩:=r3
 obtain ⟨z,its,m,r,hlen,ee⟩:=I3.lstM hl
 refine PySem.W.ki_setAt (items:=its.toArray) (n:=m) ee h0 (by
                                  have:sizeLine < 2 ^ 63:=by decide
                                  omega) (by simp;omega) ?_
 refine ⟨σ,_,I3.lset (t':=s3.toks) (its:=its) (its':=its.set n.toNat v) (f:=(·.setIfInBounds n.toNat v)) hl ee (by simp) (r.set r1 n.toNat) (by rw [List.length_set];exact z),q⟩
def zi3 (j:Nat) (g f:M D):SM:=sB f fun d ρ1=>match ρ1[j]? with
 | some (some (.own _))=>sB g (fun y ρ2=>match y with
  | .int k=>(match ρ2[j]? with
   | some (some (.own ds))=>if 0<=k/\k < ds.length then .nx (ρ2.set j (some (.own (ds.set k.toNat d)))) else .bad
   | _=>.bad)
  | _=>.bad) ρ1
 | _=>.bad
theorem zlX {j:Nat} {f g:M D} (he:PE X e (tD X.K B G0 f)) (ho:PE X o (tVar j)) (hi:PE X i (tD X.K B G0 g)) (hs:swapsWith e (some (.Subscript o i p2)) pos.line X.env=pure false:=by rfl) :
  PS X (.Assign [.Subscript o i p2] e pos) (tS X.K B G0 KX (zi3 j g f)) :=
 psof (zkz he ho hi hs) fun D σ H q=>tS.bnd (R:=Rep X.K) q fun v H1 G1 ρ1 d k r a=>by
  cases q0 : ρ1[j]? with
  | none=>rw [q0] at a;exact a.elim
  | some o0 =>
   cases o0 with
   | none=>rw [q0] at a;exact a.elim
   | some sl0 =>
    cases sl0 with
    | pub d=>rw [q0] at a;exact a.elim
    | own ds0 =>
     rw [q0] at a
     obtain ⟨ad,vs0,h1,h2,h3,h4,h5⟩:=k.own j ds0 q0
     refine ⟨.ref ad,h1,G1,ρ1,k,?_⟩
     dsimp only at a
     unfold sB at a
     cases z:g ρ1 with
     | bad=>rw [z] at a;exact a.elim
     | ok y ρ2 =>
      rw [z] at a
      dsimp only at a
      intro kv G' H' k' s' r'
      cases y with
      | int n =>
       dsimp only at a
       cases q : ρ2[j]? with
       | none=>rw [q] at a;exact a.elim
       | some oo =>
        cases oo with
        | none=>rw [q] at a;exact a.elim
        | some sl =>
         cases sl with
         | pub d=>rw [q] at a;exact a.elim
         | own ds =>
          rw [q] at a
          dsimp only at a
          split at a
          ·rename_i hn
           obtain ⟨ad',vs,g1,g2,g3,g4,g5⟩:=k'.own j ds q
           rw [h1] at g1
           cases g1
           refine ⟨ad,vs,n,rfl,g4,r'.int_inv,hn.1,by rw [g5.length];exact hn.2,?_⟩
           exact a σ G' _ (k'.change q h1 (g5.set (r.mono s') n.toNat)) s'
          ·exact a.elim
      | _=>exact a.elim
def cutS (z:Str) (lo hi:Option Int):Str:=if (Builtin.Str.strSliceIndices lo hi 1 z.length).length=z.length then z else ⟨((Builtin.Str.strSliceIndices lo hi 1 z.length).filterMap (z.cps[·]?)).toArray⟩
theorem znG:SlR X (fun x lo hi H Q=>∃ z,x=.str z/\(cutS z lo hi).length<=sizeLine/\Q (.str (cutS z lo hi)) H):=by
 intro pins s σ H x v vl vu lo hi sl Q I rx hs pl pu h
 obtain ⟨z,rfl,hz,q⟩:=h
 obtain ⟨t,rfl⟩:=rx
 refine ⟨"str", _,F.slot_str_getitem.lookup,typeIs_str s z t,?_⟩
 obtain ⟨l,el,e1⟩:∃ l:Option (Int × Tok),vl=partValue l/\l.map (·.1)=lo:=by
  cases pl with
  | none=>exact ⟨none,rfl,rfl⟩
  | int k t'=>exact ⟨some (k,t'),rfl,rfl⟩
 obtain ⟨u,eu,e2⟩:∃ u:Option (Int × Tok),vu=partValue u/\u.map (·.1)=hi:=by
  cases pu with
  | none=>exact ⟨none,rfl,rfl⟩
  | int k t'=>exact ⟨some (k,t'),rfl,rfl⟩
 subst el eu
 refine wpAny_getItem_str_slice (l:=l) (u:=u) (st:=none) hs rfl ?_
 unfold sliceMade slicePicked
 rw [e1,e2]
 unfold cutS at hz q
 by_cases hw:(Builtin.Str.strSliceIndices lo hi 1 z.length).length=z.length
 ·rw [if_pos hw] at hz q
  rw [if_pos (by simp [hw])]
  exact ⟨.str z,H,I,⟨t,rfl⟩,q⟩
 ·rw [if_neg hw] at hz q
  rw [if_neg (by simp [hw])]
  exact ⟨hz,.str _,H,I.tok _,⟨_,rfl⟩,q⟩
end
section
variable {X:Cx} {B G0:Hp} {KX:XW} {e o a b c tg i:Expr} {pos p2:Pos} {es rest:List Expr} {te to ti:TE}
theorem pvb (i:Nat) {x:Str} {pos:Pos} {N':List Str} {scope:Scope} {cl:List (Str × Addr)} {C:Addr} {s₀ : Shared} {H₀ : Hp} {ex:List Addr} (hN:N'[i]?=some x:=by rfl)
  (h:scope.names.lookup x=some .local ∨ scope.names.lookup x=some .free:=by first | exact .inl rfl | exact .inr rfl) (hd:(x == ("__debug__" : Str))=false:=by decide) (hcd:(x == ("__classdict__" : Str))=false:=by decide) :
  PE (X.blk N' scope cl C s₀ H₀ ex) (.Name x pos) (tVar i):=zk2 hN (zlU h) hd hcd
def oSlA:D->Option Int->Option Int->Option D
 | .list xs,lo,hi=>some (.list (DL.cutD xs lo hi))
 | .str z,lo,hi=>if (cutS z lo hi).length<=1000000 then some (.str (cutS z lo hi)) else none
 | _,_,_=>none
def dSlA (f:M D) (lo hi:M (Option Int)):M D:=zas f fun x=>zas lo fun l=>zas hi fun h=>mOpt (oSlA x l h)
theorem zbm {lo hi:Option Expr} {f:M D} {l h:M (Option Int)} (he:PE X e (tD X.K B G0 f)) (hl:PO X lo (tOi X.K B G0 l)) (hu:PO X hi (tOi X.K B G0 h)) :
  PE X (.Subscript e (.Slice lo hi none p2) pos) (tD X.K B G0 (dSlA f l h)) :=
 peof (zj8 (zlx.or znG) he hl hu) fun σ H Q q=>by
  refine tM.one (R:=Rep X.K) q fun v H2 G ρ x k r a=>?_
  refine tM.nx (R:=fun _ b c=>b=c) k a fun l' H3 G3 ρ3 xl k3 s3 r3 a3=>?_
  refine tM.nx (R:=fun _ b c=>b=c) k3 a3 fun h' H4 G4 ρ4 xh k4 s4 r4 a4=>?_
  have r3:l'=xl:=r3
  have r4:h'=xh:=r4
  subst r3 r4
  unfold mOpt oSlA at a4
  cases x with
  | list xs =>
   obtain ⟨ad,vs,rfl,h1,r1⟩:=((r.mono s3).mono s4).lst_inv
   exact .inl ⟨ad,vs,rfl,k4.gh.seq h1,fun p hp=>aft.done a4 k4 (Ext.new k4.gh hp) (.lst (SqL.of zat) ((r1.cut l' h').mono (zaN (k4.gh.free hp))))⟩
  | str z =>
   dsimp only at a4
   have:=r.str_inv;subst this
   by_cases hc:(cutS z l' h').length<=1000000
   ·rw [if_pos hc] at a4
    exact .inr ⟨z,rfl,Nat.le_trans hc lim,aft.now a4 k4 (.str _)⟩
   ·rw [if_neg hc] at a4;exact a4.elim
  | _=>exact a4.elim
end
section
variable {X:Cx} {B G0:Hp} {e o a b c tg:Expr} {pos p2:Pos} {es rest:List Expr} {te to ti:TE}
def zbx {β : Type} (p:D->D->Option β) (i:Nat) (g:M D):M β:=fun ρ=>match ρ[i]? with
 | some (some (.pub d))=>(zas g fun y=>mOpt (p d y)) ρ
 | some (some (.own _))=>(zas g fun y=>fun ρ'=>match ρ'[i]? with | some (some (.own ds))=>mOpt (p (.list ds) y) ρ' | _=>.bad) ρ
 | _=>.bad
theorem znH {K:PySem.W.Frag} {σ : St} {H:Hp} {p:D->D->Option Bool} {r:R2} {i:Nat} {g:M D} {Q:Bool->Hp->Prop} {QV:VK} (hq:∀ t H3,Q t H3->QV (.bl t) H3) (hr:∀ v u G H x y d Q,Same G H->Rep K G v x->Rep K G u y->p x y=some d->Q (.bl d) H->r v u H Q)
  (q:tBo K B G0 (zbx p i g) σ H Q):tVar i σ H fun x H1=>tD K B G0 g σ H1 fun y H2=>r x y H2 QV:=by
 obtain ⟨G,ρ,k,a⟩:=q
 unfold zbx at a
 cases q : ρ[i]? with
 | none=>rw [q] at a;exact a.elim
 | some o =>
  cases o with
  | none=>rw [q] at a;exact a.elim
  | some sl =>
   cases sl with
   | pub d =>
    rw [q] at a
    obtain ⟨v,h1,h2⟩:=k.pub i d q
    refine ⟨v,h1,G,ρ,k,?_⟩
    dsimp only [zas] at a
    cases z:g ρ with
    | bad=>rw [z] at a;exact a.elim
    | ok y ρ1 =>
     rw [z] at a
     intro u G' H' k' s' r'
     obtain ⟨d',e',a'⟩:=aft.opt a
     exact hr v u G' H' d y d' _ k'.gh (h2.mono s') r' e' (hq _ _ (a' d' G' H' k' s' rfl))
   | own ds =>
    rw [q] at a
    obtain ⟨ad,vs,h1,h2,h3,h4,h5⟩:=k.own i ds q
    refine ⟨.ref ad,h1,G,ρ,k,?_⟩
    dsimp only [zas] at a
    cases z:g ρ with
    | bad=>rw [z] at a;exact a.elim
    | ok y ρ1 =>
     rw [z] at a
     dsimp only at a
     intro u G' H' k' s' r'
     cases q1 : ρ1[i]? with
     | none=>rw [q1] at a;exact a.elim
     | some oo =>
      cases oo with
      | none=>rw [q1] at a;exact a.elim
      | some sl1 =>
       cases sl1 with
       | pub d1=>rw [q1] at a;exact a.elim
       | own ds1 =>
        rw [q1] at a
        dsimp only at a
        obtain ⟨ad',ws,g1,g2,g3,g4,g5⟩:=k'.own i ds1 q1
        rw [h1] at g1
        cases g1
        obtain ⟨d',e',a'⟩:=aft.opt a
        have sg:Same G' (upd G' ad (.lst ws)):=zaN g3
        have sh:Same (upd G' ad (.lst ws)) H':=fun b o q=>by
         by_cases z:b=ad
         ·subst z;rw [zat] at q;cases q;exact g4
         ·rw [zaw z] at q;exact k'.gh b o q
        exact hr (.ref ad) u _ H' (.list ds1) y d' _ sh (.lst (SqL.of zat) (g5.mono sg)) (r'.mono sg) e' (hq _ _ (a' d' G' H' k' s' rfl))
theorem zbJ {op:CmpOp} {p:D->D->Option Bool} {i:Nat} {g:M D} (o:OpB X (compareOp op) p) (ha:PE X a (tVar i)) (hb:PE X b (tD X.K B G0 g)) (hm:behindInMarks op b=false) :
  PT X (.Compare a [op] [b] pos) (tBo X.K B G0 (zbx p i g)):=by
 obtain ⟨r,h,j⟩:=o
 exact ptof (zgz h ha hb hm) fun σ H Q q=>znH (fun t H3 z=>⟨t,rfl,z⟩) j q
theorem zgM {op:CmpOp} {p:D->D->Option Bool} {i:Nat} {g:M D} (o:OpB X (compareOp op) p) (ha:PE X a (tVar i)) (hb:PE X b (tD X.K B G0 g)) (hm:behindInMarks op b=false) :
  PE X (.Compare a [op] [b] pos) (tD X.K B G0 (mMap PyData.bool (zbx p i g))):=by
 obtain ⟨r,h,j⟩:=o
 exact peof (zim h ha hb hm) fun σ H Q q=>znH (fun t H3 z=>z) j (tBo.val q)
end
end DL
namespace L2
open PySem PySem.Spec PyProof.Rows
section
variable {X:Cx}
end
end L2
namespace DL
open PySem PySem.Spec L2
open PyProof.Rows hiding St
section
variable {X:Cx} {B G0:Hp} {e a b c tg:Expr} {pos:Pos} {es rest:List Expr}
end
section
variable {X:Cx} {B G0:Hp} {e o a b c tg:Expr} {pos p2 p3:Pos} {es rest:List Expr} {te to ti:TE}
def oIn:D->D->Option Bool
 | .str i,.str j=>some (inS i j)
 | x,.list xs=>if x.canLay0=true/\PyData.canLayAll0 xs=true/\x.depth<=60 then some (xs.any fun y=>PyData.eqv y x) else none
 | x,.tuple xs=>if x.canLay0=true/\PyData.canLayAll0 xs=true/\x.depth<=60 then some (xs.any fun y=>PyData.eqv y x) else none
 | _,_=>none
def oNin (x y:D):Option Bool:=(oIn x y).map fun t=>!t
def oInQ (x y:D):Option Bool:=match y with
 | .list xs=>if x.canLay0=true/\PyData.canLayAll0 xs=true/\x.depth<=60 then some (xs.any fun y=>PyData.eqv y x) else none
 | .tuple xs=>if x.canLay0=true/\PyData.canLayAll0 xs=true/\x.depth<=60 then some (xs.any fun y=>PyData.eqv y x) else none
 | _=>none
theorem zoG (hu:X.A.units+64 < cLine):OpB X (compareOp .In) oInQ:=by
 refine ⟨fun v u H Q=>∃ G x y d,Same G H/\Rep X.K G v x/\Rep X.K G u y/\oInQ x y=some d/\Q (.bl d) H,?_,fun v u G H x y d Q s rx ry e k=>⟨G,x,y,d,s,rx,ry,e,k⟩⟩
 intro pins s σ H x y v u Q I rx ry ⟨G,dx,dy,d,sg,px,py,e,q⟩
 unfold oInQ at e
 split at e
 ·split at e
  ·rename_i c
   cases e
   obtain ⟨as,ra⟩:=zbA I sg px rx c.1
   obtain ⟨bs,rb⟩:=zbA I sg py ry (show PyData.canLayAll0 _=true from c.2.1)
   exact SeqAt.in_list_reads rb ra c.2.1 c.1 (by have:=c.2.2;omega) ⟨.bl _,H,I,rfl,q⟩
  ·cases e
 ·split at e
  ·rename_i c
   cases e
   obtain ⟨as,ra⟩:=zbA I sg px rx c.1
   obtain ⟨bs,rb⟩:=zbA I sg py ry (show PyData.canLayAll0 _=true from c.2.1)
   exact SeqAt.in_tuple_reads rb ra c.2.1 c.1 (by have:=c.2.2;omega) ⟨.bl _,H,I,rfl,q⟩
  ·cases e
 ·cases e
theorem znI (hu:X.A.units+64 < cLine):OpB X (compareOp .NotIn) (fun x y=>(oInQ x y).map fun t=>!t):=by
 refine ⟨fun v u H Q=>∃ G x y d,Same G H/\Rep X.K G v x/\Rep X.K G u y/\(oInQ x y).map (fun t=>!t)=some d/\Q (.bl d) H,?_,fun v u G H x y d Q s rx ry e k=>⟨G,x,y,d,s,rx,ry,e,k⟩⟩
 intro pins s σ H x y v u Q I rx ry ⟨G,dx,dy,d,sg,px,py,e,q⟩
 unfold oInQ at e
 split at e
 ·split at e
  ·rename_i c
   cases e
   obtain ⟨as,ra⟩:=zbA I sg px rx c.1
   obtain ⟨bs,rb⟩:=zbA I sg py ry (show PyData.canLayAll0 _=true from c.2.1)
   exact SeqAt.notIn_list_reads rb ra c.2.1 c.1 (by have:=c.2.2;omega) ⟨.bl _,H,I,rfl,q⟩
  ·cases e
 ·split at e
  ·rename_i c
   cases e
   obtain ⟨as,ra⟩:=zbA I sg px rx c.1
   obtain ⟨bs,rb⟩:=zbA I sg py ry (show PyData.canLayAll0 _=true from c.2.1)
   exact SeqAt.notIn_tuple_reads rb ra c.2.1 c.1 (by have:=c.2.2;omega) ⟨.bl _,H,I,rfl,q⟩
  ·cases e
 ·cases e
theorem B_in (hu:X.A.units+64 < cLine):OpB X (compareOp .In) oIn:=(zoF.or (zoG hu)).congr fun x y=>by
 cases x <;> cases y <;> rfl
theorem zoH (hu:X.A.units+64 < cLine):OpB X (compareOp .NotIn) oNin:=(znE.or (znI hu)).congr fun x y=>by
 cases x <;> cases y <;> rfl
theorem zi4 {tl th ts:TO} {lo hi:Option Expr} {st:Expr} (he:PE X e te) (hl:PO X lo tl) (hu:PO X hi th) (hst:PO X (some st) ts):PE X (.Subscript e (.Slice lo hi (some st) p2) pos)
  (fun σ H Q=>te σ H fun x H1=>tl σ H1 fun l H2=>th σ H2 fun u H3=>ts σ H3 fun t H4=>∃ a xs,x=.ref a/\SqL X.K H4 a xs/\l=none/\u=none/\t=some (-1)/\∀ p,H4 p=none->Q (.ref p) (upd H4 p (.lst xs.reverse))):=by
 intro pins s σ H Q I h
 refine Subscript_ (thn (he pins s σ H _ I h) fun v s1 ⟨x,H1,I1,r1,q1⟩=>?_)
 refine wpAny_Slice (thn (hl pins s1 σ H1 _ I1 q1) fun vl s2 ⟨l,H2,I2,pl,q2⟩=>thn (hu pins s2 σ H2 _ I2 q2) fun vu s3 ⟨u,H3,I3,pu,q3⟩=>thn (hst pins s3 σ H3 _ I3 q3) fun vt s4 ⟨t,H4,I4,pt,q4⟩=>?_)
 obtain ⟨a,xs,rfl,hx,rfl,rfl,rfl,q⟩:=q4
 cases r1
 have I5:Inv X pins σ H4 { s4 with heap:=s4.heap.push { cls:=.type "slice", data:=.fields #[vl,vu,vt] } }:=I4.kept (t':=s4.toks) fun b ob q=>Heap.get?_push_of_some _ q
 obtain ⟨its,r,ht,hz⟩:=I5.list hx
 have hlen:=r.length
 have hg:wpAny (model X.prog X.w) X.A (getItem (.ref a) (.ref s4.heap.objs.size)) (EP X pins σ Q) X.xe { s4 with heap:=s4.heap.push { cls:=.type "slice", data:=.fields #[vl,vu,vt] } }:=by
  refine wpAny_getItem_list_slice ht.isList (Heap.IsSliceOf.new ..) pl pu pt (by simp) ?_ (by rw [List.size_toArray] <;> omega)
  rw [PySem.W.krv_pick]
  refine ⟨.ref _,_,I5.laid (t':=s4.toks) (o:=.lst xs.reverse) (fun b ob q=>Heap.get?_push_of_some _ q) (Nat.le_refl _) ?_,rfl,q _ (I5.hok.fresh (Nat.le_refl _))⟩
  exact ⟨by rw [List.length_reverse];exact hz,its.reverse,0,r.reverse,Heap.get?_push_size _ rfl⟩
 show wpAny (model X.prog X.w) X.A (subscriptTail e (.Slice lo hi (some st) p2) (.ref a) (.ref s4.heap.objs.size)) (EP X pins σ Q) X.xe { s4 with heap:=s4.heap.push { cls:=.type "slice", data:=.fields #[vl,vu,vt] } }
 exact tail_any (ops:=[.ref a,.ref s4.heap.objs.size]) ht.isList.typeIs slot_list_getitem.lookup hg (by with_unfolding_all rfl)
def oRev:D->Option Int->Option Int->Option Int->Option D
 | .list xs,none,none,some i=>if i = -1 then some (.list xs.reverse) else none
 | _,_,_,_=>none
def dRev (f:M D) (lo hi st:M (Option Int)):M D:=zas f fun x=>zas lo fun l=>zas hi fun h=>zas st fun t=>mOpt (oRev x l h t)
theorem zlY {lo hi:Option Expr} {st:Expr} {f:M D} {l h t:M (Option Int)} (he:PE X e (tD X.K B G0 f)) (hl:PO X lo (tOi X.K B G0 l)) (hu:PO X hi (tOi X.K B G0 h)) (hst:PO X (some st) (tOi X.K B G0 t)) :
  PE X (.Subscript e (.Slice lo hi (some st) p2) pos) (tD X.K B G0 (dRev f l h t)) :=
 peof (zi4 he hl hu hst) fun σ H Q q=>by
  refine tM.one (R:=Rep X.K) q fun v H2 G ρ x k r a=>?_
  refine tM.nx (R:=fun _ b c=>b=c) k a fun l' H3 G3 ρ3 xl k3 s3 r3 a3=>?_
  refine tM.nx (R:=fun _ b c=>b=c) k3 a3 fun h' H4 G4 ρ4 xh k4 s4 r4 a4=>?_
  refine tM.nx (R:=fun _ b c=>b=c) k4 a4 fun t' H5 G5 ρ5 xt k5 s5 r5 a5=>?_
  have r3:l'=xl:=r3
  have r4:h'=xh:=r4
  have r5:t'=xt:=r5
  subst r3 r4 r5
  cases x with
  | list xs =>
   cases l' with
   | some _=>exact a5.elim
   | none =>
   cases h' with
   | some _=>exact a5.elim
   | none =>
   cases t' with
   | none=>exact a5.elim
   | some i =>
   obtain ⟨ad,vs,rfl,h1,r1⟩:=(((r.mono s3).mono s4).mono s5).lst_inv
   by_cases hi:i = -1
   ·subst hi
    exact ⟨ad,vs,rfl,k5.gh.seq h1,rfl,rfl,rfl,fun p hp=>aft.done a5 k5 (Ext.new k5.gh hp) (.lst (SqL.of zat) (r1.reverse.mono (zaN (k5.gh.free hp))))⟩
   ·unfold mOpt oRev at a5
    dsimp only at a5
    rw [if_neg hi] at a5
    exact a5.elim
  | _ =>
   unfold mOpt oRev at a5
   exact a5.elim
def zeR:List D->Option (List D)
 | [.list xs]=>some xs
 | [.tuple xs]=>some xs
 | _=>none
theorem zf4 {x l:List D} (h:zeR x=some l):x=[.list l] ∨ x=[.tuple l]:=by
 unfold zeR at h
 split at h
 ·cases h;exact .inl rfl
 ·cases h;exact .inr rfl
 ·cases h
theorem ze1:bootBuiltins "list" = some (.type "list"):=by decide +kernel
theorem zkA {f:M (List D)} (hg:Gl X "list") (hm:X.mg "list" = none) (ha:PA X [a] (tDs X.K B G0 f)) (he:starEach [a] X.env=(false,eval a X.env) :: starEach [] X.env:=by rfl) :
  PE X (.Call (.Name "list" p2) [a] [] pos) (tL X.K B G0 (zas f fun xs=>mOpt (zeR xs))) :=
 peof (zdn zdW hg hm ze1 ha (by decide) (by decide) he rfl) fun σ H Q ⟨G,ρ,k,q⟩=>by
  refine ⟨G,ρ,k,?_⟩
  unfold zas at q
  cases z:f ρ with
  | bad=>rw [z] at q;exact q.elim
  | ok xs ρ1 =>
   rw [z] at q
   dsimp only [mOpt] at q
   intro vs G' H' k' s' r
   cases z2:zeR xs with
   | none=>rw [z2] at q;exact q.elim
   | some l =>
    rw [z2] at q
    rcases zf4 z2 with rfl | rfl
    ·obtain ⟨v,rfl,q1⟩:=r.one_inv
     obtain ⟨p,ws,rfl,h1,r1⟩:=q1.lst_inv
     exact ⟨p,ws,rfl,.inl (k'.gh.seq h1),fun ad hp=>q ad ws G' _ (k'.ext (Ext.hid k'.gh hp)) s' (NewL.of k' hp r1)⟩
    ·obtain ⟨v,rfl,q1⟩:=r.one_inv
     obtain ⟨p,ws,rfl,h1,r1⟩:=q1.tup_inv
     exact ⟨p,ws,rfl,.inr (zdh k'.gh h1),fun ad hp=>q ad ws G' _ (k'.ext (Ext.hid k'.gh hp)) s' (NewL.of k' hp r1)⟩
def zd2 (i:Nat):M (List D):=fun ρ=>match ρ[i]? with
 | some (some (.pub d))=>mOpt (zeR [d]) ρ
 | some (some (.own ds))=>.ok ds ρ
 | _=>.bad
theorem zev {i:Nat} (hg:Gl X "list") (hm:X.mg "list" = none) (ho:PE X a (tVar i)) (he:starEach [a] X.env=(false,eval a X.env) :: starEach [] X.env:=by rfl) :
  PE X (.Call (.Name "list" p2) [a] [] pos) (tL X.K B G0 (zd2 i)) :=
 peof (zdn zdW hg hm ze1 (zbw ho zcT he) (by decide) (by decide) he rfl) fun σ H Q ⟨G,ρ,k,q⟩=>by
  unfold zd2 at q
  cases z : ρ[i]? with
  | none=>rw [z] at q;exact q.elim
  | some oo =>
   cases oo with
   | none=>rw [z] at q;exact q.elim
   | some sl =>
    cases sl with
    | own ds =>
     rw [z] at q
     dsimp only at q
     obtain ⟨ad,vs,h1,h2,h3,h4,h5⟩:=k.own i ds z
     exact ⟨.ref ad,h1,ad,vs,rfl,.inl (SqL.of h4),fun l hp=>q l vs G _ (k.ext (Ext.hid k.gh hp)) (.refl _) (NewL.of k hp h5)⟩
    | pub d =>
     rw [z] at q
     dsimp only [mOpt] at q
     obtain ⟨v,h1,h2⟩:=k.pub i d z
     cases z2:zeR [d] with
     | none=>rw [z2] at q;exact q.elim
     | some l =>
      rw [z2] at q
      dsimp only at q
      rcases zf4 z2 with e | e
      ·cases e
       obtain ⟨p,ws,rfl,g1,r1⟩:=h2.lst_inv
       exact ⟨_,h1,p,ws,rfl,.inl (k.gh.seq g1),fun ad hp=>q ad ws G _ (k.ext (Ext.hid k.gh hp)) (.refl _) (NewL.of k hp r1)⟩
      ·cases e
       obtain ⟨p,ws,rfl,g1,r1⟩:=h2.tup_inv
       exact ⟨_,h1,p,ws,rfl,.inr (zdh k.gh g1),fun ad hp=>q ad ws G _ (k.ext (Ext.hid k.gh hp)) (.refl _) (NewL.of k hp r1)⟩
def zeS:List D->Option D
 | [.int i]=>some (.int i)
 | [.bool b]=>some (.int (if b then 1 else 0))
 | _=>none
theorem zhn:zfU X (.type "int") zeS:=by
 refine ⟨_,ziq,fun vs G H ds d Q s r e k=>?_⟩
 unfold zeS at e
 split at e
 ·cases e
  obtain ⟨v,rfl,q⟩:=r.one_inv
  rw [q.int_inv]
  exact .inl ⟨_,rfl,k _ G H (.refl s) (.int _)⟩
 ·cases e
  obtain ⟨v,rfl,q⟩:=r.one_inv
  rw [q.bl_inv]
  exact .inr ⟨_,rfl,k _ G H (.refl s) (.int _)⟩
 ·cases e
theorem zoI {x:Str} {zs:List Str} (hg:Gl X x) (hm:∃ ad o its n,X.mg x=some (.ref ad)/\X.K.lookup ad=some o/\o.cls=.type "tuple" /\ o.data=.seq its n/\its.size<=sizeLine/\Vals (zs.map V.str) its.toList) (hd:(x == ("__debug__" : Str))=false:=by decide) :
  PE X (.Name x pos) (tD X.K B G0 (zad (.tuple (zs.map PyData.str)))):=by
 obtain ⟨ad,o,its,n,hm,h1,h2,h3,h4,h5⟩:=hm
 refine peof (zgy (v:=.ref ad) hg hm rfl hd) fun σ H Q ⟨G,ρ,k,a⟩=>aft.now a k (.tup (.inr ⟨o,its,n,h1,h2,h3,h4,h5⟩) ?_)
 have:∀ zs:List Str,Reps X.K G (zs.map V.str) (zs.map PyData.str):=fun zs=>by
  induction zs with
  | nil=>exact .nil
  | cons z r ih=>exact .cons (.str _) ih
 exact this zs
end
section
variable {X:Cx} {B G0:Hp} {e o a b c tg:Expr} {pos p2 p3 p4:Pos} {es rest:List Expr} {te to ti:TE}
theorem zcV:∀ {ns:List Int} {us:List Value},Vals (ns.map V.int) us->PyProof.Rows.IntsAre us ns
 | [],_,.nil=>.nil
 | n :: ns,_,.cons h t=>by
  obtain ⟨tk,rfl⟩:=h
  exact .cons n tk (zcV t)
def zda (ns:List Int):Nat:=(PyProof.Rows.firstMet (fun i=>ns.getD i 0) ns.length).length
theorem zi5 (hc:X.calm=true):zdm X (.type "set") (fun xs H Q=>∃ l,∃ ns:List Int,xs=[.ref l]/\SqL X.K H l (ns.map V.int)/\ns.length+1 < 4096/\∀ S p,H p=none->Q (.ref p) (upd H p (.set S (zda ns)))):=by
 intro pins s σ H xs us Q I rx h
 obtain ⟨l,ns,rfl,hq,hb,q⟩:=h
 obtain ⟨u,rfl,ru⟩:=rx.one
 cases ru
 obtain ⟨its,rv,p,hz⟩:=I.list hq
 have hi:=zcV rv
 have hn:its.toArray.size=ns.length:=by have:=rv.length;rw [List.length_map] at this;simp;omega
 refine call_set_list (I.ok.hd hc) p.isList (ns:=ns) (by simpa using hi) (by rw [hn];exact hb) fun h' tk hS hk=>?_
 rw [hn] at hS
 refine ⟨.ref s.heap.objs.size,_,I.laid (t':=tk) (fun b o e=>hk b o (Heap.lt_size e) e) (Nat.le_refl _) (show zb6 X.prog X.w _ h' _ (.set _ (zda ns)) from hS),rfl,q _ _ (I.hok.fresh (Nat.le_refl _))⟩
theorem zi6:zdm X (.builtin "len") (fun xs H Q=>∃ p S n,xs=[.ref p]/\H p=some (.set S n)/\Q (.int n) H):=by
 intro pins s σ H xs us Q I rx h
 obtain ⟨p,S,n,rfl,hp,q⟩:=h
 obtain ⟨u,rfl,ru⟩:=rx.one
 cases ru
 obtain ⟨o,es,ep,t,h1,h2,h3,h4,h5,h6,h7,h8⟩:=(show s.heap.SetOf (intKind X.prog X.w) p S n from I.hok p _ hp)
 have hsb:scanBound=4096:=rfl
 refine call_len_set h1 h2 h3 h7 (by omega) ?_
 rw [h8]
 exact ⟨.int n,H,I.tok _,⟨_,rfl⟩,q⟩
def zdv:List D->Option (List Int)
 | []=>some []
 | .int i :: r=>(zdv r).map (i :: ·)
 | _=>none
theorem zew {K:PySem.W.Frag} {G:Hp}:∀ {vs:List V} {ds:List D} {ns:List Int},Reps K G vs ds->zdv ds=some ns->vs=ns.map V.int
 | _,_,ns,.nil,e=>by cases e;rfl
 | _,_,ns,.cons (d:=d) r t,e=>by
  cases d with
  | int b =>
   unfold zdv at e
   cases z:zdv _ with
   | none=>rw [z] at e;cases e
   | some cs =>
    rw [z] at e
    cases e
    rw [r.int_inv,zew t z];rfl
  | _=>cases e
theorem zhX (ns:List Int):zdv (ns.map PyData.int)=some ns:=by
 induction ns with
 | nil=>rfl
 | cons b r ih=>rw [List.map_cons,zdv,ih];rfl
def zdi:List D->Option D
 | [.list ds]=>(match zdv ds with
  | some ns=>if ns.length+1 < 4096 then some (.int (zda ns)) else none
  | none=>none)
 | _=>none
theorem zgN {xs:List D} {d:D} (h:zdi xs=some d):∃ ds ns,xs=[.list ds]/\zdv ds=some ns/\ns.length+1 < 4096/\d=.int (zda ns):=by
 unfold zdi at h
 split at h
 ·rename_i ds
  cases z:zdv ds with
  | none=>rw [z] at h;cases h
  | some ns =>
   rw [z] at h
   dsimp only at h
   split at h
   ·rename_i c
    cases h
    exact ⟨ds,ns,rfl,z,c,rfl⟩
   ·cases h
 ·cases h
theorem zi7:bootBuiltins "set" = some (.type "set"):=by decide +kernel
theorem ze2 {f:M (List D)} (hc:X.calm=true) (hg:Gl X "len") (hm:X.mg "len" = none) (hg2:Gl X "set") (hm2:X.mg "set" = none) (ha:PA X [a] (tDs X.K B G0 f)) (he:starEach [a] X.env=(false,eval a X.env) :: starEach [] X.env:=by rfl)
  (he2:starEach [.Call (.Name "set" p2) [a] [] p3] X.env=(false,eval (.Call (.Name "set" p2) [a] [] p3) X.env) :: starEach [] X.env:=by rfl) :
  PE X (.Call (.Name "len" p4) [.Call (.Name "set" p2) [a] [] p3] [] pos) (tD X.K B G0 (zbr zdi f)) :=
 peof (zc6 zi6 hg hm boot_len (zbw (zdn (zi5 hc) hg2 hm2 zi7 ha (by decide) (by decide) he rfl) zcT he2) (by decide) (by decide) he2 rfl) fun σ H Q q=>tM.one (R:=Reps X.K) q fun vs H2 G ρ x k r a=>by
  obtain ⟨d,e,a⟩:=a.opt
  obtain ⟨ds,ns,rfl,z,c,rfl⟩:=zgN e
  obtain ⟨v,rfl,q1⟩:=r.one_inv
  obtain ⟨l,ws,rfl,h1,r1⟩:=q1.lst_inv
  have:=zew r1 z
  subst this
  refine ⟨l,ns,rfl,k.gh.seq h1,c,fun S p hp=>⟨p,S,zda ns,rfl,zat,?_⟩⟩
  exact aft.done a k (Ext.hid k.gh hp) (.int _)
end
end DL
namespace L2
open PySem PySem.Spec PyProof.Rows
section
variable {X:Cx} {tg:Expr}
end
end L2
namespace DL
open PySem PySem.Spec L2
open PyProof.Rows hiding St
section
variable {X:Cx} {B G0:Hp} {e a b c tg:Expr} {pos:Pos} {es rest:List Expr}
end
end DL
namespace L2
open PySem PySem.Spec PyProof.Rows
section
variable {prog:Program} {w:World} {A:Around} {E:Value->Shared->Prop} {s:Shared} {M:Model} {env:Env}
end
section
variable {prog:Program} {w:World} {A:Around} {E:Value->Shared->Prop} {s:Shared}
end
section
variable {X:Cx}
end
end L2
namespace DL
open PySem PySem.Spec L2
open PyProof.Rows hiding St
section
variable {X:Cx} {B G0:Hp} {e a b c tg:Expr} {pos:Pos} {es rest:List Expr}
end
section
variable {X:Cx}
end
section
variable {X:Cx} {B G0:Hp} {e o:Expr} {es:List Expr}
end
section
variable {prog:Program} {w:World} {A:Around} {R:Result->Shared->Prop} {h0:Heap} {l I S:Addr} {rs:List (Addr × List Value)}
end
section
variable {prog:Program} {w:World} {A:Around} {E:Value->Shared->Prop} {s:Shared} {l z:Addr} {rs:List (Addr × List Value)}
end
section
variable {X:Cx} {pins:List (Addr × Obj)} {σ : St} {H:Hp} {s:Shared}
end
section
variable {X:Cx}
end
@[simp] theorem mBind_ok {α β : Type} {f:M α} {k : α -> M β} {ρ ρ':DEnv} {x : α} (h:f ρ = .ok x ρ'):zas f k ρ = k x ρ':=by unfold zas;rw [h]
theorem zf5 {s:D->DEnv->Option DEnv} {g:SM} {P:Nat->DEnv->Prop} {R:Out->Prop}:∀ (ds:List D) (n:Nat) (ρ : DEnv),P n ρ ->
  (∀ i d ρ,ds[i]?=some d->P (n+i) ρ -> ∃ ρ1,s d ρ = some ρ1/\((∃ ρ2,(g ρ1=.nx ρ2 ∨ g ρ1=.ct ρ2)/\P (n+i+1) ρ2) ∨ (∃ x,g ρ1=.rt x/\R (.rt x)) ∨ (∃ ρ2,g ρ1=.bk ρ2/\R (.nx ρ2)) ∨ ∃ ρ2 x,g ρ1=.ex ρ2 x/\R (.ex ρ2 x)))->(∀ ρ,P (n+ds.length) ρ -> R (.nx ρ))->R (zeQ s g ds ρ)
 | [],n,ρ,h,_,f=>f ρ h
 | d :: r,n,ρ,h,st,f=>by
  obtain ⟨ρ1,e1,e2⟩:=st 0 d ρ rfl h
  rw [zeQ,e1]
  dsimp only
  rcases e2 with ⟨ρ2,e2,h2⟩ | ⟨x,e2,h2⟩ | ⟨ρ2,e2,h2⟩ | ⟨ρ2,x,e2,h2⟩
  ·have goal:=zf5 (R:=R) r (n+1) ρ2 h2 (fun i d' ρ3 q p=>by
    have e:n+1+i=n+(i+1):=by omega
    rw [e] at p ⊢
    exact st (i+1) d' ρ3 (by simpa using q) p) (fun ρ3 p=>f ρ3 (by
    have e:n+1+r.length=n+(d :: r).length:=by rw [List.length_cons];omega
    rw [e] at p
    exact p))
   rcases e2 with e2 | e2 <;> (rw [e2];exact goal)
  ·rw [e2];exact h2
  ·rw [e2];exact h2
  ·rw [e2];exact h2
theorem zdP {lo hi:Int} {i:Nat} {d:D} (h:(zbV lo hi)[i]?=some d):d=.int (lo+i)/\(i:Int) < hi - lo:=by
 have hl:i < (zbV lo hi).length:=(List.getElem?_eq_some_iff.mp h).1
 rw [zbW] at hl
 unfold zbV at h
 rw [List.getElem?_map,List.getElem?_eq_getElem (by rw [List.length_range];exact hl),List.getElem_range] at h
 cases h
 exact ⟨rfl,by omega⟩
section
variable {α β : Type} {ρ ρ1 ρ2 ρ3 ρ':DEnv} {f g h:M D}
theorem zac {a : α}:zad a ρ = .ok a ρ:=rfl
theorem zak:mNil ρ = .ok [] ρ:=rfl
theorem zby {o:Option α} {a : α} (h:o=some a):mOpt o ρ = .ok a ρ:=by subst h;rfl
theorem zaA {f:M α} {k : α -> M β} {x : α} {r:Res β} (h:f ρ = .ok x ρ1) (h2:k x ρ1=r):zas f k ρ = r:=by unfold zas;rw [h];exact h2
theorem zaU {f:M α} {k : α -> β} {x : α} (h:f ρ = .ok x ρ1):mMap k f ρ = .ok (k x) ρ1:=by unfold mMap zas;rw [h];rfl
theorem zaf {i:Nat} {d:D} (h : ρ[i]?=some (some (.pub d))):dVar i ρ = .ok d ρ:=by unfold dVar;rw [h]
theorem zbP {i:Nat} {ds:List D} (h : ρ[i]?=some (some (.own ds))) (h2 : ρ.set i (some (.pub (.list ds))) = ρ'):dVar i ρ = .ok (.list ds) ρ':=by unfold dVar;rw [h];subst h2;rfl
theorem zar {op:D->D->Option β} {x y:D} {r : β} (h1:f ρ = .ok x ρ1) (h2:g ρ1=.ok y ρ2) (h3:op x y=some r):dBin op f g ρ = .ok r ρ2:=by
 unfold dBin;exact zaA h1 (zaA h2 (zby h3))
theorem zab {g:M (List D)} {x:D} {xs:List D} (h1:f ρ = .ok x ρ1) (h2:g ρ1=.ok xs ρ2):zae f g ρ = .ok (x :: xs) ρ2:=by
 unfold zae;exact zaA h1 (zaA h2 rfl)
theorem zci {g:M (List D)} {xs:List D} (h1:g ρ = .ok xs ρ1) (h2:xs.length<=1000000):mTup g ρ = .ok (.tuple xs) ρ1:=by
 unfold mTup;exact zaA h1 (by rw [if_pos h2];rfl)
theorem za7 {g:M (List D)} {xs:List D} (h1:g ρ = .ok xs ρ1) (h2:xs.length<=1000000):mLst g ρ = .ok (.list xs) ρ1:=by
 unfold mLst;exact zaA h1 (by rw [if_pos h2];rfl)
theorem zcK {g:M (List D)} {xs:List D} (h1:g ρ = .ok xs ρ1) (h2:xs.length<=1000000):(zas g fun xs=>if xs.length<=1000000 then zad xs else fun _=>.bad) ρ = .ok xs ρ1 :=
 zaA h1 (by rw [if_pos h2];rfl)
theorem za1 {i:Nat} {d y r:D} (h : ρ[i]?=some (some (.pub d))) (h1:g ρ = .ok y ρ1) (h2:oIx d y=some r):dIxN i g ρ = .ok r ρ1:=by
 unfold dIxN;rw [h];exact zaA h1 (zby h2)
theorem zf6 {i:Nat} {ds es:List D} {y r:D} (h : ρ[i]?=some (some (.own ds))) (h1:g ρ = .ok y ρ1) (h3 : ρ1[i]?=some (some (.own es))) (h2:oIx (.list es) y=some r):dIxN i g ρ = .ok r ρ1:=by
 unfold dIxN;rw [h];exact zaA h1 (by rw [h3];exact zby h2)
theorem zaY {p:List D->Option D} {g:M (List D)} {xs:List D} {r:D} (h1:g ρ = .ok xs ρ1) (h2:p xs=some r):zbr p g ρ = .ok r ρ1:=by
 unfold zbr;exact zaA h1 (zby h2)
theorem zaX {n:Nat} {F:List D->Option D} {g:M (List D)} {xs:List D} {r:D} (h1:g ρ = .ok xs ρ1) (h2:xs.length=n) (h3:F xs=some r):dFun n F g ρ = .ok r ρ1:=by
 unfold dFun;exact zaA h1 (by rw [if_pos h2];exact zby h3)
theorem zf7 {i:Int} (h1:f ρ = .ok (.int i) ρ1):dNeg f ρ = .ok (.int (-i)) ρ1:=by
 unfold dNeg;exact zaA h1 rfl
theorem zbc {i:Nat} {d r:D} (h : ρ[i]?=some (some (.pub d))) (h2:oLen [d]=some r):zbZ i ρ = .ok r ρ:=by
 unfold zbZ;rw [h];exact zby h2
theorem zi8 {i:Nat} {ds:List D} (h : ρ[i]?=some (some (.own ds))):zbZ i ρ = .ok (.int ds.length) ρ:=by
 unfold zbZ;rw [h]
theorem zgO {g:M (List D)} {i:Int} {r:List D} (h1:g ρ = .ok [.int i] ρ1) (h2:zhR [.int i]=some r):zhT g ρ = .ok r ρ1:=by
 unfold zhT;exact zaA h1 (zby h2)
theorem zi9 {g:M (List D)} {i j:Int} {r:List D} (h1:g ρ = .ok [.int i,.int j] ρ1) (h2:zhS [.int i,.int j]=some r):zks g ρ = .ok r ρ1:=by
 unfold zks;exact zaA h1 (zby h2)
theorem zex {g:M (List D)} {xs r:List D} (h1:g ρ = .ok xs ρ1) (h2:ziO xs=some r):zfW g ρ = .ok r ρ1:=by
 unfold zfW;exact zaA h1 (zby h2)
theorem zbK {i:Int} (h1:f ρ = .ok (.int i) ρ1):(zas f fun x=>mOpt (zcx x)) ρ = .ok (some i) ρ1:=zaA h1 rfl
theorem zct {f:M Bool} {t:Bool} (h1:f ρ = .ok t ρ1):mNot f ρ = .ok (!t) ρ1:=zaU h1
theorem zbM {t:Bool} (h1:f ρ = .ok (.bool t) ρ1):zaT f ρ = .ok t ρ1:=by unfold zaT;exact zaA h1 rfl
theorem zho {f g:M Bool} {t u:Bool} (h1:f ρ = .ok t ρ) (h2:t=true->g ρ = .ok u ρ):mAnd f g ρ = .ok (t && u) ρ:=by
 unfold mAnd;refine zaA h1 ?_
 cases t with
 | true=>rw [if_pos rfl];exact h2 rfl
 | false=>rfl
theorem zb2 {t u:Bool} (h1:f ρ = .ok (.bool t) ρ) (h2:t=true->g ρ = .ok (.bool u) ρ):zfi f g ρ = .ok (.bool (t && u)) ρ:=by
 unfold zfi;refine zaA h1 ?_
 cases t with
 | true=>exact h2 rfl
 | false=>rfl
theorem znJ {t u:Bool} (h1:f ρ = .ok (.bool t) ρ) (h2:t=false->g ρ = .ok (.bool u) ρ):mOrV f g ρ = .ok (.bool (t || u)) ρ:=by
 unfold mOrV;refine zaA h1 ?_
 cases t with
 | false=>exact h2 rfl
 | true=>rfl
theorem zja {t:Bool} (h1:f ρ = .ok (.bool t) ρ1):ziK f ρ = .ok (.bool (!t)) ρ1:=by unfold ziK;exact zaA h1 rfl
theorem zfl {p q:D->D->Option Bool} {x y z:D} {t u:Bool} (h1:f ρ = .ok x ρ) (h2:g ρ = .ok y ρ) (h3:p x y=some t) (h4:t=true->h ρ = .ok z ρ) (h5:t=true->q y z=some u):zel p q f g h ρ = .ok (t && u) ρ:=by
 unfold zel
 refine zaA h1 (zaA h2 (zaA (zby h3) ?_))
 cases t with
 | true=>rw [if_pos rfl];exact zaA (h4 rfl) (zby (h5 rfl))
 | false=>rfl
theorem za6 {i j:Int}:oAdd (.int i) (.int j)=some (.int (i+j)):=rfl
theorem zbB {x y:List D} (h:x.length+y.length<=1000000):oAdd (.list x) (.list y)=some (.list (x ++ y)):=by unfold oAdd;exact if_pos h
theorem zjb {i j:Int}:oSub (.int i) (.int j)=some (.int (i - j)):=rfl
theorem zea {i j:Int} (h1 : -18446744073709551616 < i) (h2:i < 18446744073709551616):oMul (.int i) (.int j)=some (.int (i * j)):=by unfold oMul gMul;exact if_pos (.inl ⟨by omega,by omega⟩)
theorem zkB {i j:Int} (h1 : -18446744073709551616 < j) (h2:j < 18446744073709551616):oMul (.int i) (.int j)=some (.int (i * j)):=by unfold oMul gMul;exact if_pos (.inr ⟨by omega,by omega⟩)
theorem zdQ {x:List D} {k:Int} (h : -1000000<=k/\k<=1000000/\x.length * k.toNat<=1000000):oMul (.list x) (.int k)=some (.list (List.replicate k.toNat x).flatten):=by unfold oMul;exact if_pos h
theorem zcZ {i j:Int} (h:0 < j):oMod (.int i) (.int j)=some (.int (i % j)):=by unfold oMod gMod;exact if_pos h
theorem zlZ {i j:Int} (h:0 < j) (h2:j < 18446744073709551616):oDiv (.int i) (.int j)=some (.int (i / j)):=by unfold oDiv gDiv;exact if_pos ⟨h,h2⟩
theorem zgP {i j:Int} (h:0<=j/\j<=1000000/\i.natAbs < 2 ^ 64):oPow (.int i) (.int j)=some (.int (i ^ j.toNat)):=by unfold oPow gPow;exact if_pos h
theorem znK {p:Int->Int->Bool} {i j:Int}:oIB p (.int i) (.int j)=some (p i j):=rfl
theorem zbt {i j:Int}:oEq (.int i) (.int j)=some (decide (i=j)):=by
 unfold oEq;rw [if_pos ⟨rfl,rfl,by simp [PyData.depth]⟩];congr 1
theorem zaJ {xs:List D}:oLen [.list xs]=some (.int xs.length):=rfl
theorem zeb {xs:List D}:oLen [.tuple xs]=some (.int xs.length):=rfl
theorem zl0 {i j:Int}:zkq [.int i,.int j]=some (.int (if j > i then j else i)):=rfl
theorem zfm {j:Int} (h1:j<=1000000) (h2 : -1000000<=j):zhR [.int j]=some (zbV 0 j):=by unfold zhR;exact if_pos ⟨h1,h2⟩
theorem zkC {i j:Int} (h1:j<=1000000) (h2 : -1000000<=j) (h3:i<=1000000) (h4 : -1000000<=i):zhS [.int i,.int j]=some (zbV i j):=by unfold zhS;exact if_pos ⟨h1,h2,h3,h4⟩
theorem zdw {xs:List D}:ziO [.list xs]=some (zdr 0 xs):=rfl
theorem zf8 {z:Str}:(PyData.str z).depth<=60:=by simp [PyData.depth]
theorem za4 {i:Nat} {d:D} (h1:f ρ = .ok d ρ1) (h2:i < ρ1.length) (h3 : ρ1.set i (some (.pub d)) = ρ'):sSet i f ρ = .nx ρ':=by
 unfold sSet sAsg sB gN;rw [h1];dsimp only;rw [if_pos h2];subst h3;rfl
theorem zbQ {i:Nat} {f:M (List D)} {ds:List D} (h1:f ρ = .ok ds ρ1) (h2:i < ρ1.length) (h3 : ρ1.set i (some (.own ds)) = ρ'):zb1 i f ρ = .nx ρ':=by
 unfold zb1 sB;rw [h1];dsimp only;rw [if_pos h2];subst h3;rfl
theorem zf9 {i:Nat} {d:D} {ds0 ds:List D} (h0 : ρ[i]?=some (some (.own ds0))) (h1:f ρ = .ok d ρ1) (h2 : ρ1[i]?=some (some (.own ds))) (h3:ds.length < 1000000) (h4 : ρ1.set i (some (.own (ds ++ [d]))) = ρ'):sApp i f ρ = .nx ρ':=by
 unfold sApp sB;rw [h0];dsimp only;rw [h1];dsimp only;rw [h2];dsimp only;rw [if_pos h3];subst h4;rfl
theorem zga {d:D} {s:D->DEnv->Option DEnv} (h1:f ρ = .ok d ρ1) (h2:s d ρ1=some ρ'):sAsg f s ρ = .nx ρ':=by
 unfold sAsg sB;rw [h1];dsimp only;rw [h2]
theorem tg_N {i:Nat} {d:D} (h:i < ρ.length) (h2 : ρ.set i (some (.pub d)) = ρ'):gN i d ρ = some ρ':=by unfold gN;rw [if_pos h,h2]
theorem tg_0:gN0 [] ρ = some ρ:=rfl
theorem tg_C {s:D->DEnv->Option DEnv} {t:List D->DEnv->Option DEnv} {d:D} {r:List D} (h1:s d ρ = some ρ1) (h2:t r ρ1=some ρ'):gNC s t (d :: r) ρ = some ρ':=by unfold gNC;dsimp only;rw [h1];exact h2
theorem tg_T {n:Nat} {t:List D->DEnv->Option DEnv} {ds:List D} (h1:ds.length=n) (h2:t ds ρ = some ρ'):gT n t (.tuple ds) ρ = some ρ':=by unfold gT;dsimp only;rw [if_pos h1];exact h2
structure Ho (g:SM) (ρ : DEnv) (Q:Out->Prop):Prop where
 out:Q (g ρ)
def zoJ (h:SM) (Q:Out->Prop):Out->Prop
 | .nx ρ'=>Ho h ρ' Q
 | o=>Q o
structure zhY (h:SM) (Q:Out->Prop) (o:Out):Prop where
 out:zoJ h Q o
variable {Q:Out->Prop} {s t u:SM}
theorem zaD (h:Ho s ρ (zhY t Q)):Ho (sSeq s t) ρ Q:=by
 have h:=h.out.out
 constructor
 unfold sSeq
 cases e:s ρ with
 | nx o=>rw [e] at h;exact h.out
 | _=>rw [e] at h;exact h
theorem zax (h1:s ρ = .nx ρ1) (h2:Ho t ρ1 Q):Ho (sSeq s t) ρ Q:=by
 constructor;unfold sSeq;rw [h1];exact h2.out
theorem zaR {o:Out} (h1:s ρ = o) (h2:Q o):Ho s ρ Q:=by constructor;rw [h1];exact h2
theorem za9 (h:Q (.nx ρ)):Ho sNx ρ Q:=⟨h⟩
theorem zay {o:DEnv} (h:Ho t o Q):zhY t Q (.nx o):=⟨h⟩
theorem zau {d:D} (h:Q (.rt d)):zhY t Q (.rt d):=⟨h⟩
theorem zaB {f:M Bool} {b:Bool} (h1:f ρ = .ok b ρ1) (h2:b=true->Ho s ρ1 Q) (h3:b=false->Ho t ρ1 Q):Ho (sIf f s t) ρ Q:=by
 constructor;unfold sIf sB;rw [h1];dsimp only
 cases b with
 | true=>rw [if_pos rfl];exact (h2 rfl).out
 | false=>rw [if_neg (by decide)];exact (h3 rfl).out
theorem zav {d:D} (h1:f ρ = .ok d ρ1) (h2:Q (.rt d)):Ho (sRet f) ρ Q:=by constructor;unfold sRet sB;rw [h1];exact h2
theorem zey {P:Out->Prop} (h:Ho s ρ P) (k:∀ o,P o->Q o):Ho s ρ Q:=⟨k _ h.out⟩
def zoK (I:DEnv->Prop) (Q:Out->Prop):Out->Prop
 | .nx ρ | .ct ρ=>I ρ
 | .bk ρ=>Q (.nx ρ)
 | .rt d=>Q (.rt d)
 | .ex ρ d=>Q (.ex ρ d)
 | .bad=>False
structure zgQ (I:DEnv->Prop) (Q:Out->Prop) (o:Out):Prop where
 out:zoK I Q o
theorem zcz {I:DEnv->Prop} (h:I ρ):zgQ I Q (.nx ρ):=⟨h⟩
theorem zbC {ρ : DEnv} {d:D} (h:Q (.ex ρ d)):zhY t Q (.ex ρ d):=⟨h⟩
theorem zfn {I:DEnv->Prop} {d:D} (h:Q (.rt d)):zgQ I Q (.rt d):=⟨h⟩
theorem zd3 {f:M (List D)} {tg:D->DEnv->Option DEnv} {ds:List D} (I:Nat->DEnv->Prop) (h1:f ρ = .ok ds ρ1) (h0:I 0 ρ1)
  (hst:∀ i d ρ,ds[i]?=some d->I i ρ -> ∃ ρ2,tg d ρ = some ρ2/\Ho s ρ2 (zgQ (I (i+1)) Q)) (hend:∀ ρ,I ds.length ρ -> Q (.nx ρ)):Ho (sFor f tg s) ρ Q:=by
 constructor;unfold sFor sB;rw [h1];dsimp only
 refine zf5 (P:=I) (R:=Q) ds 0 ρ1 h0 (fun i d ρ e p=>?_) (fun ρ p=>hend ρ (by rw [Nat.zero_add] at p;exact p))
 rw [Nat.zero_add] at p
 obtain ⟨ρ2,e2,q⟩:=hst i d ρ e p
 refine ⟨ρ2,e2,?_⟩
 rw [Nat.zero_add]
 have q:=q.out.out
 cases z:s ρ2 with
 | nx o=>rw [z] at q;exact .inl ⟨o,.inl rfl,q⟩
 | ct o=>rw [z] at q;exact .inl ⟨o,.inr rfl,q⟩
 | rt o=>rw [z] at q;exact .inr (.inl ⟨o,rfl,q⟩)
 | bk o=>rw [z] at q;exact .inr (.inr (.inl ⟨o,rfl,q⟩))
 | ex o x=>rw [z] at q;exact .inr (.inr (.inr ⟨o,x,rfl,q⟩))
 | bad=>rw [z] at q;exact q.elim
theorem zez {N:List Str} {ds:List D} {P:D->Prop} (h0:zch N ds = ρ) (h:Ho s ρ fun o=>∃ d,o=.rt d/\P d):∃ d,runD N s ds=some d/\P d:=by
 subst h0
 obtain ⟨d,e,p⟩:=h.out
 refine ⟨d,?_,p⟩
 unfold runD;rw [e]
theorem zcj {N:List Str} {ds:List D} {d:D} (h0:zch N ds = ρ) (h:Ho s ρ fun o=>o=.rt d):runD N s ds=some d:=by
 obtain ⟨d',e,p⟩:=zez (P:=fun x=>x=d) h0 (zey h fun o e=>⟨d,e,rfl⟩)
 rw [e,p]
end
section
variable {α β : Type} {ρ ρ1 ρ2 ρ3 ρ':DEnv} {f g h:M D}
theorem zc0 {l u:M (Option Int)} {x r:D} {a b:Option Int} (h1:f ρ = .ok x ρ1) (h2:l ρ1=.ok a ρ2) (h3:u ρ2=.ok b ρ3) (h4:oSlA x a b=some r):dSlA f l u ρ = .ok r ρ3:=by
 unfold dSlA;exact zaA h1 (zaA h2 (zaA h3 (zby h4)))
theorem zbh {f g:M Bool} (h1:f ρ = .ok true ρ1):mOr f g ρ = .ok true ρ1:=by unfold mOr;exact zaA h1 rfl
theorem zck {f g:M Bool} {u:Bool} (h1:f ρ = .ok false ρ1) (h2:g ρ1=.ok u ρ2):mOr f g ρ = .ok u ρ2:=by unfold mOr;exact zaA h1 (by rw [if_neg (by decide)];exact h2)
theorem zl1 {f g:M Bool} (h1:f ρ = .ok false ρ1):mAnd f g ρ = .ok false ρ1:=by unfold mAnd;exact zaA h1 rfl
theorem zl2 {f g:M Bool} {u:Bool} (h1:f ρ = .ok true ρ1) (h2:g ρ1=.ok u ρ2):mAnd f g ρ = .ok u ρ2:=by unfold mAnd;exact zaA h1 (by rw [if_pos rfl];exact h2)
theorem zaC {c:String} {d:D} {t:Bool} (h:f ρ = .ok d ρ1) (ht:(!isTy d c)=t):mNot (zaT (mMap (fun d=>.bool (isTy d c)) f)) ρ = .ok t ρ1:=by
 subst ht;exact zct (zbM (zaU (k:=fun d=>PyData.bool (isTy d c)) h))
theorem zbD {x:D} {r:List D} (h1:f ρ = .ok x ρ1) (h2:zgK x=some r):zbH f ρ = .ok r ρ1:=by
 unfold zbH;exact zaA h1 (zby h2)
theorem zbu {p:D->D->Option β} {i:Nat} {d y:D} {r : β} (h : ρ[i]?=some (some (.pub d))) (h1:g ρ = .ok y ρ1) (h2:p d y=some r):zbx p i g ρ = .ok r ρ1:=by
 unfold zbx;rw [h];exact zaA h1 (zby h2)
theorem zhp {p:D->D->Option β} {i:Nat} {ds es:List D} {y:D} {r : β} (h : ρ[i]?=some (some (.own ds))) (h1:g ρ = .ok y ρ1) (h3 : ρ1[i]?=some (some (.own es))) (h2:p (.list es) y=some r):zbx p i g ρ = .ok r ρ1:=by
 unfold zbx;rw [h];exact zaA h1 (by rw [h3];exact zby h2)
theorem zc1 {f:M (List D)} {k:Nat} {s:D->DEnv->Option DEnv} {t:M Bool} {ds es:List D} (h1:f ρ = .ok ds ρ1) (h2:zco s t g ds (za5 ρ1 ++ List.replicate k none) []=some es):zdO f k s t g ρ = .ok es ρ1:=by
 unfold zdO;rw [h1];dsimp only;rw [h2]
theorem zcl {s:D->DEnv->Option DEnv} {t:M Bool} (p:D->Bool) (q:D->D) (I:DEnv->Prop):∀ (ds:List D) (ρ : DEnv) (es:List D),(∀ d ∈ ds,∀ ρ,I ρ -> ∃ ρ1,s d ρ = some ρ1/\t ρ1=.ok (p d) ρ1/\(p d=true->g ρ1=.ok (q d) ρ1)/\I (za5 ρ1))->I ρ -> es.length+ds.length<=1000000 ->
  zco s t g ds ρ es=some (es ++ (ds.filter p).map q)
 | [],ρ,es,_,_,_=>by rw [zco];simp
 | d :: r,ρ,es,st,h0,hz=>by
  obtain ⟨ρ1,e1,e2,e3,h1⟩:=st d List.mem_cons_self ρ h0
  have ih:=fun es' hz'=>zcl p q I r (za5 ρ1) es' (fun d' hd=>st d' (List.mem_cons_of_mem _ hd)) h1 hz'
  rw [List.length_cons] at hz
  rw [zco,e1]
  dsimp only
  rw [e2]
  dsimp only
  cases hp:p d with
  | true =>
   rw [if_pos rfl,e3 hp]
   dsimp only
   rw [if_pos (by omega),ih _ (by rw [List.length_append,List.length_singleton];omega),List.filter_cons_of_pos hp,List.map_cons,List.append_assoc]
   rfl
  | false =>
   rw [if_neg (by decide),ih _ (by omega),List.filter_cons_of_neg (by rw [hp];decide)]
theorem zjc {j:Nat} {d:D} {k:Int} {ds0 ds:List D} (h1:f ρ = .ok d ρ1) (h0 : ρ1[j]?=some (some (.own ds0))) (h2:g ρ1=.ok (.int k) ρ2) (h3 : ρ2[j]?=some (some (.own ds))) (h4:0<=k/\k < ds.length) (h5 : ρ2.set j (some (.own (ds.set k.toNat d))) = ρ'):zi3 j g f ρ = .nx ρ':=by
 unfold zi3 sB;rw [h1];dsimp only;rw [h0];dsimp only;rw [h2];dsimp only;rw [h3];dsimp only;rw [if_pos h4];subst h5;rfl
theorem zbY {xs:List D} {a b:Option Int}:oSlA (.list xs) a b=some (.list (DL.cutD xs a b)):=rfl
theorem zcL {xs:List D}:zgK (.list xs)=some xs:=rfl
theorem zgR (bs:List Bool):zcY (bs.map PyData.bool)=some bs:=by
 induction bs with
 | nil=>rfl
 | cons b r ih=>rw [List.map_cons,zcY,ih];rfl
theorem zl3 {bs:List Bool}:oAll [.list (bs.map PyData.bool)]=some (.bool (bs.all id)):=by unfold oAll;dsimp only;rw [zgR];rfl
end
section
variable {α β : Type} {ρ ρ1 ρ2 ρ3 ρ4 ρ':DEnv} {f g h:M D} {s:SM}
theorem znL {l u t:M (Option Int)} {xs:List D} (h1:f ρ = .ok (.list xs) ρ1) (h2:l ρ1=.ok none ρ2) (h3:u ρ2=.ok none ρ3) (h4:t ρ3=.ok (some (-1)) ρ4):dRev f l u t ρ = .ok (.list xs.reverse) ρ4:=by
 unfold dRev;exact zaA h1 (zaA h2 (zaA h3 (zaA h4 (zby (by unfold oRev;exact if_pos rfl)))))
theorem zfo {i:Nat} {d:D} {ds:List D} (h : ρ[i]?=some (some (.pub d))) (h2:zeR [d]=some ds):zd2 i ρ = .ok ds ρ:=by unfold zd2;rw [h];exact zby h2
theorem zdj {i j:Int}:oNe (.int i) (.int j)=some (!decide (i=j)):=by
 unfold oNe;rw [if_pos ⟨rfl,rfl,by simp [PyData.depth]⟩];congr 1
theorem zfp {xs:List Int} {a b:Int} (ha:0<=a) (hb:0<=b) (hl:b<=xs.length):DL.cutD (xs.map PyData.int) (some a) (some b)=((xs.drop a.toNat).take (b.toNat - a.toNat)).map PyData.int:=by
 unfold DL.cutD HT.sIx
 dsimp only
 rw [if_neg (by omega),if_neg (by omega),List.length_map,List.map_take,List.map_drop]
 have e2:min b.toNat xs.length=b.toNat:=by omega
 rw [e2]
 by_cases hab:a.toNat<=xs.length
 ·have e1:min a.toNat xs.length=a.toNat:=by omega
  rw [e1]
 ·have e3:b.toNat - a.toNat=0:=by omega
  have e4:b.toNat - min a.toNat xs.length=0:=by omega
  rw [e3,e4,List.take_zero,List.take_zero]
end
section
variable {ρ ρ1:DEnv}
end
section
variable {X:Cx} {B G0:Hp} {KX:XW} {e o a b c tg i:Expr} {pos p2:Pos} {es rest:List Expr}
def zdb (f:M Bool) (g:SM):Nat->SM
 | 0,_=>.bad
 | n+1,ρ=>match f ρ with
  | .bad=>.bad
  | .ok t ρ1=>if t=true then (match g ρ1 with
   | .nx ρ2=>zdb f g n ρ2
   | .ct ρ2=>zdb f g n ρ2
   | .bk ρ2=>.nx ρ2
   | .rt d=>.rt d
   | .ex ρ2 d=>.ex ρ2 d
   | .bad=>.bad) else .nx ρ1
theorem zkD {body:List Stmt} {f:M Bool} {g:SM} (n:Nat) (hp:PassesOwn (model X.prog X.w) X.A X.env X.xe) (hc:PT X c (tBo X.K B G0 f)) (hb:PSs X body (tS X.K B G0 KX g)):PS X (.While c body [] pos) (tS X.K B G0 KX (zdb f g n)) :=
 psof (zj3 hp hc hb) fun Dn σ H ⟨G,ρ,k,a⟩=>by
  refine ⟨fun m σ' H'=>∃ G' ρ',EOk X.K B G0 G' H' σ' ρ'/\aftS X.K B G0 KX (zdb f g m ρ') G' Dn,⟨n,G,ρ,k,a⟩,?_⟩
  rintro m σ' H' ⟨G',ρ',k',a'⟩
  cases m with
  | zero=>exact a'.elim
  | succ m =>
   rw [zdb] at a'
   refine ⟨G',ρ',k',?_⟩
   cases z:f ρ' with
   | bad=>rw [z] at a';exact a'.elim
   | ok t ρ1 =>
    rw [z] at a'
    dsimp only at a'
    intro v G1 H1 k1 s1 e1
    subst e1
    cases v with
    | false =>
     rw [if_neg Bool.false_ne_true] at a' ⊢
     exact a' _ G1 H1 k1 s1
    | true =>
     rw [if_pos rfl] at a' ⊢
     refine ⟨fun σ2 H2=>∃ G2 ρ2,EOk X.K B G0 G2 H2 σ2 ρ2/\aftS X.K B G0 KX (zdb f g m ρ2) G2 Dn,fun σ2 H2 h2=>⟨m,Nat.lt_succ_self m,h2⟩,G1,ρ1,k1,?_⟩
     cases z2:g ρ1 with
     | nx ρ2=>rw [z2] at a';exact fun σ4 G4 H4 k4 s4=>⟨G4,ρ2,k4,aftS.mono (s1.trans s4) a'⟩
     | ct ρ2=>rw [z2] at a';exact fun σ4 G4 H4 k4 s4=>⟨G4,ρ2,k4,aftS.mono (s1.trans s4) a'⟩
     | bk ρ2=>rw [z2] at a';exact fun σ4 G4 H4 k4 s4=>a' σ4 G4 H4 k4 (s1.trans s4)
     | rt d=>rw [z2] at a';exact a'
     | ex ρ2 d=>rw [z2] at a';exact fun v σ4 G4 H4 k4 s4 r4=>a' v σ4 G4 H4 k4 (s1.trans s4) r4
     | bad=>rw [z2] at a';exact a'.elim
end
section
variable {X:Cx} {B G0:Hp} {KX:XW}
end
section
variable {X:Cx} {B G0:Hp} {e o a b c tg i:Expr} {pos p2:Pos} {es rest:List Expr}
theorem zeA:bootBuiltins "tuple" = some (.type "tuple"):=by decide +kernel
end
end DL
namespace DL
open PySem PySem.Spec PySem.W PyProof.Rows
section
variable {key:Nat->Int} {p:Array Nat}
section
variable {N:Nat} (hN:0 < N)
include hN
end
end
section
variable {prog:Program} {w:World} {A:Around} {E:Value->Shared->Prop} {s:Shared}
end
section
variable {prog:Program} {w:World} {A:Around} {E:Value->Shared->Prop} {s:Shared}
end
end DL
namespace DL
open PySem PySem.Spec L2
open PyProof.Rows hiding St
section
variable {X:Cx}
end
section
variable {X:Cx}
theorem ze3:bootBuiltins "repr" = some (.builtin "repr"):=by decide +kernel
end
section
variable {X:Cx} {B G0:Hp} {e o a b c tg:Expr} {pos p2:Pos} {es rest:List Expr} {te to ti:TE}
def zhZ {β : Type} (p:D->D->Option β) (f:M D) (j:Nat):M β:=zas f fun x=>fun ρ=>match ρ[j]? with
 | some (some (.pub d))=>mOpt (p x d) ρ
 | some (some (.own ds))=>mOpt (p x (.list ds)) ρ
 | _=>.bad
theorem zoL {K:PySem.W.Frag} {σ : St} {H:Hp} {p:D->D->Option Bool} {r:R2} {j:Nat} {f:M D} {Q:Bool->Hp->Prop} {QV:VK} (hq:∀ t H3,Q t H3->QV (.bl t) H3)
  (hr:∀ v u G H x y d Q,Same G H->Rep K G v x->Rep K G u y->p x y=some d->Q (.bl d) H->r v u H Q)
  (q:tBo K B G0 (zhZ p f j) σ H Q):tD K B G0 f σ H fun x H1=>tVar j σ H1 fun y H2=>r x y H2 QV:=by
 refine tM.one (R:=Rep K) q fun v H2 G ρ x k rx a=>?_
 cases z : ρ[j]? with
 | none=>rw [z] at a;exact a.elim
 | some o =>
  cases o with
  | none=>rw [z] at a;exact a.elim
  | some sl =>
   cases sl with
   | pub d =>
    rw [z] at a
    dsimp only at a
    obtain ⟨d',e',a'⟩:=aft.opt a
    obtain ⟨u,h1,h2⟩:=k.pub j d z
    exact ⟨u,h1,hr v u G H2 x d d' _ k.gh rx h2 e' (hq _ _ (a' d' G H2 k (.refl _) rfl))⟩
   | own ds =>
    rw [z] at a
    dsimp only at a
    obtain ⟨d',e',a'⟩:=aft.opt a
    obtain ⟨ad,vs,h1,h2,h3,h4,h5⟩:=k.own j ds z
    exact ⟨.ref ad,h1,hr v (.ref ad) H2 H2 x (.list ds) d' _ (.refl _) (rx.mono k.gh) (.lst (SqL.of h4) (h5.mono k.gh)) e' (hq _ _ (a' d' G H2 k (.refl _) rfl))⟩
theorem zl4 {op:CmpOp} {p:D->D->Option Bool} {j:Nat} {f:M D} (o:OpB X (compareOp op) p) (ha:PE X a (tD X.K B G0 f)) (hb:PE X b (tVar j)) (hm:behindInMarks op b=false) :
  PT X (.Compare a [op] [b] pos) (tBo X.K B G0 (zhZ p f j)):=by
 obtain ⟨r,h,i⟩:=o
 exact ptof (zgz h ha hb hm) fun σ H Q q=>zoL (fun t H3 z=>⟨t,rfl,z⟩) i q
theorem zhq {β : Type} {p:D->D->Option β} {f:M D} {j:Nat} {ρ ρ1:DEnv} {x:D} {ds:List D} {r : β} (h1:f ρ = .ok x ρ1) (h2 : ρ1[j]?=some (some (.own ds))) (h3:p x (.list ds)=some r):zhZ p f j ρ = .ok r ρ1:=by
 unfold zhZ;exact zaA h1 (by rw [h2];exact zby h3)
end
section
variable {X:Cx} {B G0:Hp} {e o a b c tg:Expr} {pos p2:Pos} {es rest:List Expr}
end
end DL
namespace HT
open PySem PyProof.Rows
section
open PySem.SeqAt
open PySem.AutoSeq1 (wpAny_loadPart')
open PySem.MeetsSeq PySem.MeetsSeq2 PySem.MeetsSeq3
end
section
variable {prog:Program} {w:World} {A:Around} {E:Value->Shared->Prop} {s:Shared}
end
end HT
namespace DL
open PySem PySem.Spec L2
open PyProof.Rows hiding St
section
variable {X:Cx}
end
section
variable {X:Cx}
def zh0 (x y:D):Option (List D):=match x,y with
 | .list xs,.int k=>if -1000000<=k/\k<=1000000/\xs.length * k.toNat<=1000000 then some (List.replicate k.toNat xs).flatten else none
 | _,_=>none
theorem zjd {x y:D} {ds:List D} (h:zh0 x y=some ds):∃ xs k,x=.list xs/\y=.int k/\(-1000000<=k/\k<=1000000/\xs.length * k.toNat<=1000000)/\ds=(List.replicate k.toNat xs).flatten:=by
 unfold zh0 at h
 split at h
 ·split at h
  ·rename_i xs k c
   cases h
   exact ⟨xs,k,rfl,rfl,c,rfl⟩
  ·cases h
 ·cases h
def zje (f g:M D):M (List D):=zas f fun x=>zas g fun y=>mOpt (zh0 x y)
theorem zl5 {f g:M D} (ha:PE X a (tD X.K B G0 f)) (hb:PE X b (tD X.K B G0 g)):PE X (.BinOp a .Mult b pos) (tL X.K B G0 (zje f g)) :=
 peof (zmZ ziI ha hb) fun σ H Q ⟨G,ρ,k,q⟩=>by
  refine ⟨G,ρ,k,?_⟩
  unfold zje zas at q
  cases z:f ρ with
  | bad=>rw [z] at q;exact q.elim
  | ok x ρ1 =>
   rw [z] at q
   dsimp only at q
   intro v G1 H1 k1 s1 r1
   refine ⟨G1,ρ1,k1,?_⟩
   cases z2:g ρ1 with
   | bad=>rw [z2] at q;exact q.elim
   | ok y ρ2 =>
    rw [z2] at q
    dsimp only [mOpt] at q
    intro u G2 H2 k2 s2 r2
    cases z3:zh0 x y with
    | none=>rw [z3] at q;exact q.elim
    | some ds =>
     rw [z3] at q
     obtain ⟨xs,i,rfl,rfl,c,rfl⟩:=zjd z3
     obtain ⟨l,vs,rfl,h1,w⟩:=r1.lst_inv
     exact ⟨l,i,vs,rfl,r2.int_inv,k2.gh.seq (s2.seq h1),by omega,by omega,by rw [w.length];exact Nat.le_trans c.2.2 lim,fun p hp=>q p _ G2 _ (k2.ext (Ext.hid k2.gh hp)) (s1.trans s2) (NewL.of k2 hp ((w.mono s2).rep _))⟩
theorem zl6 {f g:M D} {ρ ρ1 ρ2:DEnv} {x:D} {n:Nat} (h1:f ρ = .ok (.list [x]) ρ1) (h2:g ρ1=.ok (.int n) ρ2) (h:n<=1000):zje f g ρ = .ok (List.replicate n x) ρ2:=by
 unfold zje zas
 rw [h1]
 dsimp only
 rw [h2]
 dsimp only [mOpt]
 have e:zh0 (.list [x]) (.int n)=some (List.replicate n x):=by
  unfold zh0
  dsimp only
  rw [if_pos ⟨by omega,by omega,by show 1 * _<=_;omega⟩]
  congr 1
  rw [Int.toNat_natCast]
  clear h2 h
  induction n with
  | zero=>rfl
  | succ n ih=>rw [List.replicate_succ,List.flatten_cons,ih,List.replicate_succ];rfl
 rw [e]
end
end DL
namespace DL
open PySem
theorem lz0 {P:List Value->Prop} {us:List Value} (hl:us.length=0) (h:P []):P us:=by
 cases us with
 | nil=>exact h
 | cons a r=>cases hl
theorem lzS {P:List Value->Prop} {us:List Value} {n:Nat} (hl:us.length=n+1) (h:∀ a r,r.length=n->P (a :: r)):P us:=by
 cases us with
 | nil=>cases hl
 | cons a r=>exact h a r (Nat.succ.inj hl)
theorem lz1 {P:List Value->Prop} {us:List Value} (hl:us.length=1) (h:∀ a,P [a]):P us:=lzS hl fun a r e=>lz0 (P:=fun r=>P (a :: r)) e (h a)
theorem lz2 {P:List Value->Prop} {us:List Value} (hl:us.length=2) (h:∀ a b,P [a,b]):P us:=lzS hl fun a r e=>lz1 (P:=fun r=>P (a :: r)) e (h a)
theorem lz3 {P:List Value->Prop} {us:List Value} (hl:us.length=3) (h:∀ a b c,P [a,b,c]):P us:=lzS hl fun a r e=>lz2 (P:=fun r=>P (a :: r)) e (h a)
theorem lz4 {P:List Value->Prop} {us:List Value} (hl:us.length=4) (h:∀ a b c d,P [a,b,c,d]):P us:=lzS hl fun a r e=>lz3 (P:=fun r=>P (a :: r)) e (h a)
theorem lz5 {P:List Value->Prop} {us:List Value} (hl:us.length=5) (h:∀ a b c d e,P [a,b,c,d,e]):P us:=lzS hl fun a r e=>lz4 (P:=fun r=>P (a :: r)) e (h a)
theorem bz1 {fd:FuncData} {ps:List Str} {us:List Value} (hl:us.length=1) (h:∀ a,bindArgs fd { pos:=[a] }=pure (ps.zip [a])):bindArgs fd { pos:=us }=pure (ps.zip us):=lz1 (P:=fun us=>bindArgs fd { pos:=us }=pure (ps.zip us)) hl h
theorem bz2 {fd:FuncData} {ps:List Str} {us:List Value} (hl:us.length=2) (h:∀ a b,bindArgs fd { pos:=[a,b] }=pure (ps.zip [a,b])):bindArgs fd { pos:=us }=pure (ps.zip us):=lz2 (P:=fun us=>bindArgs fd { pos:=us }=pure (ps.zip us)) hl h
theorem bz3 {fd:FuncData} {ps:List Str} {us:List Value} (hl:us.length=3) (h:∀ a b c,bindArgs fd { pos:=[a,b,c] }=pure (ps.zip [a,b,c])):bindArgs fd { pos:=us }=pure (ps.zip us):=lz3 (P:=fun us=>bindArgs fd { pos:=us }=pure (ps.zip us)) hl h
theorem bz4 {fd:FuncData} {ps:List Str} {us:List Value} (hl:us.length=4) (h:∀ a b c d,bindArgs fd { pos:=[a,b,c,d] }=pure (ps.zip [a,b,c,d])):bindArgs fd { pos:=us }=pure (ps.zip us):=lz4 (P:=fun us=>bindArgs fd { pos:=us }=pure (ps.zip us)) hl h
theorem bz5 {fd:FuncData} {ps:List Str} {us:List Value} (hl:us.length=5) (h:∀ a b c d e,bindArgs fd { pos:=[a,b,c,d,e] }=pure (ps.zip [a,b,c,d,e])):bindArgs fd { pos:=us }=pure (ps.zip us):=lz5 (P:=fun us=>bindArgs fd { pos:=us }=pure (ps.zip us)) hl h
end DL
namespace DL
open PySem PySem.Spec L2
open PyProof.Rows hiding St
def whole (h:Heap):PySem.W.Frag:=(List.range h.objs.size).filterMap fun a=>(h.get? a).map fun o=>(a,o)
theorem zgb {g:Addr->Option Obj} {x:Addr}:∀ l:List Addr,(l.filterMap fun a=>(g a).map fun o=>(a,o)).lookup x=if x ∈ l then g x else none
 | []=>rfl
 | y :: l=>by
  have ih:=zgb (g:=g) (x:=x) l
  by_cases e:x=y
  ·subst e
   rw [if_pos List.mem_cons_self]
   cases z:g x with
   | none=>rw [List.filterMap_cons_none (by rw [z];rfl),ih,z];split <;> rfl
   | some o=>rw [List.filterMap_cons_some (by rw [z];rfl),List.lookup_cons,beq_self_eq_true]
  ·have m:(x ∈ y :: l)=(x ∈ l):=by simp [List.mem_cons,e]
   have b:(x == y)=false:=by simpa using e
   have ih':(if x ∈ y :: l then g x else none)=_:=(by simp only [m];exact ih.symm)
   rw [ih']
   cases z:g y with
   | none=>rw [List.filterMap_cons_none (by rw [z];rfl)]
   | some o=>rw [List.filterMap_cons_some (by rw [z];rfl),List.lookup_cons,b]
theorem zaO {h:Heap} {a:Addr}:(whole h).lookup a=h.get? a:=by
 unfold whole
 rw [zgb]
 split
 ·rfl
 ·rename_i n
  cases z:h.get? a with
  | none=>rfl
  | some o=>exact absurd (List.mem_range.mpr (Heap.lt_size z)) n
theorem zkE (h:Heap):(whole h).In h:=fun a o e=>by rw [zaO] at e;exact e
def zoM (st:Stmt):Option DefRec:=match st with
 | .FunctionDef name a b _ _ _ sc _ _ pos=>some ⟨name,a,b,sc,pos⟩
 | _=>none
def zhr (st:Stmt):Option Str:=match st with
 | .FunctionDef name _ _ _ _ _ _ _ _ _=>some name
 | _=>none
def zoN (st:Stmt):Pos:=match st with
 | .FunctionDef _ _ _ _ _ _ _ _ _ pos=>pos
 | _=>⟨0,0,0,0⟩
abbrev stAt (p:Program) (i:Nat):Stmt:=p.main.body.getD i (.Pass ⟨0,0,0,0⟩)
def ze4 (p:Program) (ix:List Nat):List DefRec:=ix.filterMap fun i=>zoM (stAt p i)
section
variable {p q:Program} {loose:List Str} {mean:ExcName->Option Value} {mg mb:Str->Option Value} {h:Heap} {w:World}
theorem zjf {ix:List Nat} (T:Top q loose mean mg mb h) (e:recsOf q=ze4 p ix) (i:Nat) (x:Str) (hi:ix.contains i=true) (hn:zhr (stAt p i)=some x):∃ f fd,mg x=some (.ref f)/\Fun (whole h) x x (stAt p i) f fd:=by
 cases hs:stAt p i with
 | FunctionDef name a b _ _ _ sc _ _ pos =>
  rw [hs] at hn
  cases hn
  have hd:(⟨x,a,b,sc,pos⟩:DefRec) ∈ recsOf q:=by
   rw [e]
   exact List.mem_filterMap.mpr ⟨i,by simpa using hi,by rw [hs];rfl⟩
  obtain ⟨f,⟨oc,od,dt,osl⟩,pm,cd,doc,h1,h2,h3,h4⟩:=T.fn _ hd
  have h3:dt=_:=h3
  subst h3
  refine ⟨f,_,h1,⟨⟨oc,od,.none,doc,pm,_,cd,_,osl,rfl,by rw [zaO];exact h2,?_⟩,?_⟩⟩
  ·obtain ⟨c,⟨_,_,dc,_⟩,vs,t,rfl,g1,g2,g3⟩:=h4
   have g2:dc=_:=g2
   subst g2
   unfold PySem.W.codeIn
   dsimp only
   rw [zaO,g1]
   dsimp only
   have g4:vs.toList[1]?=some (.str x t):=by rw [Array.getElem?_toList];exact g3
   cases hv:vs.toList with
   | nil=>rw [hv] at g4;cases g4
   | cons v0 r =>
    rw [hv] at g4
    cases r with
    | nil=>cases g4
    | cons v1 r=>cases g4;exact beq_self_eq_true _
  ·unfold PySem.W.keepIn
   dsimp only
   rw [zaO,h2]
 | _=>rw [hs] at hn;cases hn
theorem zjg {K:PySem.W.Frag} {x qual y:Str} {st:Stmt} {f:Addr} {fd:FuncData} (F:Fun K x qual st f fd)
  (hb:∀ (kV doc pm:Value) (an:Option Addr) (cdv ct v:Value),bindArgs (PySem.W.fnOf x qual (zcf st) (zbo st) (zam st) .none kV doc pm an cdv ct) ⟨[v],[]⟩=pure [(y,v)]) (s:Shared) (v:Value):BindsTo s fd ⟨[v],[]⟩ [(y,v)]:=by
 obtain ⟨oc,od,kV,doc,pm,an,cdv,ct,osl,rfl,lk,hcd⟩:=F.ex
 exact .of_eq (hb kV doc pm an cdv ct v)
def zkF (q:Program) (loose:List Str) (x:Str):Bool :=
 !startupNames.contains x && !loose.contains x && !((recsOf q).map (·.name)).contains x && !((litsOf q).map (·.1)).contains x && !((clssOf q loose).map (·.name)).contains x
theorem zbR (T:Top q loose mean mg mb h) {xs:List Str} (e:xs.all (zkF q loose)=true) {x:Str} (hx:x ∈ xs):mg x=none:=by
 have:=List.all_eq_true.mp e x hx
 unfold zkF at this
 simp only [Bool.and_eq_true,Bool.not_eq_true',List.contains_eq_mem,decide_eq_false_iff_not] at this
 exact T.free x this.1.1.1.1 this.1.1.1.2 this.1.1.2 this.1.2 this.2
theorem zdx (T:Top q loose mean mg mb h) {x:Str} {i:Int} (e:valOf q x=some (.int i)):∃ t,mg x=some (.int i t):=by
 obtain ⟨v,h1,h2⟩:=T.const x _ e
 have:=h2 h
 cases this
 exact ⟨_,h1⟩
theorem znM:∀ {vs:List Value} {ss:List Str},StrsAre vs ss->Vals (ss.map V.str) vs
 | _,_,.nil=>.nil
 | _,_,.cons y t r=>.cons ⟨t,rfl⟩ (znM r)
theorem zjh (B:Tables q w mg h) {x:Str} {ss:List Str} (e:tupStrsOf q x=some ss) (hl:ss.length<=1000) :
  ∃ ad o its n,mg x=some (.ref ad)/\(whole h).lookup ad=some o/\o.cls=.type "tuple" /\ o.data=.seq its n/\its.size<=sizeLine/\Vals (ss.map V.str) its.toList:=by
 obtain ⟨a,vs,h1,⟨o,h2,h3,n,h4⟩,h5⟩:=B.tupS x ss e
 have r:=znM h5
 refine ⟨a,o,_,n,h1,by rw [zaO];exact h2,h3,h4,?_,r⟩
 have:=r.length
 rw [List.length_map] at this
 have l:(1000:Nat)<=sizeLine:=by decide
 rw [List.size_toArray]
 omega
end
def scOk (sc:Scope) (N gl:List Str):Bool:=(N.all fun x=>match sc.names.lookup x with | some .local=>true | some .cell=>true | _=>false) && gl.all fun x=>match sc.names.lookup x with | some .globalImplicit=>true | _=>false
def fnB (sc:Scope) (N gl:List Str):Bool:=decide (sc.kind=.function) && !sc.isCoroutine && !sc.isGenerator && decide N.Nodup && (sc.names.all fun y=>match y.2 with | .free=>false | _=>true) && scOk sc N gl
structure FnNm (sc:Scope) (N gl:List Str):Prop where
 kind:sc.kind=.function
 co:sc.isCoroutine=false
 gen:sc.isGenerator=false
 nd:N.Nodup
 nofree:∀ y ∈ sc.names,y.2 ≠ .free
 nm:∀ x ∈ N,sc.names.lookup x=some .local ∨ sc.names.lookup x=some .cell
 gl:∀ x ∈ gl,sc.names.lookup x=some .globalImplicit
theorem zbd {sc:Scope} {N gl:List Str} (H:fnB sc N gl=true):FnNm sc N gl:=by
 unfold fnB scOk at H
 simp only [Bool.and_eq_true,decide_eq_true_eq,Bool.not_eq_true',List.all_eq_true] at H
 obtain ⟨⟨⟨⟨⟨h1,h2⟩,h3⟩,h4⟩,h5⟩,h6,h7⟩:=H
 refine ⟨h1,h2,h3,h4,fun y hy e=>?_,fun x hx=>?_,fun x hx=>?_⟩
 ·have:=h5 y hy;rw [e] at this;cases this
 ·have:=h6 x hx
  split at this
  ·rename_i e;exact .inl e
  ·rename_i e;exact .inr e
  ·cases this
 ·have:=h7 x hx
  split at this
  ·rename_i e;exact e
  ·cases this
section
variable {sc:Scope} {N gl:List Str} {x:Str}
theorem nq (H:FnNm sc N gl):N.Nodup:=H.nd
theorem fq (H:FnNm sc N gl) (n:Nat):zdI N (N.take n) sc:=⟨H.kind,H.co,H.gen,H.nd,by rw [List.length_take,List.take_eq_take_iff];omega,fun x hx=>H.nm x (List.mem_of_mem_take hx),H.nofree⟩
theorem lq (H:FnNm sc N gl) (i:Nat) (h:N[i]?=some x:=by rfl):L2.Loc sc x:=H.nm x (List.mem_of_getElem? h)
theorem gq (H:FnNm sc N gl) (i:Nat) (h:gl[i]?=some x:=by rfl):sc.names.lookup x=some .globalImplicit:=H.gl x (List.mem_of_getElem? h)
theorem pq {X:Cx} {pos:Pos} (H:FnNm X.env.scope X.N gl) (i:Nat) (h:X.N[i]?=some x:=by rfl) (hd:(x == ("__debug__" : Str))=false:=by decide) (hc:(x == ("__classdict__" : Str))=false:=by decide):PE X (.Name x pos) (tVar i) :=
 zk2 h ((H.nm x (List.mem_of_getElem? h)).elim .inl fun z=>.inr (.inl z)) hd hc
end
theorem zcM {q p:Program} {loose:List Str} {mean:ExcName->Option Value} {mg mb:Str->Option Value} {h:Heap} {ix:List Nat} (P:Program) (w:World) (base:Heap) {ps:List Str} {k n:Nat} {F:List D->Option D} (T:Top q loose mean mg mb h) (e:recsOf q=ze4 p ix) (i:Nat) (x:Str) (hi:ix.contains i=true) (hn:zhr (stAt p i)=some x)
  (ok:∀ {f:Addr} {fd:FuncData},Fun (whole h) x x (stAt p i) f fd->FnOk P w (whole h) mg base CX0 k f fd ps (spD (whole h) n F))
  (hb:∀ (kV doc pm:Value) (an:Option Addr) (cdv ct:Value) (us:List Value),us.length=ps.length->bindArgs (PySem.W.fnOf x x (zcf (stAt p i)) (zbo (stAt p i)) (zam (stAt p i)) .none kV doc pm an cdv ct) ⟨us,[]⟩=pure (ps.zip us)):Def P w (whole h) mg base x k n F:=by
 obtain ⟨f,fd,m,FU⟩:=zjf T e i x hi hn
 exact Def.mk m FU (FU.binds hb) (ok FU)
section
variable {X:Cx} {B G0:Hp} {e:Expr} {pos:Pos} {es:List Expr}
theorem pdf {k kk n:Nat} {F:List D->Option D} {g:M (List D)} {x:Str} {p2:Pos} (d:Def X.prog X.w X.K X.mg X.base x k n F) (hr:Room kk X.A) (hg:Gl X x) (ha:PA X (e :: es) (tDs X.K B G0 g)) (hk:k<=kk:=by decide) (hn:(e :: es).length=n:=by rfl)
  (hdb:(x == ("__debug__" : Str))=false:=by decide) (he:starEach (e :: es) X.env=(false,eval e X.env) :: starEach es X.env:=by rfl) (hpl:(backTo pos (starEach es X.env)).any (·.1)=false:=by rfl) :
  PE X (.Call (.Name x p2) (e :: es) [] pos) (tD X.K B G0 (dFun n F g)):=zlT d (hr.mono hk) hg ha hn hdb he hpl
end
theorem zoO {q p:Program} {loose:List Str} {mean:ExcName->Option Value} {mg mb:Str->Option Value} {h:Heap} {ix:List Nat} {P:Program} {w:World} {k:Nat} {F:List D->Option D} {y:Str} {fa:Addr} (T:Top q loose mean mg mb h) (e:recsOf q=ze4 p ix) (i:Nat) (x:Str) (hi:ix.contains i=true) (hn:zhr (stAt p i)=some x) (hfa:mg x=some (.ref fa))
  (hb:∀ (kV doc pm:Value) (an:Option Addr) (cdv ct v:Value),bindArgs (PySem.W.fnOf x x (zcf (stAt p i)) (zbo (stAt p i)) (zam (stAt p i)) .none kV doc pm an cdv ct) ⟨[v],[]⟩=pure [(y,v)])
  (ok:∀ (base:Heap) {f:Addr} {fd:FuncData},Fun (whole h) x x (stAt p i) f fd->FnOk P w (whole h) mg base CX0 k f fd [y] (spD (whole h) 1 F)) :
  ∃ fd:FuncData,(∀ (s:Shared) (v:Value),BindsTo s fd ⟨[v],[]⟩ [(y,v)])/\∀ base:Heap,FnOk P w (whole h) mg base CX0 k fa fd [y] (spD (whole h) 1 F):=by
 obtain ⟨f,fd,m,FU⟩:=zjf T e i x hi hn
 cases hfa.symm.trans m
 exact ⟨fd,zjg FU hb,fun base=>ok base FU⟩
def zfq:D->Bool
 | .str x=>decide (x.length<=1000)
 | .int i=>decide (0<=i) && decide (i < 10 ^ 10)
 | .none=>true
 | _=>false
def zfr (nm:Str) (ds:List D):Option (List D):=match zcB nm with
 | []=>(match ds with | [.str _]=>some [] | _=>none)
 | f :: fs=>if ds.length=(f :: fs).length/\ds.all zfq=true then some ds else none
abbrev exD (nm:Str) (ds:List D):D:=.dict [(.none,.tuple [.str nm,.list ds])]
section
variable {K:PySem.W.Frag} {G H H':Hp} {nm:Str} {C a:Addr} {bm:List Value} {vs:List V} {ds fs:List D} {dd:Option Addr}
theorem znN {v:V} {d:D} (r:Rep K G v d) (h:zfq d=true):∃ y,FmtV v y/\y.length<=4000:=by
 cases r with
 | non=>exact ⟨_,.non,by decide⟩
 | bl b=>cases h
 | int i =>
  unfold zfq at h
  simp only [Bool.and_eq_true,decide_eq_true_eq] at h
  have h64:i.natAbs < 2 ^ 64:=by have:=h.2;have:=h.1;omega
  refine ⟨_,.int i ?_,Nat.le_trans (toString_length_le h.1 (by decide:0 < 10) h.2) (by decide)⟩
  by_cases z:i.natAbs=0
  ·rw [z];decide
  ·have:=(Nat.log2_lt z).mpr h64
   omega
 | str x =>
  unfold zfq at h
  have h:=of_decide_eq_true h
  exact ⟨x,.str x (Nat.le_trans h (by decide)),Nat.le_trans h (by decide)⟩
 | lst _ _=>cases h
 | tup _ _=>cases h
 | dic _=>cases h
 | exc _ _ _ _=>cases h
 | dct _ _ _ _ _=>cases h
 | dtt _ _ _ _=>cases h
theorem zji:∀ {vs:List V} {ds:List D},Reps K G vs ds->ds.all zfq=true->∀ u ∈ vs,∃ y,FmtV u y/\y.length<=4000
 | _,_,.nil,_,u,hu=>by cases hu
 | _,_,.cons r t,h,u,hu=>by
  rw [List.all_cons,Bool.and_eq_true] at h
  rcases List.mem_cons.mp hu with rfl | hu
  ·exact znN r h.1
  ·exact zji t h.2 u hu
theorem zkG (r:Reps K G vs ds) (e:zfr nm ds=some fs):znm nm vs:=by
 unfold zfr at e
 split at e
 ·rename_i hf
  split at e
  ·obtain ⟨v,rfl,q⟩:=r.one_inv
   exact .inl ⟨hf,_,by rw [q.str_inv]⟩
  ·cases e
 ·rename_i f l hf
  split at e
  ·rename_i c
   refine .inr ⟨by rw [hf];simp,by rw [r.length,hf];exact c.1,zji r c.2⟩
  ·cases e
theorem zl7 (c:ClsK K nm C bm) (s:Same G H) (ha:H a=none) (r:Reps K G vs ds) (e:zfr nm ds=some fs) (p:znn nm C a vs (upd H a (.ext (XO true a C none))) dd H') :
  ∃ G',Ext G H G' (upd H' a (.ext (XO false a C dd)))/\Rep K G' (.ref a) (exD nm fs)/\H' a=some (.ext (XO true a C dd)):=by
 unfold zfr at e
 rcases p with ⟨hf,rfl,rfl⟩ | ⟨hf,hl,dx,rfl,hd,hne,rfl⟩
 ·rw [hf] at e
  dsimp only at e
  split at e
  ·cases e
   refine ⟨upd G a (.ext (XO false a C none)),?_,.exc (vs:=[]) c zat ⟨hf,rfl⟩ .nil,zat⟩
   rw [zic]
   exact Ext.new s ha
  ·cases e
 ·split at e
  ·rename_i hf';exact absurd hf' hf
  ·rename_i f l hf'
   split at e
   ·cases e
    have hd':H dx=none:=by rw [zaw hne] at hd;exact hd
    have eH:upd (upd (upd (upd H a (.ext (XO true a C none))) a (.ext (XO true a C (some dx)))) dx (.ext (XD dx ((zcB nm).zip vs)))) a (.ext (XO false a C (some dx)))=upd (upd H a (.ext (XO false a C (some dx)))) dx (.ext (XD dx ((zcB nm).zip vs))):=by
     funext b
     by_cases h1:b=a
     ·subst h1;rw [zat,zaw (Ne.symm hne),zat]
     ·rw [zaw h1]
      by_cases h2:b=dx
      ·subst h2;rw [zat,zat]
      ·rw [zaw h2,zaw h1,zaw h1,zaw h2,zaw h1]
    have x1:Ext G H (upd G a (.ext (XO false a C (some dx)))) (upd H a (.ext (XO false a C (some dx)))):=Ext.new s ha
    have hd2:upd H a (.ext (XO false a C (some dx))) dx=none:=by rw [zaw hne];exact hd'
    have x2:=x1.trans (Ext.new (o:=.ext (XD dx ((zcB nm).zip vs))) x1.gh hd2)
    exact ⟨_,by rw [eH];exact x2,.exc (dd:=some dx) (vs:=vs) c (by rw [zaw (Ne.symm hne)];exact zat) ⟨hl.symm,zat⟩ (r.mono x2.g),by rw [zaw (Ne.symm hne)];exact zat⟩
   ·cases e
end
def zbL (nm:Str) (g:M (List D)):SM:=sB g fun ds ρ=>match zfr nm ds with | some fs=>.ex ρ (exD nm fs) | none=>.bad
section
variable {X:Cx} {B G0:Hp} {KX:XW} {e a b c:Expr} {pos p2 cpos:Pos} {es:List Expr} {st:Stmt} {sts:List Stmt} {nm x:Str} {k kk n:Nat}
theorem zcc {g:M (List D)} (mk:MkX X.prog X.w X.K X.mg X.base nm k) (hr:Room kk X.A) (hc:X.calm=true) (hw:zeN X KX) (hg:Gl X nm) (ha:PA X (e :: es) (tDs X.K B G0 g)) (hk:k+1<=kk:=by decide)
  (hdb:(nm == ("__debug__" : Str))=false:=by decide) (he:starEach (e :: es) X.env=(false,eval e X.env) :: starEach es X.env:=by rfl) (hpl:(backTo cpos (starEach es X.env)).any (·.1)=false:=by rfl) :
  PS X (.Raise (some (.Call (.Name nm p2) (e :: es) [] cpos)) none pos) (tS X.K B G0 KX (zbL nm g)):=PS.kin fun kin=>by
 obtain ⟨C,bm,f,fd,ps,sp,hm,hkp,ck,xc,F,hb,hsp⟩:=mk
 refine psof (zkf (KC:=fun C'=>C'=C) hc (fun C' z=>by subst z;exact ⟨bm,f,xc _ _ kin⟩) hw (zke (xc _ _ kin) F (hr.mono hk) hg hm hkp hb ha hdb he hpl)) fun Dn σ H q=>?_
 refine tS.bnd (R:=Reps X.K) q fun vs H1 G1 ρ1 ds k1 r a=>?_
 cases z:zfr nm ds with
 | none=>rw [z] at a;exact a.elim
 | some fs =>
  rw [z] at a
  have ar:=zkG r z
  refine ⟨?_,fun ad had=>hsp ad vs _ _ zat ar fun dd H' p=>⟨rfl,?_⟩⟩
  ·rcases ar with ⟨_,x,rfl⟩ | ⟨_,hl,_⟩
   ·exact (show 1<=sizeLine by decide)
   ·rw [hl]
    unfold zcB
    split
    ·decide
    ·split
     ·decide
     ·split <;> decide
  ·obtain ⟨G',ex,rp,hx⟩:=zl7 ck k1.gh had r z p
   exact ⟨ad,C,dd,rfl,rfl,hx,a (.ref ad) σ G' _ (k1.ext ex) ex.g rp⟩
inductive XR where
 | val (d:D) | exc (d:D)
def spX (K:PySem.W.Frag) (n:Nat) (F:List D->Option XR):Sp:=fun vs H Q E=>∃ G ds r,vs.length=n/\Same G H/\Reps K G vs ds/\F ds=some r/\match r with
 | .val d=>∀ v G' H',Ext G H G' H'->Rep K G' v d->Q v H'
 | .exc d=>∀ ad G' H',Ext G H G' H'->Rep K G' (.ref ad) d->E (.ref ad) none H'
def DefX (P:Program) (w:World) (K:PySem.W.Frag) (mg:Str->Option Value) (base:Heap) (x:Str) (k n:Nat) (F:List D->Option XR):Prop :=
 ∃ (f:Addr) (fd:FuncData) (ps:List Str),mg x=some (.ref f)/\PySem.W.keepIn K (.ref f)=true/\zcU K fd ps []/\FnOk P w K mg base (CX1 P w) k f fd ps (spX K n F)
def aftX (K:PySem.W.Frag) (B G0:Hp) (KX:XW) (r:Res XR) (G:Hp) (σ : St) (Q:VK):Prop:=match r with
 | .ok (.val d) ρ=>∀ v G' H',EOk K B G0 G' H' σ ρ -> Same G G'->Rep K G' v d->Q v H'
 | .ok (.exc d) ρ=>∀ v G' H',EOk K B G0 G' H' σ ρ -> Same G G'->Rep K G' v d->KX v σ H'
 | .bad=>False
def tX (K:PySem.W.Frag) (B G0:Hp) (KX:XW) (f:M XR):TE:=fun σ H Q=>∃ G ρ,EOk K B G0 G H σ ρ /\ aftX K B G0 KX (f ρ) G σ Q
def zeB (n:Nat) (F:List D->Option XR) (g:M (List D)):M XR:=zas g fun xs=>if xs.length=n then mOpt (F xs) else fun _=>.bad
theorem zc7 {F:List D->Option XR} {g:M (List D)} (d:DefX X.prog X.w X.K X.mg X.base x k n F) (hr:Room kk X.A) (hw:zeN X KX) (hg:Gl X x) (ha:PA X (e :: es) (tDs X.K B G0 g)) (hk:k<=kk:=by decide) (hn:(e :: es).length=n:=by rfl)
  (hdb:(x == ("__debug__" : Str))=false:=by decide) (he:starEach (e :: es) X.env=(false,eval e X.env) :: starEach es X.env:=by rfl) (hpl:(backTo pos (starEach es X.env)).any (·.1)=false:=by rfl) :
  PE X (.Call (.Name x p2) (e :: es) [] pos) (tX X.K B G0 KX (zeB n F g)):=by
 obtain ⟨f,fd,ps,h1,h2,h3,h4⟩:=d
 refine peof (zkh h4 (hr.mono hk) hg h1 h2 h3 hw ha hdb he hpl) fun σ H Q ⟨G,ρ,k0,a⟩=>?_
 refine ⟨G,ρ,k0,?_⟩
 unfold zeB zas at a
 cases z:g ρ with
 | bad=>rw [z] at a;exact a.elim
 | ok xs ρ1 =>
  rw [z] at a
  dsimp only at a
  intro vs G1 H1 k1 s1 r
  by_cases hl:xs.length=n
  ·rw [if_pos hl] at a
   cases zF:F xs with
   | none=>rw [zF] at a;exact a.elim
   | some rr =>
    rw [zF] at a
    refine ⟨G1,xs,rr,by rw [r.length];exact hl,k1.gh,r,zF,?_⟩
    cases rr with
    | val d=>exact fun v G' H' ex rv=>a v G' H' (k1.ext ex) (s1.trans ex.g) rv
    | exc d =>
     intro ad' G' H' ex rv ad ev
     cases ev
     exact a _ G' H' (k1.ext ex) (s1.trans ex.g) rv
  ·rw [if_neg hl] at a;exact a.elim
def sX (f:M XR) (g:D->SM):SM:=fun ρ=>match f ρ with
 | .ok (.val d) ρ'=>g d ρ'
 | .ok (.exc d) ρ'=>.ex ρ' d
 | .bad=>.bad
theorem tS.bndX {K:PySem.W.Frag} {f:M XR} {g:D->SM} {Dn:Ends} {σ : St} {H:Hp} {P:V->Hp->Prop} (q:tS K B G0 KX (sX f g) Dn σ H)
  (i:∀ v H' G' ρ' x,EOk K B G0 G' H' σ ρ'->Rep K G' v x->aftS K B G0 KX (g x ρ') G' Dn->P v H'):tX K B G0 KX f σ H P:=by
 obtain ⟨G,ρ,k,a⟩:=q
 refine ⟨G,ρ,k,?_⟩
 unfold sX at a
 cases z:f ρ with
 | bad=>rw [z] at a;exact a.elim
 | ok r ρ1 =>
  rw [z] at a
  cases r with
  | val d=>exact fun v G' H' e s r=>i v H' G' ρ1 d e r (aftS.mono s a)
  | exc d=>exact fun v G' H' e s r=>a v σ G' H' e s r
theorem zdy {f:M XR} (h:PE X e (tX X.K B G0 KX f)) (hs:swapsWith e none pos.line X.env=pure false:=by rfl):PS X (.Expr e pos) (tS X.K B G0 KX (sX f fun _ ρ=>.nx ρ)):=psof (zef h hs) fun D σ H q=>tS.bndX q fun v H' G' ρ' x k r a=>a σ G' H' k (.refl _)
def runX (N:List Str) (g:SM) (ds:List D):Option XR:=match g (zch N ds) with
 | .rt d=>some (.val d)
 | .nx _=>some (.val .none)
 | .ex _ d=>if zgJ d=true then some (.exc d) else none
 | _=>none
abbrev kxE (E:XK):XW:=fun v _ H=>∃ e,v=.ref e/\E (.ref e) none H
theorem okX {P:Program} {w:World} {K:PySem.W.Frag} {mg:Str->Option Value} {base:Heap} {x qual:Str} {st:Stmt} {f:Addr} {fd:FuncData} {N ps:List Str} {k n:Nat} {g:SM} (F:Fun K x qual st f fd) (S:zdI N ps (zam st)) (hn:ps.length=n)
  (der:∀ (cdv:Value) (A:Around) (outer:List Env) (s:Shared) (H:Hp) (E:XK) (B G0:Hp),Room k (A.deeper (envOfC qual (zam st) s.heap.objs.size f cdv)) ->
   PSs (cxOf (CX1 P w) P w K mg base N qual (zam st) f cdv A outer s H E) (zbo st) (tS K B G0 (kxE E) g)):FnOk P w K mg base (CX1 P w) (k+1) f fd ps (spX K n (runX N g)):=by
 obtain ⟨oc,od,kV,doc,pm,an,cdv,ct,osl,rfl,lk,hcd⟩:=F.ex
 refine zm9 lk hcd S (fun vs H Q E h=>?_) fun A outer s H vs Q E hr h=>?_
 ·obtain ⟨_,_,_,hl,_⟩:=h
  rw [hl,hn]
 ·obtain ⟨G,ds,r,hl,sg,rp,hF,q⟩:=h
  refine ⟨_,der cdv A outer s H E H G hr,G,zch N ds,zhk sg rp,?_⟩
  unfold runX at hF
  cases z:g (zch N ds) with
  | rt d' =>
   rw [z] at hF
   cases hF
   exact fun v G' H' ex rr=>q v G' H' ex rr
  | nx ρ =>
   rw [z] at hF
   cases hF
   exact fun σ' G' H' k' _=>q .non G' H' k'.exit .non
  | ex ρ d =>
   rw [z] at hF
   dsimp only at hF
   split at hF
   ·rename_i hx
    cases hF
    intro v σ' G' H' k' _ rv
    obtain ⟨ad,rfl⟩:∃ ad,v=.ref ad:=by
     cases rv with
     | exc _ _ _ _=>exact ⟨_,rfl⟩
     | dct _ _ _ _ _=>exact ⟨_,rfl⟩
     | dtt _ _ _ _=>exact ⟨_,rfl⟩
     | _=>cases hx
    exact ⟨ad,rfl,q ad G' H' k'.exit rv⟩
   ·cases hF
  | bk ρ=>rw [z] at hF;cases hF
  | ct ρ=>rw [z] at hF;cases hF
  | bad=>rw [z] at hF;cases hF
end
section
variable {K:PySem.W.Frag} {B G0 G H:Hp} {σ : St} {ρ : DEnv}
theorem EOk.unset {i:Nat} (k:EOk K B G0 G H σ ρ):EOk K B G0 G H (σ.set i none) (ρ.set i none) where
 bh:=k.bh
 gh:=k.gh
 g0:=k.g0
 np:=k.np
 len:=by rw [List.length_set,List.length_set];exact k.len
 pub:=fun j d' q=>by
  by_cases z:i=j
  ·subst z
   have:=zba q
   cases this
  ·rw [List.getElem?_set_ne z] at q ⊢
   exact k.pub j d' q
 own:=fun j ds q=>by
  by_cases z:i=j
  ·subst z
   have:=zba q
   cases this
  ·rw [List.getElem?_set_ne z] at q ⊢
   exact k.own j ds q
 sep:=fun j l c es fs q1 q2 s1 s2=>by
  have z1:i ≠ j:=fun z=>by subst z;have:=zba q1;cases this
  have z2:i ≠ l:=fun z=>by subst z;have:=zba q2;cases this
  rw [List.getElem?_set_ne z1] at q1 s1
  rw [List.getElem?_set_ne z2] at q2 s2
  exact k.sep j l c es fs q1 q2 s1 s2
end
def CK (K:PySem.W.Frag) (mg:Str->Option Value) (x:Str):Prop:=∃ D bm,mg x=some (.ref D)/\ClsK K x D bm
def zgc (x:Str):D->Bool
 | .dict [(.none,.tuple [.str nm,_])]=>decide (x=nm) || decide (x = "DealError")
 | _=>false
def sTry (i:Nat) (x:Str) (g h:SM):SM:=fun ρ=>match g ρ with
 | .ex ρ1 d=>if zgc x d=true/\i < ρ1.length then (match h (ρ1.set i (some (.pub d))) with
  | .nx ρ2=>.nx (ρ2.set i none)
  | .bk ρ2=>.bk (ρ2.set i none)
  | .ct ρ2=>.ct (ρ2.set i none)
  | .rt d2=>.rt d2
  | _=>.bad) else .bad
 | o=>o
section
variable {X:Cx} {B G0:Hp} {KX:XW} {e a b c:Expr} {pos p2 cpos np hpos:Pos} {es:List Expr} {x n:Str} {k kk:Nat}
theorem zjj {K:PySem.W.Frag} {G:Hp} {v:V} {d:D} {D':Addr} {bmD:List Value} (r:Rep K G v d) (h:zgc x d=true) (cD:ClsK K x D' bmD) :
  ∃ a C dd bm,v=.ref a/\KC K C bm/\G a=some (.ext (XO false a C dd))/\(Value.ref C :: bm).contains (.ref D')=true:=by
 unfold zgc at h
 split at h
 ·obtain ⟨a,C,dd,bm,nm',vs,ds,rfl,e0,c,hx,_,_⟩:=r.exc_inv
  cases e0
  exact ⟨a,C,dd,bm,rfl,⟨_,c⟩,hx,by rw [c.has cD];exact h⟩
 ·cases h
theorem zle {i:Nat} {g h:SM} {body suite:List Stmt} {b₀ : Stmt} {st:List Env} (cD:CK X.K X.mg x) (hg:Gl X x) (hN:X.N.Nodup) (hi:X.N[i]?=some n) (hl:X.env.kindOf n=some .local)
  (hb:∀ (KX':XW) (W:Value->Shared->Prop) (pn:List (Addr × Obj)),zeN (X.tried W pn) KX'->PSs (X.tried W pn) body (tS X.K B G0 KX' g)) (hs:∀ a,PSs (X.suite a) (b₀ :: suite) (tS X.K B G0 KX0 h))
  (hstk:X.stack=X.env :: st:=by rfl) (hfr:X.env.frame=some X.env.locals:=by rfl) (hdb:(x == ("__debug__" : Str))=false:=by decide) :
  PS X (.Try body [.ExceptHandler (some (.Name x np)) (some n) (b₀ :: suite) hpos] [] [] pos) (tS X.K B G0 KX (sTry i x g h)):=PS.kin fun kin=>by
 obtain ⟨D',bmD,hm,ck⟩:=cD
 obtain ⟨fD,xD⟩:=ck.cls (model X.prog X.w) X.base kin
 refine psof (znj (KC:=KC X.K) (tb:=fun KX'=>tS X.K B G0 KX' g) (ts:=tS X.K B G0 KX0 h) hstk hfr (zfh kin) xD hg hm hN hi hl hb hs hdb) fun Dn σ H ⟨G,ρ,k,a⟩=>?_
 refine ⟨G,ρ,k,?_⟩
 unfold sTry at a
 cases z:g ρ with
 | nx ρ1=>rw [z] at a;exact a
 | rt d=>rw [z] at a;exact a
 | bk ρ1=>rw [z] at a;exact a
 | ct ρ1=>rw [z] at a;exact a
 | bad=>rw [z] at a;exact a.elim
 | ex ρ1 d =>
  rw [z] at a
  dsimp only at a
  intro v σ1 G1 H1 k1 s1 r
  by_cases hc:zgc x d=true/\i < ρ1.length
  ·rw [if_pos hc] at a
   obtain ⟨ad,C,dd,bm,rfl,kc,hx,hct⟩:=zjj r hc.1 ck
   refine ⟨ad,C,dd,bm,rfl,kc,k1.gh _ _ hx,hct,G1,_,k1.setPub r hc.2,?_⟩
   cases z2:h (ρ1.set i (some (.pub d))) with
   | nx ρ2=>rw [z2] at a;exact fun σ2 G2 H2 k2 s2=>a _ G2 H2 k2.unset (s1.trans s2)
   | bk ρ2=>rw [z2] at a;exact fun σ2 G2 H2 k2 s2=>a _ G2 H2 k2.unset (s1.trans s2)
   | ct ρ2=>rw [z2] at a;exact fun σ2 G2 H2 k2 s2=>a _ G2 H2 k2.unset (s1.trans s2)
   | rt d2=>rw [z2] at a;exact a
   | ex _ _=>rw [z2] at a;exact a.elim
   | bad=>rw [z2] at a;exact a.elim
  ·rw [if_neg hc] at a;exact a.elim
def oIsX (x:Str):D->Option D
 | .dict [(.none,.tuple [.str nm,_])]=>some (.bool (decide (x=nm) || decide (x = "DealError")))
 | _=>none
theorem zl8 {f:M D} {p3:Pos} (cD:CK X.K X.mg x) (hg:Gl X "isinstance") (hm:X.mg "isinstance" = none) (hg2:Gl X x) (ha:PE X e (tD X.K B G0 f)) (hdb:(x == ("__debug__" : Str))=false:=by decide)
  (hs:starEach [e,.Name x p3] X.env=(false,eval e X.env) :: starEach [.Name x p3] X.env:=by rfl)
  (hs2:starEach [.Name x p3] X.env=[(false,eval (.Name x p3) X.env)]:=by rfl) :
  PE X (.Call (.Name "isinstance" p2) [e,.Name x p3] [] pos) (tD X.K B G0 (zas f fun d=>mOpt (oIsX x d))):=PE.kin fun kin=>by
 obtain ⟨D',bmD,hm2,ck⟩:=cD
 refine peof (zc6 (zff (zfh kin)) hg hm zb7 (zbw ha (zbw (zgy (v:=.ref D') hg2 hm2 rfl hdb) zcT (by rw [hs2];rfl)) hs) (by decide) (by decide) hs (by rw [hs2];rfl)) fun σ H Q q=>?_
 refine tM.one (R:=Rep X.K) q fun v H2 G ρ d k r a=>?_
 obtain ⟨d',e',a'⟩:=aft.opt a
 unfold oIsX at e'
 split at e'
 ·obtain ⟨ad,C,dd,bm,nm',vs,ds,rfl,e0,c,hx,_,_⟩:=r.exc_inv
  cases e0
  cases e'
  exact ⟨ad,C,dd,bm,false,.ref D',_,rfl,⟨_,c⟩,k.gh _ _ hx,.inl ⟨D',bmD,rfl,⟨_,ck⟩,c.has ck⟩,a'.now k (.bl _)⟩
 ·cases e'
def oIsV:D->Option D
 | .dict [(.none,_)]=>some (.bool true)
 | _=>none
theorem zl9:bootBuiltins "ValueError" = some (.type "ValueError"):=by decide +kernel
theorem zma {f:M D} {p3:Pos} (hg:Gl X "isinstance") (hm:X.mg "isinstance" = none) (hg2:Gl X "ValueError") (hm2:X.mg "ValueError" = none) (ha:PE X e (tD X.K B G0 f))
  (hs:starEach [e,.Name "ValueError" p3] X.env=(false,eval e X.env) :: starEach [.Name "ValueError" p3] X.env:=by rfl)
  (hs2:starEach [.Name "ValueError" p3] X.env=[(false,eval (.Name "ValueError" p3) X.env)]:=by rfl) :
  PE X (.Call (.Name "isinstance" p2) [e,.Name "ValueError" p3] [] pos) (tD X.K B G0 (zas f fun d=>mOpt (oIsV d))):=PE.kin fun kin=>by
 refine peof (zc6 (zff (zfh kin)) hg hm zb7 (zbw ha (zbw (zie (v:=.ty "ValueError") hg2 hm2 zl9 rfl (by decide) (by decide)) zcT (by rw [hs2];rfl)) hs) (by decide) (by decide) hs (by rw [hs2];rfl)) fun σ H Q q=>?_
 refine tM.one (R:=Rep X.K) q fun v H2 G ρ d k r a=>?_
 obtain ⟨d',e',a'⟩:=aft.opt a
 unfold oIsV at e'
 split at e'
 ·obtain ⟨ad,C,dd,bm,nm',vs,ds,rfl,e0,c,hx,_,_⟩:=r.exc_inv
  cases e0
  cases e'
  exact ⟨ad,C,dd,bm,false,.ty "ValueError", true,rfl,⟨_,c⟩,k.gh _ _ hx,.inr ⟨"ValueError", rfl,ziB,by rw [c.ty];rfl⟩,a'.now k (.bl _)⟩
 ·cases e'
def oFld (f:Str):D->Option D
 | .dict [(.none,.tuple [.str nm,.list ds])]=>((zcB nm).zip ds).lookup f
 | _=>none
theorem ze5 {K:PySem.W.Frag} {G:Hp} {f:Str}:∀ {fs:List Str} {vs:List V} {ds:List D} {d:D},Reps K G vs ds->(fs.zip ds).lookup f=some d->f ∈ fs/\∃ v,(fs.zip vs).lookup f=some v/\Rep K G v d
 | [],vs,ds,d,_,e=>by simp at e
 | g :: fs,_,_,d,.nil,e=>by simp at e
 | g :: fs,_,_,d,@Reps.cons _ _ v d0 vs ds r t,e=>by
  rw [List.zip_cons_cons,List.lookup_cons] at e
  rw [List.zip_cons_cons,List.lookup_cons]
  cases z:f == g with
  | true =>
   rw [z] at e
   cases e
   exact ⟨by rw [beq_iff_eq.mp z];exact List.mem_cons_self,v,rfl,r⟩
  | false =>
   rw [z] at e
   obtain ⟨h1,h2⟩:=ze5 t e
   exact ⟨List.mem_cons_of_mem _ h1,h2⟩
theorem zkH {f:M D} {fl:Str} (he:PE X e (tD X.K B G0 f)) (hb:attributeBase e fl X.env (eval e X.env)=eval e X.env:=by rfl) (hq:fl ∈ (["part", "number", "row"]:List Str):=by decide) :
  PE X (.Attribute e fl pos) (tD X.K B G0 (zas f fun d=>mOpt (oFld fl d))):=PE.kin fun kin=>by
 refine peof (zlG (zfh kin) (fun C bm ⟨nm,c⟩=>c.fld _ _ kin fl hq) he hb) fun σ H Q q=>?_
 refine tM.one (R:=Rep X.K) q fun v H2 G ρ d k r a=>?_
 obtain ⟨d',e',a'⟩:=aft.opt a
 unfold oFld at e'
 split at e'
 ·obtain ⟨ad,C,dd,bm,nm',vs,ds,rfl,rfl',c,hx,hd,rr⟩:=r.exc_inv
  cases rfl'
  obtain ⟨hm,w,e1,rw⟩:=ze5 rr e'
  cases dd with
  | none=>rw [hd.1] at hm;cases hm
  | some dx=>exact ⟨ad,C,bm,dx,_,w,false,rfl,⟨_,c⟩,k.gh _ _ hx,k.gh _ _ hd.2,e1,a'.now k rw⟩
 ·cases e'
end
def zkI (o:Expr) (name:Str) (apos:Pos) (args:List Expr) (pos:Pos):Prop:=∀ env:Env,∃ pl:Sem Bool,eval (.Call (.Attribute o name apos) args [] pos) env=(do
   let ov ← eval o env
   standAt apos.atName
   let (f,first) ← holding [ov] (getMethod ov name pl)
   callWith pos f first (backTo pos (starEach args env)) (backToKw pos (keywordEach [] env)))
section
variable {P:Program} {w:World} {K:PySem.W.Frag} {mg:Str->Option Value} {base:Heap} {st:Stmt} {f f0 D:Addr} {fd fd0:FuncData} {q:Str} {p1 p2 p3 p4 p5 p6 p7 p8 p9 r1 r2 r3 r4 r5 r6 r7 r8 r9 q1 q2:Pos} {j1 j2:Nat}
theorem zmb (F:Fun K "__init__" q st f fd) (hn:FnNm (zam st) ["self", "text"] ["ValueError"]) (hm:mg "ValueError" = none)
  (hb:zbo st=[.Expr (.Call (.Attribute (.Name "ValueError" p1) "__init__" p2) [.Name "self" p3,.Name "text" p4] [] p5) p6])
  (ht:zkI (.Name "ValueError" p1) "__init__" p2 [.Name "self" p3,.Name "text" p4] p5) :
  FnOk P w K mg base CX0 1 f fd ["self", "text"] (zdJ (KC K)):=by
 refine F.ok (fq hn 2) (fun vs H Q E ⟨a,C,dd,bm,x,e,_⟩=>by rw [e];rfl) fun cdv A outer s H vs Q E hr ⟨a,C,dd,bm,x,e,kc,hx,hq⟩=>?_
 subst e
 rw [hb]
 obtain ⟨pl,ht⟩:=ht (cxOf CX0 P w K mg base ["self", "text"] q (zam st) f cdv A outer s H E).nox.env
 refine ⟨zj1 (zla (KC K) (zgA (tVar 0) (zgA (tVar 1) tNil))),PSs.kin fun kin=>zfc (zef (zki (pl:=pl) (zfh kin) (gq hn 0) hm (zbw (pq hn 0) (zbw (pq hn 1) zcT)) (ht:=ht))),?_⟩
 exact ⟨_,rfl,_,rfl,a,C,dd,bm,_,rfl,kc,hx,hq⟩
theorem zbk (x y:Str):(x ++ y).length=x.length+y.length:=by
 show (x.cps ++ y.cps).size=x.cps.size+y.cps.size
 exact Array.size_append
theorem zmc {t1 t2:Str} (M:ziC K D "__init__" f0) (F0:FnOk P w K mg base CX0 1 f0 fd0 ["self", "text"] (zdJ (KC K))) (hb0:zcU K fd0 ["self", "text"] []) (hm:mg "DealError" = some (.ref D))
  (F:Fun K "__init__" q st f fd) (hn:FnNm (zam st) ["self", "part", "number"] ["DealError"])
  (hb:zbo st=[.Expr (.Call (.Attribute (.Name "DealError" p1) "__init__" p2) [.Name "self" p3,.JoinedStr [.Constant (.str t1) j1 p4,.FormattedValue (.Name "part" p5) (-1) none p6,.Constant (.str t2) j2 p7,.FormattedValue (.Name "number" p8) (-1) none p9] r1] [] r2) r3,
   .Assign [.Attribute (.Name "self" r4) "part" r5] (.Name "part" r6) r7,.Assign [.Attribute (.Name "self" r8) "number" r9] (.Name "number" q1) q2])
  (ht:zkI (.Name "DealError" p1) "__init__" p2 [.Name "self" p3,.JoinedStr [.Constant (.str t1) j1 p4,.FormattedValue (.Name "part" p5) (-1) none p6,.Constant (.str t2) j2 p7,.FormattedValue (.Name "number" p8) (-1) none p9] r1] r2)
  (hl1:t1.length<=1000) (hl2:t2.length<=1000) :
  FnOk P w K mg base CX0 2 f fd ["self", "part", "number"] (zfg (KC K) ["part", "number"]):=by
 refine F.ok (fq hn 3) (fun vs H Q E ⟨a,C,bm,us,e,hl,_⟩=>by rw [e,List.length_cons,hl];rfl) fun cdv A outer s H vs Q E hr ⟨a,C,bm,us,e,hl,kc,hx,hf,hq⟩=>?_
 subst e
 match us,hl with
 | [u1,u2],_ =>
 rw [hb]
 obtain ⟨pl,ht⟩:=ht (cxOf CX0 P w K mg base ["self", "part", "number"] q (zam st) f cdv A outer s H E).nox.env
 obtain ⟨y1,f1,g1⟩:=hf u1 (by simp)
 obtain ⟨y2,f2,g2⟩:=hf u2 (by simp)
 refine ⟨tSeq (zj1 (zj7 (zdJ (KC K)) [] E0 (zgA (tVar 0) (zgA (ziD [tC (.str t1),tFmt (tVar 1),tC (.str t2),tFmt (tVar 2)] Str.empty) tNil)))) (tSeq (zkj (KC K) (tVar 0) (tVar 1) "part") (zkj (KC K) (tVar 0) (tVar 2) "number")),
  PSs.kin fun kin=>zd8 (zef (zhg (pl:=pl) M F0 hr hb0 (gq hn 0) hm (zbw (pq hn 0) (zbw (zfQ (.cons zg7 (.cons (ziE (pq hn 1)) (.cons zg7 (.cons (ziE (pq hn 2)) .nil))))) zcT)) (ht:=ht)))
   (zd8 (zgH (zfh kin) (fun C bm ⟨nm,c⟩=>c.fld _ _ kin "part" (by decide)) (pq hn 0) (pq hn 1) rfl) (zfc (zgH (zfh kin) (fun C bm ⟨nm,c⟩=>c.fld _ _ kin "number" (by decide)) (pq hn 0) (pq hn 2) rfl))),?_⟩
 have e0:(Str.empty:Str).length=0:=rfl
 have lz:(10000:Nat)<=sizeLine:=by decide
 refine ⟨_,rfl,t1,rfl,by rw [zbk];omega,_,rfl,y1,f1,_,rfl,by rw [zbk,zbk];omega,t2,rfl,by rw [zbk,zbk,zbk];omega,_,rfl,y2,f2,_,rfl,by rw [zbk,zbk,zbk,zbk];omega,by rw [zbk,zbk,zbk,zbk];omega,?_⟩
 refine ⟨a,C,none,bm,_,rfl,kc,hx,?_⟩
 refine ⟨_,rfl,_,rfl,a,C,bm,rfl,kc,.inl ⟨hx,fun dx hd hne=>?_⟩⟩
 refine ⟨_,rfl,_,rfl,a,C,bm,rfl,kc,.inr ⟨dx,_,hne,by rw [zaw (Ne.symm hne)];exact zat,zat,(show 1 < 900 by decide),?_⟩⟩
 rw [zic]
 exact hq dx hd hne
theorem zmd {t1 g:Str} (M:ziC K D "__init__" f0) (F0:FnOk P w K mg base CX0 1 f0 fd0 ["self", "text"] (zdJ (KC K))) (hb0:zcU K fd0 ["self", "text"] []) (hm:mg "DealError" = some (.ref D))
  (F:Fun K "__init__" q st f fd) (hn:FnNm (zam st) ["self", g] ["DealError"]) (hg:g ∈ (["part", "number", "row"]:List Str)) (hd1:(g == ("__debug__" : Str))=false:=by decide) (hd2:(g == ("__classdict__" : Str))=false:=by decide)
  (hb:zbo st=[.Expr (.Call (.Attribute (.Name "DealError" p1) "__init__" p2) [.Name "self" p3,.JoinedStr [.Constant (.str t1) j1 p4,.FormattedValue (.Name g p5) (-1) none p6] r1] [] r2) r3,
   .Assign [.Attribute (.Name "self" r4) g r5] (.Name g r6) r7])
  (ht:zkI (.Name "DealError" p1) "__init__" p2 [.Name "self" p3,.JoinedStr [.Constant (.str t1) j1 p4,.FormattedValue (.Name g p5) (-1) none p6] r1] r2)
  (hl1:t1.length<=1000) :
  FnOk P w K mg base CX0 2 f fd ["self", g] (zfg (KC K) [g]):=by
 refine F.ok (fq hn 2) (fun vs H Q E ⟨a,C,bm,us,e,hl,_⟩=>by rw [e,List.length_cons,hl];rfl) fun cdv A outer s H vs Q E hr ⟨a,C,bm,us,e,hl,kc,hx,hf,hq⟩=>?_
 subst e
 match us,hl with
 | [u1],_ =>
 rw [hb]
 obtain ⟨pl,ht⟩:=ht (cxOf CX0 P w K mg base ["self", g] q (zam st) f cdv A outer s H E).nox.env
 obtain ⟨y1,f1,g1⟩:=hf u1 (by simp)
 have v1:∀ {pos:Pos},PE (cxOf CX0 P w K mg base ["self", g] q (zam st) f cdv A outer s H E).nox (.Name g pos) (tVar 1):=pq hn 1 rfl hd1 hd2
 refine ⟨tSeq (zj1 (zj7 (zdJ (KC K)) [] E0 (zgA (tVar 0) (zgA (ziD [tC (.str t1),tFmt (tVar 1)] Str.empty) tNil)))) (zkj (KC K) (tVar 0) (tVar 1) g),
  PSs.kin fun kin=>zd8 (zef (zhg (pl:=pl) M F0 hr hb0 (gq hn 0) hm (zbw (pq hn 0) (zbw (zfQ (.cons zg7 (.cons (ziE v1) .nil))) zcT)) (ht:=ht)))
   (zfc (zgH (zfh kin) (fun C bm ⟨nm,c⟩=>c.fld _ _ kin g hg) (pq hn 0) v1 rfl)),?_⟩
 have e0:(Str.empty:Str).length=0:=rfl
 have lz:(10000:Nat)<=sizeLine:=by decide
 refine ⟨_,rfl,t1,rfl,by rw [zbk];omega,_,rfl,y1,f1,_,rfl,by rw [zbk,zbk];omega,by rw [zbk,zbk];omega,?_⟩
 refine ⟨a,C,none,bm,_,rfl,kc,hx,?_⟩
 exact ⟨_,rfl,_,rfl,a,C,bm,rfl,kc,.inl ⟨hx,fun dx hd hne=>hq dx hd hne⟩⟩
end
structure XSt (h:Heap) (nm:Str) (own:Option Stmt) (C N:Addr) (bm:List Value) (mN:Str->Option Value):Prop where
 ad:h.nsMap mainGlobals nm=some (.ref C)
 obj:∃ q bs sn sub ab col dd k0 k1 k2 k3 k5,h.get? C=some (excClassObj nm q C N bs bm true sn sub ab col dd k0 k1 k2 k3 k5 "ValueError.__new__")
 ns:h.Ns N mN
 quiet:∀ x ∈ zh9,mN x=none
 up:nm = "DealError" /\ bm=VB ∨ nm ≠ "DealError" /\ ∃ D,h.nsMap mainGlobals "DealError" = some (.ref D)/\bm=.ref D :: VB
 init:match own with
  | none=>mN "__init__" = none
  | some st=>∃ f o pm cd doc,mN "__init__" = some (.ref f)/\h.get? f=some o/\o.cls=.type "function" /\ o.data=.func (methDef "__init__" (zfD nm) (zcf st) (zbo st) (zam st) pm cd doc)/\h.CodeRec cd (zfD nm)
section
variable {h h':Heap} {nm:Str} {own:Option Stmt} {C N:Addr} {bm:List Value} {mN:Str->Option Value}
theorem zeC {a:Addr} {x:Str} {v:Value} (e:h.nsMap a x=some v) (k:∀ b o,h.get? b=some o->h'.get? b=some o):h'.nsMap a x=some v:=by
 unfold Heap.nsMap at e ⊢
 cases z:h.get? a with
 | none=>rw [z] at e;cases e
 | some o=>rw [k _ _ z];rw [z] at e;exact e
theorem XSt.keeps (x:XSt h nm own C N bm mN) (k:∀ b o,h.get? b=some o->h'.get? b=some o):XSt h' nm own C N bm mN where
 ad:=zeC x.ad k
 obj:=let ⟨q,bs,sn,sub,ab,col,dd,k0,k1,k2,k3,k5,e⟩:=x.obj;⟨q,bs,sn,sub,ab,col,dd,k0,k1,k2,k3,k5,k _ _ e⟩
 ns:=x.ns.keeps k
 quiet:=x.quiet
 up:=x.up.imp id fun ⟨a,D,b,c⟩=>⟨a,D,zeC b k,c⟩
 init:=by
  have z:=x.init
  cases own with
  | none=>exact z
  | some st =>
   obtain ⟨f,o,pm,cd,doc,h1,h2,h3,h4,h5⟩:=z
   exact ⟨f,o,pm,cd,doc,h1,k _ _ h2,h3,h4,h5.keeps k⟩
theorem dA (st:Stmt):zmD st=zcf st:=by cases st <;> rfl
theorem dB (st:Stmt):zmE st=zbo st:=by cases st <;> rfl
theorem dS (st:Stmt):zk1 st=zam st:=by cases st <;> rfl
structure XYP (p:Program) (l:XL0) (h:Heap):Prop where
 st:∃ mc,h.Ns cStatics mc/\mc "thirdparty.any" = none
 cl:∀ c ∈ l,∃ C N bm mN,XSt h c.1 (c.2.map fun i=>zce (stAt p i)) C N bm mN
theorem XYP.keeps {p:Program} {l:XL0} (x:XYP p l h) (k:∀ b o,h.get? b=some o->h'.get? b=some o):XYP p l h' :=
 ⟨let ⟨mc,a,b⟩:=x.st;⟨mc,a.keeps k,b⟩,fun c hc=>let ⟨C,N,bm,mN,z⟩:=x.cl c hc;⟨C,N,bm,mN,z.keeps k⟩⟩
theorem znO {st:Stmt} {n:Bool} (b:xB h nm n=true) (hown:own=none->n=false) (hs:∀ st,own=some st->xSh h nm=some (true,shOf nm st)):∃ C N bm mN,XSt h nm own C N bm mN:=by
 unfold xB at b
 split at b
 ·rename_i C hC
  split at b
  ·rename_i t dd cd sl ho
   simp only [Bool.and_eq_true,Bool.not_eq_true',beq_iff_eq,Bool.or_eq_true,List.all_eq_true,Option.isNone_iff_eq_none] at b
   obtain ⟨⟨⟨⟨⟨⟨⟨⟨b1,b2⟩,b3⟩,b4⟩,b5⟩,b6⟩,b7⟩,b8⟩,b9⟩:=b
   obtain ⟨cn,cb,cm,cns,cq,chd,csn,csub,cab,ccol,cdel⟩:=cd
   simp only at b2 b3 b4 b6 b7 b8 b9
   subst b1 b2 b3 b4
   split at b5
   ·rename_i k0 k1 k2 k3 k4 k5 hsl
    have b5:=of_decide_eq_true b5
    subst b5
    have hsl':sl = #[k0,k1,k2,k3,some (.builtin "ValueError.__new__"),k5]:=by
     rw [← Array.toList_inj,hsl]
    subst hsl'
    have key:∃ bm,cm=.ref C :: bm/\(cn = "DealError" /\ bm=VB ∨ cn ≠ "DealError" /\ ∃ D,h.nsMap mainGlobals "DealError" = some (.ref D)/\bm=.ref D :: VB):=by
     split at b9
     ·rename_i e
      exact ⟨VB,of_decide_eq_true b9,.inl ⟨e,rfl⟩⟩
     ·rename_i e
      split at b9
      ·rename_i D hD
       exact ⟨.ref D :: VB,of_decide_eq_true b9,.inr ⟨e,D,hD,rfl⟩⟩
      ·cases b9
    obtain ⟨bm,rfl,up⟩:=key
    refine ⟨C,cns,bm,h.nsMap cns,hC,⟨_,_,_,_,_,_,_,_,_,_,_,_,ho⟩,.of_isNs b6,b7,up,?_⟩
    cases own with
    | none =>
     rcases b8 with b8 | b8
     ·rw [hown rfl] at b8;cases b8
     ·exact b8
    | some st =>
     have e:=hs st rfl
     unfold xSh at e
     rw [hC] at e
     dsimp only at e
     rw [ho] at e
     dsimp only at e
     split at e
     ·rename_i a o fd sh hf hsh
      simp only [Option.some.injEq,Prod.mk.injEq,decide_eq_true_eq] at e
      obtain ⟨e1,rfl⟩:=e
      obtain ⟨g1,g2,g3⟩:=Heap.fnAt_spec hf
      unfold Heap.shapeAt at hsh
      rw [hf] at hsh
      obtain ⟨n,q,ps,b,sc,g,cl,df,kd,doc,pm,an,code,ct,bi⟩:=fd
      simp only [Option.map_some,shOf,dA,dB,dS,Option.some.injEq,FnShape.mk.injEq] at hsh
      obtain ⟨rfl,rfl,rfl,rfl,rfl,rfl,rfl,rfl,rfl,rfl,rfl,rfl,hc⟩:=hsh
      exact ⟨a,o,pm,code,doc,g1,g2,e1,g3,.of_ok hc⟩
     ·cases e
   ·cases b5
  ·cases b
 ·cases b
theorem znP {p:Program} {l:XL0} {s:Shared} (e:xSeen l s=xGood p l):XYP p l s.heap:=by
 unfold xSeen xGood at e
 obtain ⟨e1,e2⟩:=Prod.mk.inj e
 obtain ⟨e1,e3⟩:=Bool.and_eq_true_iff.mp e1
 refine ⟨⟨_,.of_isNs e1,Option.isNone_iff_eq_none.mp e3⟩,fun c hc=>?_⟩
 have q:=List.map_inj_left.mp e2 c hc
 obtain ⟨q1,q2⟩:=Prod.mk.inj q
 refine znO (st:=.Pass ⟨0,0,0,0⟩) q1 (fun z=>?_) fun st z=>?_
 ·cases hz:c.2 with
  | none=>rfl
  | some i=>rw [hz] at z;cases z
 ·cases hz:c.2 with
  | none=>rw [hz] at z;cases z
  | some i =>
   rw [hz] at z q2
   cases z
   exact q2
end
theorem zlf:mroOf (.type "ValueError")=pure VB:=by kernel_rfl
theorem zoP:typeLookup (.type "ValueError") "__setattr__" = pure (some (.builtin "object.__setattr__")):=by kernel_rfl
theorem zoQ:typeLookup (.type "ValueError") "__getattribute__" = pure (some (.builtin "BaseException.__getattribute__")):=by kernel_rfl
theorem zoR:typeLookup (.type "ValueError") "__getattr__" = pure none:=by kernel_rfl
theorem zoS:typeLookup (.type "ValueError") "__class__" = pure (some (.builtin "object.__class__")):=by kernel_rfl
theorem zme:typeLookup (.type "ValueError") "part" = pure none:=by kernel_rfl
theorem zjk:typeLookup (.type "ValueError") "number" = pure none:=by kernel_rfl
theorem znQ:typeLookup (.type "ValueError") "row" = pure none:=by kernel_rfl
theorem zjl (v:Value):refuseLoop v "__setattr__" VB=pure ():=by kernel_rfl
section
variable {h h':Heap} {nm:Str} {own ownD:Option Stmt} {C N D ND:Addr} {bm:List Value} {mN mD:Str->Option Value} {M:Model}
theorem XSt.along (x:XSt h nm own C N bm mN) (xD:XSt h "DealError" ownD D ND VB mD) {y:Str} {r:Option Value} (hy:y ∈ zh9) (hB:typeLookup (.type "ValueError") y=pure r):zbp M C y r h:=by
 obtain ⟨q,bs,sn,sub,ab,col,dd,k0,k1,k2,k3,k5,e⟩:=x.obj
 obtain ⟨q',bs',sn',sub',ab',col',dd',k0',k1',k2',k3',k5',e'⟩:=xD.obj
 refine zbp.of e (zdg.miss e x.ns (x.quiet y hy) ?_)
 rcases x.up with ⟨_,rfl⟩ | ⟨_,D',hD',rfl⟩
 ·exact zdg.base zlf hB
 ·have:=hD'.symm.trans xD.ad
  cases this
  exact zdg.miss e' xD.ns (xD.quiet y hy) (zdg.base zlf hB)
theorem XSt.tail (x:XSt h nm own C N bm mN):Tail VB bm:=by
 rcases x.up with ⟨_,rfl⟩ | ⟨_,D',_,rfl⟩
 ·exact Tail.base
 ·exact Tail.own Tail.base
def zkJ (h:Heap) (own ownD:Option Stmt) (mN mD:Str->Option Value) (nm:Str) (f:Addr):Prop:=match own with
 | some _=>mN "__init__" = some (.ref f)
 | none=>mD "__init__" = some (.ref f)
theorem XSt.xcls (x:XSt h nm own C N bm mN) {std:Stmt} (xD:XSt h "DealError" (some std) D ND VB mD) {f:Addr} (hf:zkJ h own (some std) mN mD nm f):XCls M h C bm f:=by
 have hD:=xD.init
 obtain ⟨fD,oD,pmD,cdD,docD,g1,g2,g3,g4,g5⟩:=hD
 obtain ⟨q,bs,sn,sub,ab,col,dd,k0,k1,k2,k3,k5,e⟩:=id x.obj
 obtain ⟨q',bs',sn',sub',ab',col',dd',k0',k1',k2',k3',k5',e'⟩:=id xD.obj
 have fin:zbp M C "__init__" (some (.ref f)) h/\∃ o,h.get? f=some o/\o.cls=.type "function" := by
  have z:=x.init
  unfold zkJ at hf
  cases own with
  | some st =>
   obtain ⟨f',o,pm,cd,doc,h1,h2,h3,h4,h5⟩:=z
   have hf:mN "__init__" = some (.ref f):=hf
   rw [h1] at hf
   cases hf
   exact ⟨zbp.of e (zdg.hit e x.ns h1),o,h2,h3⟩
  | none =>
   have hf:mD "__init__" = some (.ref f):=hf
   have z:mN "__init__" = none:=z
   rw [g1] at hf
   cases hf
   refine ⟨zbp.of e (zdg.miss e x.ns z ?_),oD,g2,g3⟩
   rcases x.up with ⟨hn,rfl⟩ | ⟨_,D',hD',rfl⟩
   ·subst hn
    have:=x.ad.symm.trans xD.ad
    cases this
    rw [e] at e'
    cases e'
    have:=x.ns.eq_nsMap.trans xD.ns.eq_nsMap.symm
    rw [this] at z
    rw [g1] at z
    cases z
   ·have:=hD'.symm.trans xD.ad
    cases this
    exact zdg.hit e' xD.ns g1
 refine ⟨⟨nm,q,N,bs,sn,sub,ab,col,dd,k0,k1,k2,k3,k5,e⟩,x.tail,fin.1,fin.2,x.along xD (by decide) zoP,x.along xD (by decide) zoQ,x.along xD (by decide) zoR,x.along xD (by decide) zoS,fun v=>?_⟩
 rcases x.up with ⟨_,rfl⟩ | ⟨_,D',_,rfl⟩
 ·exact zjl v
 ·rw [refuseLoop_ref];exact zjl v
theorem zb3 (k:(whole h).In h'):∀ b o,h.get? b=some o->h'.get? b=some o:=fun b o e=>k b o (by rw [zaO];exact e)
theorem zdR {mA:Str->Option Value} {a:Addr} (n:h.Ns a mA) (y:Str):PySem.W.nsIn (whole h) a y=some (mA y):=by
 obtain ⟨⟨oc,od,dt,os⟩,es,ep,ho,hd,hk,hf⟩:=n
 have hd:dt=_:=hd
 subst hd
 unfold PySem.W.nsIn
 rw [zaO,ho]
 dsimp only
 have:=hf y
 unfold nsFind findBy at this
 rw [← Array.find?_toList] at this
 dsimp only at this
 rw [← this]
 cases z:es.toList.find? (·.key.isStr y) with
 | some e=>rfl
 | none =>
  dsimp only
  rw [if_neg]
  ·rfl
  ·rw [List.any_eq_true]
   rintro ⟨e,he,hr⟩
   obtain ⟨n,t,hk⟩:=hk e (Array.mem_toList_iff.mp he)
   unfold DictEntry.refKey at hr
   rw [hk] at hr
   cases hr
theorem XSt.nmd (x:XSt h nm own C N bm mN):NmAt (whole h) nm C:=by
 obtain ⟨q,bs,sn,sub,ab,col,dd,k0,k1,k2,k3,k5,e⟩:=x.obj
 exact ⟨_,_,by rw [zaO];exact e,rfl,rfl⟩
theorem zeD {mg:Str->Option Value} (n:h.Ns mainGlobals mg) (e:h.nsMap mainGlobals nm=some (.ref C)):zkk (whole h) nm=some C:=by
 unfold zkk
 rw [zdR n,n.eq_nsMap,e]
theorem XSt.clsK {mg:Str->Option Value} (n:h.Ns mainGlobals mg) (x:XSt h nm own C N bm mN) {std:Stmt} (xD:XSt h "DealError" (some std) D ND VB mD) {f:Addr} (hf:zkJ h own (some std) mN mD nm f):ClsK (whole h) nm C bm where
 ad:=zeD n x.ad
 nmd:=x.nmd
 up:=x.up.imp id fun ⟨a,D',b,c⟩=>⟨a,D',zeD n b,c,by
  have:=b.symm.trans xD.ad
  cases this
  exact xD.nmd⟩
 cls:=fun M h' k=>⟨f,(x.keeps (zb3 k)).xcls (xD.keeps (zb3 k)) (by
  unfold zkJ at hf ⊢
  cases own <;> exact hf)⟩
 fld:=fun M h' k y hy=>by
  have z:=x.keeps (zb3 k)
  have zD:=xD.keeps (zb3 k)
  simp only [List.mem_cons,List.not_mem_nil,or_false] at hy
  rcases hy with rfl | rfl | rfl
  ·exact z.along zD (by decide) zme
  ·exact z.along zD (by decide) zjk
  ·exact z.along zD (by decide) znQ
theorem XSt.keep (x:XSt h nm own C N bm mN):PySem.W.keepIn (whole h) (.ref C)=true:=by
 obtain ⟨q,bs,sn,sub,ab,col,dd,k0,k1,k2,k3,k5,e⟩:=x.obj
 unfold PySem.W.keepIn
 dsimp only
 rw [zaO,e]
 dsimp only
 unfold PySem.W.specialIn PySem.W.typeIn
 dsimp only
 rw [zaO,e]
 kernel_rfl
theorem XSt.fun {st:Stmt} (x:XSt h nm (some st) C N bm mN):∃ f fd,mN "__init__" = some (.ref f)/\Fun (whole h) "__init__" (zfD nm) st f fd:=by
 obtain ⟨f,⟨oc,od,dt,osl⟩,pm,cd,doc,h1,h2,h3,h4,h5⟩:=x.init
 have h4:dt=_:=h4
 subst h4
 refine ⟨f,_,h1,⟨⟨oc,od,.none,doc,pm,_,cd,_,osl,rfl,by rw [zaO];exact h2,?_⟩,?_⟩⟩
 ·obtain ⟨c,⟨_,_,dc,_⟩,vs,t,rfl,g1,g2,g3⟩:=h5
  have g2:dc=_:=g2
  subst g2
  unfold PySem.W.codeIn
  dsimp only
  rw [zaO,g1]
  dsimp only
  have g4:vs.toList[1]?=some (.str (zfD nm) t):=by rw [Array.getElem?_toList];exact g3
  cases hv:vs.toList with
  | nil=>rw [hv] at g4;cases g4
  | cons v0 r =>
   rw [hv] at g4
   cases r with
   | nil=>cases g4
   | cons v1 r=>cases g4;exact beq_self_eq_true _
 ·unfold PySem.W.keepIn
  dsimp only
  rw [zaO,h2]
theorem tf1 {K:PySem.W.Frag}:PySem.W.findIn K (.type "type") "__init__" = some (some (.builtin "type.__init__")):=by kernel_rfl
theorem tf2 {K:PySem.W.Frag}:PySem.W.specialIn K (.builtin "type.__init__") "__get__" = some (some (.builtin "wrapper_descriptor.__get__")):=by kernel_rfl
theorem tf3 {K:PySem.W.Frag}:PySem.W.takesIn K (.builtin "type.__init__")=some false:=by kernel_rfl
theorem tf4 {K:PySem.W.Frag}:PySem.W.findIn K (.type "type") "__getattribute__" = some (some (.builtin "type.__getattribute__")):=by kernel_rfl
theorem tf5 {K:PySem.W.Frag}:PySem.W.subIn K (.type "type") (.type "type")=some true:=by kernel_rfl
theorem XSt.clsFn {st:Stmt} (x:XSt h "DealError" (some st) D ND VB mD) (hs:∃ mc,h.Ns cStatics mc/\mc "thirdparty.any" = none) {f:Addr} (hf:mD "__init__" = some (.ref f)):ziC (whole h) D "__init__" f:=by
 obtain ⟨f',o,pm,cd,doc,h1,h2,h3,h4,h5⟩:=x.init
 rw [h1] at hf
 cases hf
 obtain ⟨q,bs,sn,sub,ab,col,dd,k0,k1,k2,k3,k5,e⟩:=x.obj
 obtain ⟨mc,hc1,hc2⟩:=hs
 have tD:PySem.W.typeIn (whole h) (.ref D)=some (.type "type"):=by
  unfold PySem.W.typeIn
  dsimp only
  rw [zaO,e]
  rfl
 have tf:PySem.W.typeIn (whole h) (.ref f)=some (.type "function"):=by
  unfold PySem.W.typeIn
  dsimp only
  rw [zaO,h2]
  exact congrArg some h3
 refine ⟨?_,?_,?_,?_⟩
 ·unfold PySem.W.specialIn
  rw [tD]
  exact tf4 (K:=whole h)
 ·unfold PySem.W.readsIn
  rw [zdR hc1,hc2,tD,tf4,tf5]
  rfl
 ·unfold PySem.W.findCls
  rw [tf1]
  dsimp only [Option.bind_some]
  rw [tf2]
  dsimp only [Option.bind_some]
  rw [tf3]
  dsimp only [Option.bind_some]
  have hfi:PySem.W.findIn (whole h) (.ref D) "__init__" = some (some (.ref f)):=by
   unfold PySem.W.findIn
   dsimp only
   rw [zaO,e]
   dsimp only
   unfold PySem.W.alongIn PySem.W.ownIn
   dsimp only
   rw [zaO,e]
   dsimp only
   rw [zdR x.ns,h1]
  rw [hfi]
  dsimp only [Option.bind_some]
  rw [if_neg (show ¬ Builtin.heldUnderItsOwnName "__init__" (.ref f)=true from fun z=>by cases z),tf]
  rfl
 ·unfold PySem.W.keepIn
  dsimp only
  rw [zaO,h2]
  obtain ⟨oc,od,dt,osl⟩:=o
  have h4:dt=_:=h4
  subst h4
  rfl
end
section
variable {h:Heap} {mg:Str->Option Value} {p:Program} {l:XL0} {i j:Nat} {c:Str × Option Nat} {p1 p2 p3 p4 p5 p6 p7 p8 p9 r1 r2 r3 r4 r5 r6 r7 r8 r9 q1 q2:Pos} {j1 j2:Nat}
structure Root (p:Program) (h:Heap) (mg:Str->Option Value) (i:Nat) (D f:Addr) (fd:FuncData):Prop where
 at':mg "DealError" = some (.ref D)
 ex:∃ ND mD,XSt h "DealError" (some (zce (stAt p i))) D ND VB mD/\mD "__init__" = some (.ref f)
 cf:ziC (whole h) D "__init__" f
 bd:zcU (whole h) fd ["self", "text"] []
 ok:∀ (P:Program) (w:World) (base:Heap),FnOk P w (whole h) mg base CX0 1 f fd ["self", "text"] (zdJ (KC (whole h)))
theorem XSt.root {own:Option Stmt} {C N:Addr} {bm:List Value} {mN:Str->Option Value} (x:XSt h "DealError" own C N bm mN):bm=VB:=by
 rcases x.up with ⟨_,rfl⟩ | ⟨z,_⟩
 ·rfl
 ·exact absurd rfl z
theorem zmf (n:h.Ns mainGlobals mg) (Y:XYP p l h) (hD:(((("DealError" : Str),some i):Str × Option Nat) ∈ l)) (hm:mg "ValueError" = none) (hn:FnNm (zam (zce (stAt p i))) ["self", "text"] ["ValueError"])
  (hb:zbo (zce (stAt p i))=[.Expr (.Call (.Attribute (.Name "ValueError" p1) "__init__" p2) [.Name "self" p3,.Name "text" p4] [] p5) p6])
  (ht:zkI (.Name "ValueError" p1) "__init__" p2 [.Name "self" p3,.Name "text" p4] p5)
  (hbz:∀ (kV doc pm:Value) (an:Option Addr) (cdv ct:Value) (us:List Value),us.length=(["self", "text"]:List Str).length->bindArgs (PySem.W.fnOf "__init__" (zfD "DealError") (zcf (zce (stAt p i))) (zbo (zce (stAt p i))) (zam (zce (stAt p i))) .none kV doc pm an cdv ct) ⟨us,[]⟩=pure ((["self", "text"]:List Str).zip us)) :
  ∃ D f fd,Root p h mg i D f fd:=by
 obtain ⟨D,ND,bm,mD,x⟩:=Y.cl _ hD
 have:=x.root
 subst this
 obtain ⟨f,fd,hf,FU⟩:=XSt.fun (st:=zce (stAt p i)) x
 exact ⟨D,f,fd,by rw [n.eq_nsMap];exact x.ad,⟨ND,mD,x,hf⟩,XSt.clsFn (st:=zce (stAt p i)) x Y.st hf,FU.binds hbz,fun P w base=>zmb FU hn hm hb ht⟩
theorem zmg (n:h.Ns mainGlobals mg) (Y:XYP p l h) {D f:Addr} {fd:FuncData} (R:Root p h mg i D f fd) (hc:c ∈ l):CK (whole h) mg c.1:=by
 obtain ⟨C,N,bm,mN,x⟩:=Y.cl _ hc
 obtain ⟨ND,mD,xD,hf⟩:=R.ex
 cases hz:c.2 with
 | none =>
  rw [hz] at x
  exact ⟨C,bm,by rw [n.eq_nsMap];exact x.ad,XSt.clsK n x xD (f:=f) hf⟩
 | some k =>
  rw [hz] at x
  obtain ⟨f',o,pm,cd,doc,h1,h2⟩:=x.init
  exact ⟨C,bm,by rw [n.eq_nsMap];exact x.ad,XSt.clsK n x xD (f:=f') h1⟩
theorem zlg (n:h.Ns mainGlobals mg) (Y:XYP p l h) {D f:Addr} {fd:FuncData} (R:Root p h mg i D f fd) {nm:Str} (hc:(nm,some j) ∈ l) (hf:zcB nm ≠ []) {ps:List Str} (P:Program) (w:World) (base:Heap)
  (hbz:∀ (kV doc pm:Value) (an:Option Addr) (cdv ct:Value) (us:List Value),us.length=ps.length->bindArgs (PySem.W.fnOf "__init__" (zfD nm) (zcf (zce (stAt p j))) (zbo (zce (stAt p j))) (zam (zce (stAt p j))) .none kV doc pm an cdv ct) ⟨us,[]⟩=pure (ps.zip us))
  (ok:∀ {f':Addr} {fd':FuncData},Fun (whole h) "__init__" (zfD nm) (zce (stAt p j)) f' fd'->FnOk P w (whole h) mg base CX0 2 f' fd' ps (zfg (KC (whole h)) (zcB nm))):MkX P w (whole h) mg base nm 2:=by
 obtain ⟨C,N,bm,mN,x⟩:=Y.cl _ hc
 obtain ⟨ND,mD,xD,hi⟩:=R.ex
 obtain ⟨f',fd',hf',FU⟩:=XSt.fun (st:=zce (stAt p j)) x
 have ck:=XSt.clsK n x xD (f:=f') hf'
 exact ⟨C,bm,f',fd',_,_,by rw [n.eq_nsMap];exact x.ad,x.keep,ck,fun M h' k=>(x.keeps (zb3 k)).xcls (xD.keeps (zb3 k)) hf',ok FU,FU.binds hbz,zkl ck hf⟩
end
theorem zgd {q p:Program} {loose:List Str} {mean:ExcName->Option Value} {mg mb:Str->Option Value} {h:Heap} {ix:List Nat} (P:Program) (w:World) (base:Heap) {ps:List Str} {k n:Nat} {F:List D->Option XR} (T:Top q loose mean mg mb h) (e:recsOf q=ze4 p ix) (i:Nat) (x:Str) (hi:ix.contains i=true) (hn:zhr (stAt p i)=some x)
  (ok:∀ {f:Addr} {fd:FuncData},Fun (whole h) x x (stAt p i) f fd->FnOk P w (whole h) mg base (CX1 P w) k f fd ps (spX (whole h) n F))
  (hb:∀ (kV doc pm:Value) (an:Option Addr) (cdv ct:Value) (us:List Value),us.length=ps.length->bindArgs (PySem.W.fnOf x x (zcf (stAt p i)) (zbo (stAt p i)) (zam (stAt p i)) .none kV doc pm an cdv ct) ⟨us,[]⟩=pure (ps.zip us)):DefX P w (whole h) mg base x k n F:=by
 obtain ⟨f,fd,m,FU⟩:=zjf T e i x hi hn
 exact ⟨f,fd,ps,m,FU.kp,FU.binds hb,ok FU⟩
theorem zjm {l:PySem.W.OpenLaw} {n k:Nat} {q:Program} {loose:List Str} {XP:(Str->Option Value)->Heap->Prop} {YP:World->Heap->Prop} {d:DefRec} {F:List D->Option D} {x:Str}
  (hn:l.most=some n) (hn2:n<=sizeLine) (hdf:d.params.defaults=[]) (hr:Room k callerA)
  (hF:∀ (w:World) (s₀ : Shared) (mg mb:Str->Option Value) (fa:Addr) (h:Heap),PySem.W.Ground q loose [] XP w s₀ mg mb h->YP w h->mg d.name=some (.ref fa) ->
   ∃ fd:FuncData,(∀ (s:Shared) (u:Value),BindsTo s fd ⟨[u],[]⟩ [(x,u)])/\∀ base:Heap,FnOk l.prog w (whole h) mg base CX0 k fa fd [x] (spD (whole h) 1 F))
  (hl:∀ ns:List Int,ns.length<=n->F [.list (ns.map PyData.int)]=some (.bool true)) :
  PySem.W.WalkO q loose XP YP l.row.toRowW d [] (fun f vs=>PySem.call f vs):=by
 refine Att.attach_call hn hdf fun w s₀ s₁ mg mb fa o pm cd doc a vs ns G Y ho hd hcd hmg hobj hints hlen hg=>?_
 obtain ⟨fd,hb,hF⟩:=hF w s₀ mg mb fa _ G Y hmg
 exact zka (zkE _) G.T.g G.T.b G.T.builtins G.T.nolimit hg hobj hints (Nat.le_trans hlen hn2) hr (fun base _ _=>hF base) hb (fun H hO hS=>znA hS (hl ns hlen)) fun H e s' z=>z
section
variable {α β : Type} {ρ ρ1 ρ2 ρ3 ρ':DEnv} {f:M D} {s t:SM} {Q:Out->Prop} {d:D} {ds fs:List D} {nm x:Str} {o:Out}
theorem zbE {g:M (List D)} (h1:g ρ = .ok ds ρ1) (h2:zfr nm ds=some fs):zbL nm g ρ = .ex ρ1 (exD nm fs):=by unfold zbL sB;rw [h1];dsimp only;rw [h2]
theorem zh1 {f:M XR} {g:D->SM} (h1:f ρ = .ok (.val d) ρ1) (h2:g d ρ1=o):sX f g ρ = o:=by unfold sX;rw [h1];exact h2
theorem zjn {f:M XR} {g:D->SM} (h1:f ρ = .ok (.exc d) ρ1):sX f g ρ = .ex ρ1 d:=by unfold sX;rw [h1]
theorem zcm {n:Nat} {F:List D->Option XR} {g:M (List D)} {xs:List D} {r:XR} (h1:g ρ = .ok xs ρ1) (h2:xs.length=n) (h3:F xs=some r):zeB n F g ρ = .ok r ρ1:=by
 unfold zeB;exact zaA h1 (by rw [if_pos h2];exact zby h3)
theorem zjo {i:Nat} (h1:s ρ = .nx ρ1):sTry i x s t ρ = .nx ρ1:=by unfold sTry;rw [h1]
theorem zjp {i:Nat} (h1:s ρ = .ex ρ1 d) (h2:zgc x d=true) (h3:i < ρ1.length) (h4:t (ρ1.set i (some (.pub d)))=.nx ρ2) (h5 : ρ2.set i none = ρ'):sTry i x s t ρ = .nx ρ':=by
 unfold sTry;rw [h1];dsimp only;rw [if_pos ⟨h2,h3⟩,h4,← h5]
theorem zcu {c:String} {t:Bool} (h:f ρ = .ok d ρ1) (ht:isTy d c=t):mMap (fun d=>PyData.bool (isTy d c)) f ρ = .ok (PyData.bool t) ρ1:=by subst ht;exact zaU (k:=fun d=>PyData.bool (isTy d c)) h
theorem zjq {c:String} {kvs:List (D × D)} (h:f ρ = .ok (.dict kvs) ρ1) (hc:(("dict" == c) || ("" == c))=false:=by decide):mMap (fun d=>PyData.bool (isTy d c)) f ρ = .ok (PyData.bool false) ρ1:=zcu h (nty hc)
theorem zb8 {c:String} {kvs:List (D × D)} (h:f ρ = .ok (.dict kvs) ρ1) (hc:(("dict" == c) || ("" == c))=false:=by decide):mNot (zaT (mMap (fun d=>.bool (isTy d c)) f)) ρ = .ok true ρ1:=zaC h (by rw [nty hc];rfl)
def OutX (r:XR):Out->Prop
 | .rt d=>r=.val d
 | .nx _=>r=.val .none
 | .ex _ d=>r=.exc d/\zgJ d=true
 | _=>False
theorem zjr {N:List Str} {r:XR} (h0:zch N ds = ρ) (h:Ho s ρ (OutX r)):runX N s ds=some r:=by
 subst h0
 have h:=h.out
 unfold runX
 cases z:s (zch N ds) with
 | rt d=>rw [z] at h;rw [show r=.val d from h]
 | nx ρ'=>rw [z] at h;rw [show r=.val .none from h]
 | ex ρ' d=>rw [z] at h;dsimp only;rw [if_pos h.2,h.1]
 | bk ρ'=>rw [z] at h;exact h.elim
 | ct ρ'=>rw [z] at h;exact h.elim
 | bad=>rw [z] at h;exact h.elim
def fb (p:D->Bool):Nat->List D->Option Nat
 | _,[]=>none
 | k,x :: r=>if p x=true then fb p (k+1) r else some k
def zoT:Out->Prop
 | .rt _=>True
 | .ex _ _=>True
 | _=>False
structure fbQ (p:D->Bool) (xs:List D) (I:DEnv->Prop) (Q:Out->Prop) (x:D) (j:Nat) (o:Out):Prop where
 out:(p x=true/\∃ ρ2,o=.nx ρ2/\I ρ2) ∨ (p x=false/\zoT o/\(fb p 0 xs=some j->Q o))
theorem znR {p:D->Bool} {xs:List D} {I:DEnv->Prop} {x:D} {j:Nat} (hp:p x=true) (h:I ρ):fbQ p xs I Q x j (.nx ρ):=⟨.inl ⟨hp,ρ,rfl,h⟩⟩
theorem znS {p:D->Bool} {xs:List D} {I:DEnv->Prop} {x:D} {j:Nat} (hp:p x=false) (h:fb p 0 xs=some j->Q (.ex ρ d)):fbQ p xs I Q x j (.ex ρ d):=⟨.inr ⟨hp,trivial,h⟩⟩
theorem zhs {f:M (List D)} {sg:D->DEnv->Option DEnv} {xs:List D} (p:D->Bool) (I:DEnv->Prop) (h1:f ρ = .ok (zdr 0 xs) ρ1) (h0:I ρ1)
  (hst:∀ x ∈ xs,∀ (j:Nat) ρ,j < xs.length->I ρ -> ∃ ρ1,sg (.tuple [.int j,x]) ρ = some ρ1/\Ho s ρ1 (fbQ p xs I Q x j))
  (hend:fb p 0 xs=none->∀ ρ,I ρ -> Q (.nx ρ)):Ho (sFor f sg s) ρ Q:=by
 constructor;unfold sFor sB;rw [h1];dsimp only
 have key:∀ (ys:List D) (k:Nat) (ρ : DEnv),I ρ -> (∀ x ∈ ys,x ∈ xs)->k+ys.length<=xs.length->fb p k ys=fb p 0 xs->Q (zeQ sg s (zdr k ys) ρ):=by
  intro ys
  induction ys with
  | nil=>intro k ρ hi _ _ he;exact hend he.symm ρ hi
  | cons x r ih =>
   intro k ρ hi hm hl he
   rw [List.length_cons] at hl
   obtain ⟨ρ2,e2,a1⟩:=hst x (hm x List.mem_cons_self) k ρ (by omega) hi
   rw [zdr,zeQ,e2]
   dsimp only
   rw [fb] at he
   rcases a1.out.out with ⟨hp,ρ3,e3,i3⟩ | ⟨hp,b1,b2⟩
   ·rw [hp,if_pos rfl] at he
    rw [e3]
    exact ih (k+1) ρ3 i3 (fun y hy=>hm y (List.mem_cons_of_mem _ hy)) (by omega) he
   ·rw [hp,if_neg (by decide)] at he
    have b2:=b2 he.symm
    cases z:s ρ2 with
    | rt d=>rw [z] at b2;exact b2
    | ex ρ' d=>rw [z] at b2;exact b2
    | nx ρ'=>rw [z] at b1;exact b1.elim
    | bk ρ'=>rw [z] at b1;exact b1.elim
    | ct ρ'=>rw [z] at b1;exact b1.elim
    | bad=>rw [z] at b1;exact b1.elim
 exact key xs 0 ρ1 h0 (fun _ h=>h) (by omega) rfl
end
section
variable {X:Cx} {B G0:Hp} {KX:XW} {e o a b c:Expr} {pos p2:Pos} {es rest:List Expr}
def zjs:List D->Option D
 | [.list xs]=>some (.tuple xs)
 | [.tuple xs]=>some (.tuple xs)
 | _=>none
theorem znT:zfU X (.type "tuple") zjs:=by
 refine ⟨_,zfe,fun vs G H ds d Q s r e k=>?_⟩
 unfold zjs at e
 split at e
 ·cases e
  obtain ⟨v,rfl,q⟩:=r.one_inv
  obtain ⟨l,ws,rfl,h1,r1⟩:=q.lst_inv
  exact ⟨l,ws,rfl,.inl ⟨s.seq h1,fun p hp=>k _ _ _ (Ext.new s hp) (.tup (SqT.of zat) (r1.mono (zaN (s.free hp))))⟩⟩
 ·cases e
  obtain ⟨v,rfl,q⟩:=r.one_inv
  obtain ⟨l,ws,rfl,h1,r1⟩:=q.tup_inv
  exact ⟨l,ws,rfl,.inr ⟨zdh s h1,k _ G H (.refl s) (.tup h1 r1)⟩⟩
 ·cases e
end
end DL
namespace L2
open PySem PySem.Spec PyProof.Rows
def znU (trs:Addr->List (TE × TE)):TE:=fun σ H Q=>∀ p,H p=none->zhe (trs p) σ (upd H p (.dK [])) fun ps H2=>H2 p=some (.dK [])/\∃ kvs:List (Key × V),ps=kvs.map (fun kv=>(kV kv.1,kv.2))/\kvs.length<=15/\Q (.ref p) (upd H2 p (.dK (zdX [] kvs)))
theorem zkK {X:Cx} {pos:Pos} {keys:List (Option Expr)} {values:List Expr} {trs:Addr->List (TE × TE)} (h:∀ p,PPs X pos keys values (trs p)) (hall:keys.all (·.isSome)=true) (hl:keys.length=values.length) (h0:keys ≠ [])
  (h15:keys.length<=15):PE X (.Dict keys values pos) (znU trs):=by
 intro pins s σ H Q I q
 have hn:=I.hok.fresh (Nat.le_refl s.heap.objs.size)
 have I1:=I.laid (a:=s.heap.objs.size) (o:=.dK []) (h':=s.heap.push { cls:=.type "dict", data:=.dict #[] }) (t':=s.toks) (fun _ _ q=>Heap.get?_push_of_some _ q) (Nat.le_refl _) (zkb s.heap I.big)
 refine wpAny_Dict_walk (knd:=zbS X.prog X.w) hall hl h0 h15 (thn (h _ pins _ σ _ _ I1 (q _ hn)) fun ws s2 ⟨ps,H2,I2,rel,e,kvs,ep,lk,q2⟩=>?_)
 subst ep
 obtain ⟨rs,c,rk⟩:=zeX (P:=X.prog) (w:=X.w) rel
 obtain ⟨z,hd,vs0,r0,dd⟩:=zox I2.hok e
 cases r0
 refine ⟨rs,c,dd,fun h' dd' hs=>⟨.ref s.heap.objs.size,_,?_,rfl,q2⟩⟩
 have hz:(zdX [] kvs).length<=sizeLine:=by
  have h1:=zdo kvs []
  rw [List.length_nil] at h1
  rw [sizeLine_eq];omega
 have he:∃ q,h'.get? s.heap.objs.size=some q:=let ⟨q,_,_,hq,_⟩:=dd';⟨q,hq⟩
 exact zlB I2 (by rw [e];exact True.intro) hs he (znf hz hd (rk.merge .nil) dd')
theorem zkL {kvs:List (Key × V)} {k:Key} {v:V} (h:k ∉ kvs.map (·.1)):putK kvs k v=kvs ++ [(k,v)]:=by
 unfold putK
 rw [if_neg]
 intro z
 rw [List.any_eq_true] at z
 obtain ⟨p,hp,e⟩:=z
 exact h (by rw [← of_decide_eq_true e];exact List.mem_map.mpr ⟨p,hp,rfl⟩)
theorem ze6:∀ (more kvs:List (Key × V)),((kvs ++ more).map (·.1)).Nodup->zdX kvs more=kvs ++ more
 | [],kvs,_=>by rw [List.append_nil];rfl
 | p :: r,kvs,h=>by
  have hn:p.1 ∉ kvs.map (·.1):=by
   rw [List.map_append,List.nodup_append] at h
   exact fun z=>h.2.2 _ z p.1 (List.mem_map.mpr ⟨p,List.mem_cons_self,rfl⟩) rfl
  show zdX (putK kvs p.1 p.2) r=_
  rw [zkL hn,ze6 r (kvs ++ [(p.1,p.2)]) (by rw [List.append_assoc];exact h),List.append_assoc]
  rfl
end L2
namespace DL
open PySem PySem.Spec L2
open PyProof.Rows hiding St
theorem zjt {α β γ : Type} (f : α -> γ):∀ (ks:List α) (vs:List (γ × β)),vs.map (·.1)=ks.map f->vs=(ks.zip (vs.map (·.2))).map (fun kv=>(f kv.1,kv.2))
 | [],[],_=>rfl
 | k :: ks,(a,b) :: vs,h=>by
  rw [List.map_cons,List.map_cons] at h
  injection h with h1 h2
  have h1:a=f k:=h1
  rw [List.map_cons,List.zip_cons_cons,List.map_cons,← zjt f ks vs h2,h1]
theorem zht {α β : Type}:∀ (ps:List (α × β)),(ps.map (·.1)).zip (ps.map (·.2))=ps
 | []=>rfl
 | p :: r=>by rw [List.map_cons,List.map_cons,List.zip_cons_cons,zht r]
def ze7:List (M D × M D)->M (List (D × D))
 | []=>zad []
 | (f,g) :: r=>zas f fun x=>zas g fun y=>zas (ze7 r) fun ps=>zad ((x,y) :: ps)
def znV:D->Option Key
 | .int i=>some (.inl i)
 | .str x=>some (.inr x)
 | _=>none
def zhu:List D->Option (List Key)
 | []=>some []
 | d :: r=>match znV d,zhu r with
  | some k,some ks=>some (k :: ks)
  | _,_=>none
def znW (ps:List (D × D)):Option D:=match zhu (ps.map (·.1)) with
 | some ks=>if ks.Nodup/\ks.length<=15/\ks ≠ [] then some (.dict ps) else none
 | none=>none
def zju (prs:List (M D × M D)):M D:=zas (ze7 prs) fun ps=>mOpt (znW ps)
def zoU (K:PySem.W.Frag) (G:Hp) (vs:List (V × V)) (ps:List (D × D)):Prop:=Reps K G (vs.map (·.1)) (ps.map (·.1))/\Reps K G (vs.map (·.2)) (ps.map (·.2))
section
variable {K:PySem.W.Frag} {B G0 G H:Hp} {σ : St} {ρ : DEnv}
theorem zkM {d:D} {k:Key} (h:znV d=some k):d=kD k:=by
 cases d with
 | int i=>cases h;rfl
 | str x=>cases h;rfl
 | _=>cases h
theorem zge:∀ {ds:List D} {ks:List Key},zhu ds=some ks->ds=ks.map kD
 | [],_,h=>by cases h;rfl
 | d :: r,ks,h=>by
  unfold zhu at h
  split at h
  ·rename_i k ks' h1 h2
   cases h
   rw [List.map_cons,← zkM h1,← zge h2]
  ·cases h
theorem Rep.key_inv {v:V} {k:Key} (r:Rep K G v (kD k)):v=kV k:=by
 cases k with
 | inl i=>exact r.int_inv
 | inr x=>exact r.str_inv
theorem Reps.keys_inv:∀ {vs:List V} {ks:List Key},Reps K G vs (ks.map kD)->vs=ks.map kV
 | _,[],.nil=>rfl
 | _,k :: ks,.cons h t=>by rw [h.key_inv,Reps.keys_inv t];rfl
theorem zgf:∀ {prs:List (M D × M D)} {G H:Hp} {ρ : DEnv} {Q:List (V × V)->Hp->Prop},EOk K B G0 G H σ ρ ->
  (match ze7 prs ρ with
   | .ok ps ρ'=>∀ vs G' H',EOk K B G0 G' H' σ ρ'->Same G G'->zoU K G' vs ps->Q vs H'
   | .bad=>False)->zhe (prs.map fun p=>(tD K B G0 p.1,tD K B G0 p.2)) σ H Q
 | [],G,H,ρ,Q,k,a=>a [] G H k (.refl _) ⟨.nil,.nil⟩
 | (f,g) :: r,G,H,ρ,Q,k,a=>by
  refine ⟨G,ρ,k,?_⟩
  unfold ze7 zas at a
  show aft K B G0 (Rep K) (f ρ) G σ _
  cases z:f ρ with
  | bad=>rw [z] at a;exact a.elim
  | ok x ρ1 =>
   rw [z] at a
   dsimp only at a
   intro v G1 H1 k1 s1 r1
   refine ⟨G1,ρ1,k1,?_⟩
   show aft K B G0 (Rep K) (g ρ1) G1 σ _
   cases z2:g ρ1 with
   | bad=>rw [z2] at a;exact a.elim
   | ok y ρ2 =>
    rw [z2] at a
    dsimp only at a
    intro u G2 H2 k2 s2 r2
    refine zgf (prs:=r) k2 ?_
    cases z3:ze7 r ρ2 with
    | bad=>rw [z3] at a;exact a.elim
    | ok ps ρ3 =>
     rw [z3] at a
     intro vs G3 H3 k3 s3 r3
     exact a ((v,u) :: vs) G3 H3 k3 ((s1.trans s2).trans s3) ⟨.cons ((r1.mono s2).mono s3) r3.1,.cons (r2.mono s3) r3.2⟩
theorem EOk.under {p:Addr} (k:EOk K B G0 G H σ ρ) (hp:H p=none):EOk K (upd B p (.dK [])) G0 G (upd H p (.dK [])) σ ρ where
 bh:=fun b o q=>by
  by_cases z:b=p
  ·subst z;rw [zat] at q ⊢;exact q
  ·rw [zaw z] at q ⊢;exact k.bh b o q
 gh:=k.gh.trans (zaN hp)
 g0:=k.g0
 np:=fun a u q n=>by
  by_cases z:a=p
  ·subst z;exact k.gh.free hp
  ·rw [zaw z] at q;exact k.np a u q n
 len:=k.len
 pub:=k.pub
 own:=fun i ds q=>by
  obtain ⟨a,vs,h1,h2,h3,h4,h5⟩:=k.own i ds q
  have z:a ≠ p:=zaL h4 hp
  exact ⟨a,vs,h1,by rw [zaw z];exact h2,h3,by rw [zaw z];exact h4,h5⟩
 sep:=k.sep
theorem EOk.filled {p:Addr} {u:HO} (k:EOk K (upd B p (.dK [])) G0 G H σ ρ) (hb:B p=none) (h0:G0 p=none):EOk K B G0 (upd G p u) (upd H p u) σ ρ /\ Same G (upd G p u)/\H p=some (.dK []):=by
 have hG:G p=none:=k.np p (.k []) zat h0
 have hH:H p=some (.dK []):=k.bh p _ zat
 have sg:Same G (upd G p u):=zaN hG
 refine ⟨⟨fun b o q=>?_,fun b o q=>?_,k.g0.trans sg,fun a w q n=>?_,k.len,fun i d q=>?_,fun i ds q=>?_,k.sep⟩,sg,hH⟩
 ·have z:b ≠ p:=zaL q hb
  rw [zaw z];exact k.bh b o (by rw [zaw z];exact q)
 ·by_cases z:b=p
  ·subst z;rw [zat] at q ⊢;exact q
  ·rw [zaw z] at q ⊢;exact k.gh b o q
 ·have z:a ≠ p:=zaL q hb
  rw [zaw z];exact k.np a w (by rw [zaw z];exact q) n
 ·obtain ⟨v,h1,h2⟩:=k.pub i d q
  exact ⟨v,h1,h2.mono sg⟩
 ·obtain ⟨a,vs,h1,h2,h3,h4,h5⟩:=k.own i ds q
  have z:a ≠ p:=fun e=>by subst e;rw [zat] at h2;cases h2
  exact ⟨a,vs,h1,by rw [zaw z] at h2;exact h2,by rw [zaw z];exact h3,by rw [zaw z];exact h4,h5.mono sg⟩
end
section
variable {X:Cx} {B G0:Hp} {KX:XW} {e o a b c:Expr} {pos p2:Pos} {es rest:List Expr}
structure DPs (X:Cx) (pos:Pos) (G0:Hp) (keys:List (Option Expr)) (values:List Expr) (prs:List (M D × M D)):Prop where
 out:∀ B',PPs X pos keys values (prs.map fun p=>(tD X.K B' G0 p.1,tD X.K B' G0 p.2))
theorem zmh:DPs X pos G0 [] [] []:=⟨fun _=>zlC⟩
theorem zkN {k v:Expr} {ks:List (Option Expr)} {vs:List Expr} {f g:M D} {prs:List (M D × M D)} (hk:∀ B',PE X k (tD X.K B' G0 f)) (hv:∀ B',PE X v (tD X.K B' G0 g)) (hr:DPs X pos G0 ks vs prs):DPs X pos G0 (some k :: ks) (v :: vs) ((f,g) :: prs) :=
 ⟨fun B'=>zkc (hk B') (hv B') (hr.out B')⟩
theorem zkO {keys:List (Option Expr)} {values:List Expr} {prs:List (M D × M D)} (h:DPs X pos G0 keys values prs) (hall:keys.all (·.isSome)=true:=by rfl) (hl:keys.length=values.length:=by rfl) (h0:keys ≠ []:=by simp) (h15:keys.length<=15:=by decide) :
  PE X (.Dict keys values pos) (tD X.K B G0 (zju prs)):=by
 refine peof (zkK (trs:=fun p=>prs.map fun f=>(tD X.K (upd B p (.dK [])) G0 f.1,tD X.K (upd B p (.dK [])) G0 f.2)) (fun p=>h.out _) hall hl h0 h15) fun σ H Q ⟨G,ρ,k,a⟩ p hp=>?_
 refine zgf (k.under hp) ?_
 unfold zju zas at a
 cases z:ze7 prs ρ with
 | bad=>rw [z] at a;exact a.elim
 | ok ps ρ1 =>
  rw [z] at a
  intro vs G1 H1 k1 s1 r1
  obtain ⟨d,e1,a1⟩:=aft.opt a
  unfold znW at e1
  split at e1
  ·rename_i ks hk
   split at e1
   ·rename_i hc
    cases e1
    have ek:=zge hk
    have hv:=r1.1
    rw [ek] at hv
    have hv:=hv.keys_inv
    have hlen:ks.length=ps.length:=by have:=congrArg List.length ek;simpa using this.symm
    have hlv:vs.length=ks.length:=by have:=congrArg List.length hv;simpa using this
    have evs:vs=(ks.zip (vs.map (·.2))).map (fun kv=>(kV kv.1,kv.2)):=by
     exact zjt kV ks vs hv
    obtain ⟨f1,f2,f3⟩:=k1.filled (u:=.dK (ks.zip (vs.map (·.2)))) (k.bh.free hp) (k.g0.free (k.gh.free hp))
    refine ⟨f3,ks.zip (vs.map (·.2)),evs,?_,?_⟩
    ·rw [List.length_zip,List.length_map];omega
    ·have em:zdX [] (ks.zip (vs.map (·.2)))=ks.zip (vs.map (·.2)):=by
      rw [ze6 _ [] ?_,List.nil_append]
      rw [List.nil_append,List.map_fst_zip (by rw [List.length_map];omega)]
      exact hc.1
     rw [em]
     refine a1 (.ref p) _ _ f1 (s1.trans f2) (.dct (ks:=ks) (vs:=vs.map (·.2)) (ds:=ps.map (·.2)) ?_ hc.2.2 (by rw [List.length_map];exact hlen) zat (r1.2.mono f2))
     rw [← ek,zht]
   ·cases e1
  ·cases e1
end
section
variable {X:Cx} {B G0:Hp} {KX:XW} {e o a b c:Expr} {pos p2 cpos:Pos} {es rest:List Expr}
end
section
variable {X:Cx}
end
end DL
namespace DL
open PySem PySem.Spec L2 PySem.SeqAt PySem.AutoSeq1
open PyProof.Rows hiding St
section
variable {X:Cx} {pins:List (Addr × Obj)} {s:Shared} {σ : L2.St} {G H:Hp} {A:Around}
theorem zjv (I:Inv X pins σ H s) {a:Addr} {kvs:List (Key × V)} (h:H a=some (.dK kvs)):(a == sysModules)=false/\∃ o es n vs,s.heap.get? a=some o/\o.cls=.type "dict" /\ o.data=.dict es n/\KV kvs vs/\Pairs (zbS X.prog X.w) es.toList vs:=by
 obtain ⟨_,h0,vs,kv,o,es,ep,e1,e2,e3,_,e5,_⟩:=(show kvs.length<=sizeLine/\(a == sysModules)=false/\∃ vs,KV kvs vs/\s.heap.DictOf (zbS X.prog X.w) a vs from I.hok a _ h)
 exact ⟨h0,o,es,ep,vs,e1,e2.1,e3,kv,e5⟩
end
section
variable {X:Cx} {pins:List (Addr × Obj)} {s:Shared} {σ : L2.St} {G H:Hp} {A:Around}
end
end DL
namespace DL
open PySem PySem.Spec L2
open PyProof.Rows hiding St
def keyZ:D->Bool
 | .int _=>true
 | .str _=>true
 | _=>false
mutual
def layZ:D->Bool
 | .none | .bool _ | .int _=>true
 | .str x=>PyData.strOk x
 | .list xs | .tuple xs=>zeE xs
 | .dict kvs=>layKv kvs
def zeE:List D->Bool
 | []=>true
 | x :: xs=>layZ x && zeE xs
def layKv:List (D × D)->Bool
 | []=>true
 | (k,v) :: r=>keyZ k && layZ v && layKv r
end
theorem zhv:∀ {ks:List Key} {ds:List D},ks.length=ds.length->layKv ((ks.map kD).zip ds)=true->zeE ds=true
 | [],[],_,_=>rfl
 | [],_ :: _,h,_=>by simp at h
 | _ :: _,[],h,_=>by simp at h
 | k :: ks,d :: ds,h,c=>by
  rw [List.map_cons,List.zip_cons_cons,layKv,Bool.and_eq_true,Bool.and_eq_true] at c
  rw [zeE,c.1.2,zhv (by simpa using h) c.2];rfl
theorem ze8 {P:Program} {w:World}:∀ {es:List DictEntry} {vs:List (Key × Value)},Pairs (zbS P w) es vs->es.map (·.val)=vs.map (·.2)
 | _,_,.nil=>rfl
 | _,_,.cons _ h t=>by rw [List.map_cons,List.map_cons,h,ze8 t]
theorem zh2 {P:Program} {w:World} {h:Heap} {es:List DictEntry} {vs:List (Key × Value)} (p:Pairs (zbS P w) es vs):ReadsAll h (es.map (·.key)) ((vs.map (·.1)).map kD) []:=by
 induction p with
 | nil=>exact .nil
 | @cons e kv es kvs hk _ t ih =>
  have hk:zgv kv.1 e.key=true:=hk
  rw [List.map_cons,List.map_cons,List.map_cons]
  rcases zbb hk with ⟨i,t,e1,e2⟩ | ⟨x,t,e1,e2⟩
  ·rw [e1,e2];exact .cons (as:=[]) (.int i t) ih
  ·rw [e1,e2];exact .cons (as:=[]) (.str x t) ih
theorem zhw:∀ {ks:List Key} {vs:List V} {ws:List (Key × Value)},ks.length=vs.length->KV (ks.zip vs) ws->ws.map (·.1)=ks/\Vals vs (ws.map (·.2))
 | [],[],_,_,h=>by cases h;exact ⟨rfl,.nil⟩
 | [],_ :: _,_,h,_=>by simp at h
 | _ :: _,[],_,h,_=>by simp at h
 | k :: ks,v :: vs,_,hl,h=>by
  rw [List.zip_cons_cons] at h
  cases h with
  | cons a b =>
   obtain ⟨e1,e2⟩:=zhw (by simpa using hl) b
   exact ⟨by rw [List.map_cons,e1,← a.1],.cons a.2 e2⟩
def SmK (K:PySem.W.Frag):Prop:=∃ o es n,K.lookup sysModules=some o/\o.data=.dict es n
theorem znX {h:Heap} (x:h.NoSeer):SmK (whole h):=by
 obtain ⟨mm,⟨o',es,ep,e',d,_⟩,_⟩:=x.mods
 exact ⟨o',es,ep,by rw [zaO];exact e',d⟩
section
variable {X:Cx} {pins:List (Addr × Obj)} {s:Shared} {σ : L2.St} {G H:Hp}
theorem zhx (I:Inv X pins σ H s) (hK:SmK X.K):H sysModules=none:=by
 obtain ⟨o,es,n,e,_⟩:=hK
 exact (I.bs _ _ (I.mod.kin _ _ e)).2
theorem zmi (I:Inv X pins σ H s) (hK:SmK X.K) {a:Addr} {xs:List V} (h:SqL X.K H a xs):a ≠ sysModules:=by
 intro e
 subst e
 rcases h with h | ⟨o,its,n,hk,_,_,hs,_⟩
 ·rcases h with h | ⟨o,h⟩
  ·rw [zhx I hK] at h;cases h
  ·rw [zhx I hK] at h;cases h
 ·obtain ⟨o',es,m,e,d⟩:=hK
  rw [hk] at e
  cases e
  rw [hs] at d;cases d
mutual
theorem zjw (I:Inv X pins σ H s) (sg:Same G H) (hK:SmK X.K):∀ {v:V} {d:D} {u:Value},Rep X.K G v d->RelV v u->layZ d=true->∃ as,Reads s.heap u d as/\sysModules ∉ as
 | _,_,_,.non,r,_=>by cases r;exact ⟨_,.none,by simp⟩
 | _,_,_,.bl b,r,_=>by cases r;exact ⟨_,.bool b,by simp⟩
 | _,_,_,.int i,r,_=>by obtain ⟨t,rfl⟩:=r;exact ⟨_,.int i t,by simp⟩
 | _,_,_,.str x,r,_=>by obtain ⟨t,rfl⟩:=r;exact ⟨_,.str x t,by simp⟩
 | _,_,_,.lst h q,r,c=>by
  cases r
  obtain ⟨its,rv,⟨o,n,e,hc,_,hd⟩,hz⟩:=I.list (sg.seq h)
  obtain ⟨as,ra,hn⟩:=readsAll_z I sg hK q rv (show zeE _=true by simpa [layZ] using c)
  refine ⟨_,.list e hc hd (by simpa using ra),?_⟩
  simp only [List.mem_cons,not_or]
  exact ⟨fun z=>zmi I hK (sg.seq h) z.symm,hn⟩
 | _,_,_,.tup h q,r,c=>by
  cases r
  obtain ⟨its,rv,p,hz⟩:=I.tuple (zdh sg h)
  obtain ⟨o,e,hc,n,hd⟩:=p
  obtain ⟨as,ra,hn⟩:=readsAll_z I sg hK q rv (show zeE _=true by simpa [layZ] using c)
  exact ⟨_,.tuple e hc hd (by simpa using ra),hn⟩
 | _,_,_,.dic h,r,c=>by
  cases r
  obtain ⟨p0,o,es,n,vs,e1,e2,e3,kv,ps⟩:=zjv I (sg _ _ h)
  cases kv
  have z1:es.toList=[]:=by
   cases hz:es.toList with
   | nil=>rfl
   | cons c r=>rw [hz] at ps;cases ps
  refine ⟨_,.dict (kvs:=[]) e1 e2 e3 (by rw [z1];exact .nil) (by rw [z1];exact .nil),?_⟩
  simp only [List.append_nil,List.mem_singleton]
  intro z
  rw [← z] at p0
  simp at p0
 | _,_,_,.exc _ _ _ _,r,c=>by simp [layZ,layKv,keyZ] at c
 | _,_,_,@Rep.dct _ _ ad ks vs ds kvs e hne hl h q,r,c=>by
  cases r
  obtain ⟨p0,o,es,n,ws,e1,e2,e3,kv,ps⟩:=zjv I (sg _ _ h)
  obtain ⟨k1,k2⟩:=zhw (by rw [hl,q.length]) kv
  have cd:zeE ds=true:=zhv hl (by rw [← e];simpa [layZ] using c)
  obtain ⟨bs,rb,hn⟩:=readsAll_z I sg hK q k2 cd
  have hkeys:=zh2 (h:=s.heap) ps
  rw [k1] at hkeys
  have f1:kvs.map (·.1)=ks.map kD:=by rw [e];exact List.map_fst_zip (by rw [List.length_map];omega)
  have f2:kvs.map (·.2)=ds:=by rw [e];exact List.map_snd_zip (by rw [List.length_map];omega)
  refine ⟨_,.dict (kvs:=kvs) e1 e2 e3 (by rw [f1];exact hkeys) (by rw [f2,ze8 ps];exact rb),?_⟩
  simp only [List.cons_append,List.nil_append,List.mem_cons,not_or]
  refine ⟨?_,hn⟩
  intro z
  rw [← z] at p0
  simp at p0
 | _,_,_,.dtt e _ _ _,r,c=>by subst e;simp [layZ,layKv,keyZ,pdD] at c
theorem readsAll_z (I:Inv X pins σ H s) (sg:Same G H) (hK:SmK X.K):∀ {vs:List V} {ds:List D} {us:List Value},Reps X.K G vs ds->Vals vs us->zeE ds=true->∃ as,ReadsAll s.heap us ds as/\sysModules ∉ as
 | _,_,_,.nil,r,_=>by cases r;exact ⟨_,.nil,by simp⟩
 | _,_,_,.cons h t,r,c=>by
  cases r with
  | cons r1 r2 =>
   have c':=c
   rw [zeE,Bool.and_eq_true] at c'
   obtain ⟨as,ra,n1⟩:=zjw I sg hK h r1 c'.1
   obtain ⟨bs,rb,n2⟩:=readsAll_z I sg hK t r2 c'.2
   exact ⟨_,.cons ra rb,by simp [n1,n2]⟩
end
end
section
variable {X:Cx}
def zdz:List D->Option D
 | [d]=>if layZ d=true/\d.showable=true/\d.depth<=50/\d.shown.length<=1000000 then some (.str d.shown) else none
 | _=>none
theorem zh3 (hu:X.A.units+64 < cLine) (hg:X.A.guards=some []) (hK:SmK X.K):zdm X (.builtin "repr") (fun xs H Q=>∃ G v d,xs=[v]/\Same G H/\Rep X.K G v d/\layZ d=true/\d.showable=true/\d.depth<=50/\d.shown.length<=1000000/\Q (.str d.shown) H):=by
 intro pins s σ H xs us Q I rx h
 obtain ⟨G,v,d,rfl,sg,r,c1,c2,c4,c5,q⟩:=h
 obtain ⟨u,rfl,ru⟩:=rx.one
 obtain ⟨as,ra,hn⟩:=zjw I sg hK r ru c1
 have fin:∀ h' (t:Tok) tk,(∀ b o,s.heap.get? b=some o->h'.get? b=some o)->EP X pins σ Q (.str d.shown t) { s with heap:=h',toks:=tk }:=fun h' t tk hk=>⟨.str d.shown,H,I.kept hk,⟨t,rfl⟩,q⟩
 cases r with
 | non=>cases ru;exact P.repr_of_none (fin s.heap _ _ fun _ _ e=>e)
 | bl b=>cases ru;exact P.repr_of_bool (fin s.heap _ _ fun _ _ e=>e)
 | int i =>
  obtain ⟨t,rfl⟩:=ru
  exact P.repr_of_int (by
   have:(PyData.int i).showable=true:=c2
   simpa [PyData.showable] using this) (fin s.heap _ _ fun _ _ e=>e)
 | str x =>
  obtain ⟨t,rfl⟩:=ru
  exact P.repr_of_str (fin s.heap _ _ fun _ _ e=>e) (Nat.le_trans c5 lim)
 | lst h r =>
  cases ru
  exact repr_of_reads' ra c2 (fun _=>hn) hg (by omega) (fun _ _ e=>e) (fun h' t tk hk=>fin h' t tk hk) (Nat.le_trans c5 lim)
 | tup h r =>
  cases ru
  exact repr_of_reads' ra c2 (fun _=>hn) hg (by omega) (fun _ _ e=>e) (fun h' t tk hk=>fin h' t tk hk) (Nat.le_trans c5 lim)
 | dic h =>
  cases ru
  exact repr_of_reads' ra c2 (fun _=>hn) hg (by omega) (fun _ _ e=>e) (fun h' t tk hk=>fin h' t tk hk) (Nat.le_trans c5 lim)
 | exc _ _ _ _=>simp [layZ,layKv,keyZ] at c1
 | dct _ _ _ _ _ =>
  cases ru
  exact repr_of_reads' ra c2 (fun _=>hn) hg (by omega) (fun _ _ e=>e) (fun h' t tk hk=>fin h' t tk hk) (Nat.le_trans c5 lim)
 | dtt e _ _ _=>subst e;simp [layZ,layKv,keyZ,pdD] at c1
theorem zjx (hu:X.A.units+64 < cLine) (hg:X.A.guards=some []) (hK:SmK X.K):zfU X (.builtin "repr") zdz:=by
 refine ⟨_,zh3 hu hg hK,fun vs G H ds d Q s r e k=>?_⟩
 unfold zdz at e
 split at e
 ·split at e
  ·rename_i x c
   cases e
   obtain ⟨v,rfl,q1⟩:=r.one_inv
   exact ⟨G,v,_,rfl,s,q1,c.1,c.2.1,c.2.2.1,c.2.2.2,k _ G H (.refl s) (.str _)⟩
  ·cases e
 ·cases e
theorem zjy {d:D} (c:layZ d=true/\d.showable=true/\d.depth<=50/\d.shown.length<=1000000):zdz [d]=some (.str d.shown):=by unfold zdz;exact if_pos c
def oNeT:D->D->Option Bool
 | .str a,.str b=>some (!(a == b))
 | _,_=>none
theorem zoV:OpB X (compareOp .NotEq) oNeT:=by
 refine ⟨fun v u H Q=>∃ a b,v=.str a/\u=.str b/\Q (.bl (!(a == b))) H,?_,fun v u G H x y d Q s rx ry e k=>?_⟩
 ·intro pins s σ H x y v u Q I rx ry h
  obtain ⟨a,b,rfl,rfl,q⟩:=h
  obtain ⟨t,rfl⟩:=rx
  obtain ⟨t2,rfl⟩:=ry
  exact SeqAt.RcNeAt.str_str a t b t2 X.prog X.w X.xe _ ⟨.bl _,H,I,rfl,q⟩
 ·unfold oNeT at e
  split at e
  ·cases e
   exact ⟨_,_,rx.str_inv,ry.str_inv,k⟩
  ·cases e
theorem zkP {a:Str}:oNeT (.str a) (.str a)=some false:=by unfold oNeT;simp
end
section
variable {X:Cx} {B G0:Hp} {KX:XW} {e:Expr} {pos cpos:Pos} {sts sts2:List Stmt}
theorem zmj {f:M XR} {g h:SM} {j p2} (he:PE X e (tX X.K B G0 KX f)) (ha:PSs X sts (tS X.K B G0 KX g)) (hb:PSs X sts2 (tS X.K B G0 KX h)) :
  PS X (.If (.Compare e [.Is] [.Constant .none j p2] cpos) sts sts2 pos) (tS X.K B G0 KX (sX f fun d ρ=>if isNon d=true then g ρ else h ρ)) :=
 psof (zmU (zig (zif he)) ha hb) fun D σ H q=>tS.bndX q fun v H' G' ρ' x k r a=>by
  refine ⟨_,rfl,?_⟩
  rw [← r.isNon]
  cases z:isNon x with
  | true=>rw [z] at a;exact ⟨G',ρ',k,a⟩
  | false=>rw [z] at a;exact ⟨G',ρ',k,a⟩
end
end DL
namespace L2
open PySem PySem.Spec PyProof.Rows
section
variable {prog:Program} {w:World} {A:Around} {E:Value->Shared->Prop} {s:Shared} {d it:Addr} {o:Obj} {es:Array DictEntry} {ep i:Nat}
end
section
variable {X:Cx} {tg:Expr}
end
end L2
namespace DL
open PySem PySem.Spec L2
open PyProof.Rows hiding St
section
variable {K:PySem.W.Frag} {B G0 G H:Hp} {σ : St} {ρ : DEnv}
end
section
variable {X:Cx} {B G0:Hp} {KX:XW} {e a b c tg:Expr} {pos:Pos}
end
section
variable {X:Cx} {B G0:Hp} {KX:XW} {e a b c tg iter:Expr} {pos:Pos}
end
section
variable {X:Cx}
end
end DL
namespace L2
open PySem PySem.Spec PyProof.Rows
end L2
namespace DL
open PySem PySem.Spec L2
open PyProof.Rows hiding St
section
variable {X:Cx} {B G0:Hp} {KX:XW} {e1 e2 e3:Expr} {pos:Pos}
end
end DL
namespace W
open PySem PySem.Spec L2 DL
open PyProof.Rows hiding St
def top (i:Nat):Stmt:=PySem.Challenge.pw_wishdeal_k20_a_look_at_aims.main.body.getD i (.Pass ⟨0,0,0,0⟩)
abbrev GG (s:Stmt) (x:Str):Prop:=(zam s).names.lookup x=some NameKind.globalImplicit
abbrev VV (s:Stmt) (x:Str):Prop:=L2.Vis (zam s) x
abbrev LL (s:Stmt) (x:Str):Prop:=L2.Loc (zam s) x
theorem vk {s:Stmt} {x:Str} (h:(zam s).names.lookup x=some .local ∨ (zam s).names.lookup x=some .cell ∨ (zam s).names.lookup x=some .free):VV s x:=h
theorem lk {s:Stmt} {x:Str} (h:(zam s).names.lookup x=some .local ∨ (zam s).names.lookup x=some .cell):LL s x:=h
structure Txt (K:PySem.W.Frag) (mg:Str->Option Value):Prop where
 b_ValueError:mg "ValueError" = none
 b_all:mg "all" = none
 b_bool:mg "bool" = none
 b_enumerate:mg "enumerate" = none
 b_int:mg "int" = none
 b_isinstance:mg "isinstance" = none
 b_len:mg "len" = none
 b_list:mg "list" = none
 b_max:mg "max" = none
 b_range:mg "range" = none
 b_repr:mg "repr" = none
 b_set:mg "set" = none
 b_str:mg "str" = none
 b_tuple:mg "tuple" = none
 c_MOST_ASKERS:∃ t,mg "MOST_ASKERS" = some (Value.int 7 t)
 c_MOST_COPIES:∃ t,mg "MOST_COPIES" = some (Value.int 7 t)
 c_MOST_RANKS:∃ t,mg "MOST_RANKS" = some (Value.int 5 t)
 c_MOST_THINGS:∃ t,mg "MOST_THINGS" = some (Value.int 6 t)
 c_ORDERS:∃ ad o its n,mg "ORDERS" = some (.ref ad)/\K.lookup ad=some o/\o.cls=.type "tuple" /\ o.data=.seq its n/\its.size<=sizeLine/\Vals ((["firsts", "full", "lasts"]:List Str).map V.str) its.toList
 x_DealError:CK K mg "DealError"
 x_NoAim:CK K mg "NoAim"
 x_NoWishes:CK K mg "NoWishes"
 sm:SmK K
abbrev Saa:Stmt:=top 1
abbrev N_aa:List Str:=["thing"]
theorem Haa:FnNm (zam Saa) N_aa ["isinstance", "int", "bool"]:=zbd (by decide +kernel)
def g_aa:SM :=
 sRet (zfi (mMap (fun d=>.bool (isTy d "int")) (dVar 0)) (ziK (mMap (fun d=>.bool (isTy d "bool")) (dVar 0))))
def F_aa:List D->Option D:=runD N_aa g_aa
abbrev Sab:Stmt:=top 2
abbrev N_ab:List Str:=["thing", "many"]
theorem Hab:FnNm (zam Sab) N_ab ["is_whole"]:=zbd (by decide +kernel)
def g_ab:SM :=
 sRet (zfi (dFun 1 F_aa (zae (dVar 0) (mNil))) (mMap PyData.bool (zel (oIB fun i j=>decide (i<=j)) (oIB fun i j=>decide (i < j)) (zad (.int 0)) (dVar 0) (dVar 1))))
def F_ab:List D->Option D:=runD N_ab g_ab
abbrev Sak:Stmt:=top 23
abbrev N_ak:List Str:=["thing", "askers"]
theorem Hak:FnNm (zam Sak) N_ak ["len", "set", "isinstance", "list", "all"]:=zbd (by decide +kernel)
def g_ak:SM :=
 sSeq (sIf (mOr (mNot (zaT (mMap (fun d=>.bool (isTy d "list")) (dVar 0)))) (mNot (zaT (zbr oAll (zae (mMap PyData.list (zdO (zbH (dVar 0)) 1 (gN 2) (zad true) (dFun 2 F_ab (zae (dVar 2) (zae (dVar 1) (mNil)))))) (mNil))))))
 (sRet (zad (.bool false)))
 (sNx))
 (sRet (mMap PyData.bool (dBin oEq (zbr zdi (zae (dVar 0) (mNil))) (zbZ 0))))
def F_ak:List D->Option D:=runD N_ak g_ak
abbrev Saj:Stmt:=top 22
abbrev N_aj:List Str:=["thing", "askers", "things"]
theorem Haj:FnNm (zam Saj) N_aj ["all", "isinstance", "list", "len"]:=zbd (by decide +kernel)
def g_aj:SM :=
 sSeq (sIf (mMap isNon (dVar 0))
 (sRet (zad (.bool true)))
 (sNx))
 (sSeq (sIf (mOr (mNot (zaT (mMap (fun d=>.bool (isTy d "list")) (dVar 0)))) (dBin oNe (zbZ 0) (dVar 1)))
 (sRet (zad (.bool false)))
 (sNx))
 (sRet (zbr oAll (zae (mMap PyData.list (zdO (zbH (dVar 0)) 1 (gN 3) (zad true) (mOrV (mMap (fun d=>.bool (isNon d)) (dVar 3)) (dFun 2 F_ab (zae (dVar 3) (zae (dVar 2) (mNil))))))) (mNil)))))
def F_aj:List D->Option D:=runD N_aj g_aj
abbrev Sah:Stmt:=top 19
abbrev N_ah:List Str:=["thing"]
theorem Hah:FnNm (zam Sah) N_ah ["isinstance", "str", "ORDERS"]:=zbd (by decide +kernel)
def g_ah:SM :=
 sRet (zfi (mMap (fun d=>.bool (isTy d "str")) (dVar 0)) (mMap PyData.bool (zbx oIn 0 (zad (.tuple ((["firsts", "full", "lasts"]:List Str).map PyData.str))))))
def F_ah:List D->Option D:=runD N_ah g_ah
abbrev zcP:Stmt:=top 20
abbrev zcQ:List Str:=["thing"]
theorem zbF:FnNm (zam zcP) zcQ ["is_order", "NoAim"]:=zbd (by decide +kernel)
def zb9:SM :=
 sIf (mNot (zaT (dFun 1 F_ah (zae (dVar 0) (mNil)))))
 (zbL "NoAim" (zae (zad (.str "order")) (mNil)))
 (sNx)
def zbl:List D->Option XR:=runX zcQ zb9
abbrev Sad:Stmt:=top 13
abbrev N_ad:List Str:=["thing", "things"]
theorem Had:FnNm (zam Sad) N_ad ["all", "isinstance", "list", "len"]:=zbd (by decide +kernel)
def g_ad:SM :=
 sSeq (sIf (mOr (mNot (zaT (mMap (fun d=>.bool (isTy d "list")) (dVar 0)))) (dBin oEq (zbZ 0) (zad (.int 0))))
 (sRet (zad (.bool false)))
 (sNx))
 (sRet (zbr oAll (zae (mMap PyData.list (zdO (zbH (dVar 0)) 1 (gN 2) (zad true) (dFun 2 F_ab (zae (dVar 2) (zae (dVar 1) (mNil)))))) (mNil))))
def F_ad:List D->Option D:=runD N_ad g_ad
abbrev Sae:Stmt:=top 14
abbrev N_ae:List Str:=["thing", "things", "wished"]
theorem Hae:FnNm (zam Sae) N_ae ["len", "set", "all", "isinstance", "list", "MOST_RANKS"]:=zbd (by decide +kernel)
def g_ae:SM :=
 sSeq (sIf (mOr (mNot (zaT (mMap (fun d=>.bool (isTy d "list")) (dVar 0)))) (dBin (oIB fun i j=>decide (j < i)) (zbZ 0) (zad (.int 5))))
 (sRet (zad (.bool false)))
 (sNx))
 (sSeq (sIf (mNot (zaT (zbr oAll (zae (mMap PyData.list (zdO (zbH (dVar 0)) 1 (gN 3) (zad true) (dFun 2 F_ad (zae (dVar 3) (zae (dVar 1) (mNil)))))) (mNil)))))
 (sRet (zad (.bool false)))
 (sNx))
 (sSeq (zb1 2 (zf1 (zbH (dVar 0)) 2 (gN 3) (zad true) (zbH (dVar 3)) (gN 4) (zad true) (dVar 4)))
 (sRet (mMap PyData.bool (dBin oEq (zbr zdi (zae (dVar 2) (mNil))) (zbZ 2))))))
def F_ae:List D->Option D:=runD N_ae g_ae
abbrev zcR:Stmt:=top 15
abbrev zcS:List Str:=["lists", "things", "asker", "ranks"]
theorem zap:FnNm (zam zcR) zcS ["enumerate", "is_asker_list", "NoWishes", "isinstance", "list", "len", "MOST_ASKERS"]:=zbd (by decide +kernel)
def zcn:SM :=
 sIf (mNot (zaT (dFun 2 F_ae (zae (dVar 3) (zae (dVar 1) (mNil))))))
 (zbL "NoWishes" (zae (zad (.str "lists")) (zae (dVar 2) (mNil))))
 (sNx)
def zca:SM :=
 sSeq (sIf (mOr (mNot (zaT (mMap (fun d=>.bool (isTy d "list")) (dVar 0)))) (mNot (zel (oIB fun i j=>decide (i<=j)) (oIB fun i j=>decide (i<=j)) (zad (.int 1)) (zbZ 0) (zad (.int 7)))))
 (zbL "NoWishes" (zae (zad (.str "lists")) (zae (zad .none) (mNil))))
 (sNx))
 (sFor (zfW (zae (dVar 0) (mNil))) (gT 2 (gNC (gN 2) (gNC (gN 3) (gN0)))) zcn)
def zbN:List D->Option XR:=runX zcS zca
abbrev zcD:Stmt:=top 12
abbrev zcE:List Str:=["copies", "number", "many"]
theorem zan:FnNm (zam zcD) zcE ["enumerate", "MOST_COPIES", "is_number_below", "NoWishes", "isinstance", "list", "len", "MOST_THINGS"]:=zbd (by decide +kernel)
def zcb:SM :=
 sIf (mNot (zaT (dFun 2 F_ab (zae (dVar 2) (zae (dBin oAdd (zad (.int 7)) (zad (.int 1))) (mNil))))))
 (zbL "NoWishes" (zae (zad (.str "copies")) (zae (dVar 1) (mNil))))
 (sNx)
def zb4:SM :=
 sSeq (sIf (mOr (mNot (zaT (mMap (fun d=>.bool (isTy d "list")) (dVar 0)))) (mNot (zel (oIB fun i j=>decide (i<=j)) (oIB fun i j=>decide (i<=j)) (zad (.int 1)) (zbZ 0) (zad (.int 6)))))
 (zbL "NoWishes" (zae (zad (.str "copies")) (zae (zad .none) (mNil))))
 (sNx))
 (sFor (zfW (zae (dVar 0) (mNil))) (gT 2 (gNC (gN 1) (gNC (gN 2) (gN0)))) zcb)
def zbG:List D->Option XR:=runX zcE zb4
abbrev zcF:Stmt:=top 16
abbrev zcG:List Str:=["thing", "copies", "lists"]
theorem zao:FnNm (zam zcF) zcG ["len", "look_at_lists", "look_at_copies", "isinstance", "tuple", "NoWishes"]:=zbd (by decide +kernel)
def zb5:SM :=
 sSeq (sIf (mOr (mNot (zaT (mMap (fun d=>.bool (isTy d "tuple")) (dVar 0)))) (dBin oNe (zbZ 0) (zad (.int 2))))
 (zbL "NoWishes" (zae (zad (.str "wishes")) (zae (zad .none) (mNil))))
 (sNx))
 (sSeq (sAsg (dVar 0) (gT 2 (gNC (gN 1) (gNC (gN 2) (gN0)))))
 (sSeq (sX (zeB 1 zbG (zae (dVar 1) (mNil))) fun _ ρ=>.nx ρ)
 (sX (zeB 2 zbN (zae (dVar 2) (zae (zbZ 1) (mNil)))) fun _ ρ=>.nx ρ)))
def zbf:List D->Option XR:=runX zcG zb5
abbrev zdc:Stmt:=top 24
abbrev zdd:List Str:=["wishes", "thing", "copies", "lists", "order", "old", "turns"]
theorem zaj:FnNm (zam zdc) zdd ["len", "is_turns", "NoAim", "is_old", "look_at_order", "isinstance", "tuple", "look_at_wishes"]:=zbd (by decide +kernel)
def zcA:SM :=
 sSeq (sX (zeB 1 zbf (zae (dVar 0) (mNil))) fun _ ρ=>.nx ρ)
 (sSeq (sIf (mOr (mNot (zaT (mMap (fun d=>.bool (isTy d "tuple")) (dVar 1)))) (dBin oNe (zbZ 1) (zad (.int 3))))
 (zbL "NoAim" (zae (zad (.str "aim")) (mNil)))
 (sNx))
 (sSeq (sAsg (dVar 0) (gT 2 (gNC (gN 2) (gNC (gN 3) (gN0)))))
 (sSeq (sAsg (dVar 1) (gT 3 (gNC (gN 4) (gNC (gN 5) (gNC (gN 6) (gN0))))))
 (sSeq (sX (zeB 1 zbl (zae (dVar 4) (mNil))) fun _ ρ=>.nx ρ)
 (sSeq (sIf (mNot (zaT (dFun 3 F_aj (zae (dVar 5) (zae (zbZ 3) (zae (zbZ 2) (mNil)))))))
 (zbL "NoAim" (zae (zad (.str "old")) (mNil)))
 (sNx))
 (sIf (mNot (zaT (dFun 2 F_ak (zae (dVar 6) (zae (zbZ 3) (mNil))))))
 (zbL "NoAim" (zae (zad (.str "turns")) (mNil)))
 (sNx)))))))
def zbn:List D->Option XR:=runX zdd zcA
abbrev Sax:Stmt:=top 37
abbrev N_ax:List Str:=["_law_wishes_here", "_law_thing", "_law_found", "e"]
theorem Hax:FnNm (zam Sax) N_ax ["look_at_aim", "isinstance", "ValueError", "int", "NoWishes", "DealError"]:=zbd (by decide +kernel)
def g_ax:SM :=
 sSeq (sSet 2 (zad (.int 0)))
 (sSeq (sTry 3 "DealError" (sX (zeB 2 zbn (zae (dVar 0) (zae (dVar 1) (mNil)))) fun _ ρ=>.nx ρ) (sSet 2 (dBin oAdd (dBin oAdd (zad (.int 1)) (zbr zeS (zae (zas (dVar 3) fun d=>mOpt (oIsV d)) (mNil)))) (dBin oMul (zad (.int 2)) (zbr zeS (zae (zas (dVar 3) fun d=>mOpt (oIsX "NoWishes" d)) (mNil)))))))
 (sRet (dVar 2)))
def F_ax:List D->Option D:=runD N_ax g_ax
abbrev Saw:Stmt:=top 36
abbrev N_aw:List Str:=["_law_wishes_here", "_law_thing", "_law_found", "e"]
theorem Haw:FnNm (zam Saw) N_aw ["look_at_aim", "NoAim"]:=zbd (by decide +kernel)
def g_aw:SM :=
 sSeq (sSet 2 (mTup (zae (zad (.int 0)) (mNil))))
 (sSeq (sTry 3 "NoAim" (sX (zeB 2 zbn (zae (dVar 0) (zae (dVar 1) (mNil)))) fun d ρ=>if isNon d=true then (sSet 2 (mTup (zae (zad .none) (mNil)))) ρ else (sNx) ρ) (sSet 2 (mTup (zae (zas (dVar 3) fun d=>mOpt (oFld "part" d)) (mNil)))))
 (sRet (dVar 2)))
def F_aw:List D->Option D:=runD N_aw g_aw
abbrev Saq:Stmt:=top 30
abbrev N_aq:List Str:=["_law_wishes_here", "_law_lists", "_law_ranks"]
theorem Haq:FnNm (zam Saq) N_aq ["list"]:=zbd (by decide +kernel)
def zjz:SM :=
 sApp 1 (mMap PyData.list (zdO (zbH (dVar 2)) 1 (gN 3) (zad true) (mMap PyData.list (zd2 3))))
def g_aq:SM :=
 sSeq (zb1 1 (zas (mNil) fun xs=>if xs.length<=1000000 then zad xs else fun _=>.bad))
 (sSeq (sFor (zbH (dIxN 0 (zad (.int 1)))) (gN 2) zjz)
 (sRet (mTup (zae (mMap PyData.list (zas (zae (dIxN 0 (zad (.int 0))) (mNil)) fun xs=>mOpt (zeR xs))) (zae (dVar 1) (mNil))))))
def F_aq:List D->Option D:=runD N_aq g_aq
abbrev Sau:Stmt:=top 34
abbrev N_au:List Str:=["_law_thing", "_law_most"]
theorem Hau:FnNm (zam Sau) N_au ["isinstance", "int", "bool"]:=zbd (by decide +kernel)
def g_au:SM :=
 sRet (zfi (mMap (fun d=>.bool (isTy d "int")) (dVar 0)) (zfi (ziK (mMap (fun d=>.bool (isTy d "bool")) (dVar 0))) (zfi (mMap PyData.bool (dBin (oIB fun i j=>decide (i<=j)) (zad (.int 0)) (dVar 0))) (mMap PyData.bool (zbx (oIB fun i j=>decide (i < j)) 0 (dVar 1))))))
def F_au:List D->Option D:=runD N_au g_au
abbrev Sav:Stmt:=top 35
abbrev N_av:List Str:=["_law_wishes_here", "_law_thing", "_law_one", "_law_at"]
theorem Hav:FnNm (zam Sav) N_av ["enumerate", "len", "_law_number_below", "isinstance", "list", "str", "tuple"]:=zbd (by decide +kernel)
def zgS:SM :=
 sIf (mOr (mNot (zaT (dFun 2 F_au (zae (dVar 2) (zae (zbr oLen (zae (dIxN 0 (zad (.int 1))) (mNil))) (mNil)))))) (zbx oIn 2 (dSlA (dIxN 1 (zad (.int 2))) (zad none) (zas (dVar 3) fun x=>mOpt (zcx x)))))
 (sRet (zad (.str "turns")))
 (sNx)
def zjA:SM :=
 sIf (mAnd (mMap (fun d=>!isNon d) (dVar 2)) (mNot (zaT (dFun 2 F_au (zae (dVar 2) (zae (zbr oLen (zae (dIxN 0 (zad (.int 0))) (mNil))) (mNil)))))))
 (sRet (zad (.str "old")))
 (sNx)
def g_av:SM :=
 sSeq (sIf (mOr (mNot (zaT (mMap (fun d=>.bool (isTy d "tuple")) (dVar 1)))) (dBin oNe (zbZ 1) (zad (.int 3))))
 (sRet (zad (.str "aim")))
 (sNx))
 (sSeq (sIf (mOr (mNot (zaT (mMap (fun d=>.bool (isTy d "str")) (dIxN 1 (zad (.int 0)))))) (dBin oNin (dIxN 1 (zad (.int 0))) (mLst (zae (zad (.str "firsts")) (zae (zad (.str "full")) (zae (zad (.str "lasts")) (mNil)))))))
 (sRet (zad (.str "order")))
 (sNx))
 (sSeq (sIf (mMap (fun d=>!isNon d) (dIxN 1 (zad (.int 1))))
 (sSeq (sIf (mOr (mNot (zaT (mMap (fun d=>.bool (isTy d "list")) (dIxN 1 (zad (.int 1)))))) (dBin oNe (zbr oLen (zae (dIxN 1 (zad (.int 1))) (mNil))) (zbr oLen (zae (dIxN 0 (zad (.int 1))) (mNil)))))
 (sRet (zad (.str "old")))
 (sNx))
 (sFor (zbH (dIxN 1 (zad (.int 1)))) (gN 2) zjA))
 (sNx))
 (sSeq (sIf (mNot (zaT (mMap (fun d=>.bool (isTy d "list")) (dIxN 1 (zad (.int 2))))))
 (sRet (zad (.str "turns")))
 (sNx))
 (sSeq (sFor (zfW (zae (dIxN 1 (zad (.int 2))) (mNil))) (gT 2 (gNC (gN 3) (gNC (gN 2) (gN0)))) zgS)
 (sRet (zad .none))))))
def F_av:List D->Option D:=runD N_av g_av
abbrev Sas:Stmt:=top 32
abbrev N_as:List Str:=["_law_askers", "_law_turns", "_law_way", "_law_place", "_law_odd", "_law_some", "_law_at"]
theorem Has:FnNm (zam Sas) N_as ["list", "tuple", "len"]:=zbd (by decide +kernel)
def g_as:SM :=
 sSeq (zb1 5 (zas (zae (zad .none) (zae (zad (.bool true)) (zae (zad (.bool false)) (zae (dNeg (zad (.int 1))) (zae (dVar 0) (zae (zad (.str "0")) (zae (mLst (zae (zad (.int 0)) (mNil))) (zae (mTup (zae (zad (.int 0)) (mNil))) (zae (dBin oAdd (dVar 0) (zad (.int 7))) (zae (dBin oPow (zad (.int 10)) (zad (.int 40))) (mNil))))))))))) fun xs=>if xs.length<=1000000 then zad xs else fun _=>.bad))
 (sSeq (sSet 6 (dBin oMod (dVar 3) (dBin oAdd (zbZ 1) (zad (.int 1)))))
 (sSeq (sIf (zbx oEq 2 (zad (.int 3)))
 (sRet (dBin oAdd (dBin oAdd (dSlA (dVar 1) (zad none) (zas (dVar 6) fun x=>mOpt (zcx x))) (mLst (zae (dIxN 5 (dVar 4)) (mNil)))) (dSlA (dVar 1) (zas (dVar 6) fun x=>mOpt (zcx x)) (zad none))))
 (sNx))
 (sSeq (sIf (mAnd (zbx oEq 2 (zad (.int 4))) (zbx oNe 1 (mLst (mNil))))
 (sRet (dBin oAdd (dBin oAdd (dSlA (dVar 1) (zad none) (zas (dVar 6) fun x=>mOpt (zcx x))) (mLst (zae (dIxN 1 (dBin oMod (dVar 4) (zbZ 1))) (mNil)))) (dSlA (dVar 1) (zas (dVar 6) fun x=>mOpt (zcx x)) (zad none))))
 (sNx))
 (sSeq (sIf (zbx oEq 2 (zad (.int 5)))
 (sRet (zbr zjs (zae (dVar 1) (mNil))))
 (sNx))
 (sSeq (sIf (zbx oEq 2 (zad (.int 6)))
 (sRet (dIxN 5 (dVar 4)))
 (sNx))
 (sRet (mMap PyData.list (zd2 1))))))))
def F_as:List D->Option D:=runD N_as g_as
abbrev Sar:Stmt:=top 31
abbrev N_ar:List Str:=["_law_wishes_here", "_law_old", "_law_way", "_law_place", "_law_odd", "_law_askers", "_law_things", "_law_some", "_law_row"]
theorem Har:FnNm (zam Sar) N_ar ["tuple", "list", "len"]:=zbd (by decide +kernel)
def g_ar:SM :=
 sSeq (sSet 5 (zbr oLen (zae (dIxN 0 (zad (.int 1))) (mNil))))
 (sSeq (sSet 6 (zbr oLen (zae (dIxN 0 (zad (.int 0))) (mNil))))
 (sSeq (zb1 7 (zas (zae (zad .none) (zae (zad (.bool true)) (zae (zad (.bool false)) (zae (dNeg (zad (.int 1))) (zae (dVar 6) (zae (zad (.str "0")) (zae (mLst (zae (zad (.int 0)) (mNil))) (zae (mTup (zae (zad (.int 0)) (mNil))) (zae (dBin oAdd (dVar 6) (zad (.int 7))) (zae (dBin oPow (zad (.int 10)) (zad (.int 40))) (mNil))))))))))) fun xs=>if xs.length<=1000000 then zad xs else fun _=>.bad))
 (sSeq (zb1 8 (zje (mLst (zae (zad .none) (mNil))) (dVar 5)))
 (sSeq (sIf (mMap (fun d=>!isNon d) (dVar 1))
 (zb1 8 (zd2 1))
 (sNx))
 (sSeq (sIf (zbx oEq 2 (zad (.int 3)))
 (sSeq (zi3 8 (dBin oMod (dVar 3) (dVar 5)) (dIxN 7 (dVar 4)))
 (sRet (dVar 8)))
 (sNx))
 (sSeq (sIf (zbx oEq 2 (zad (.int 4)))
 (sRet (dBin oIx (mLst (zae (dSlA (dVar 8) (zas (zad (.int 1)) fun x=>mOpt (zcx x)) (zad none)) (zae (dBin oAdd (dVar 8) (mLst (zae (zad .none) (mNil)))) (mNil)))) (dBin oMod (dVar 4) (zad (.int 2)))))
 (sNx))
 (sSeq (sIf (zbx oEq 2 (zad (.int 5)))
 (sRet (zbr zjs (zae (dVar 8) (mNil))))
 (sNx))
 (sSeq (sIf (zbx oEq 2 (zad (.int 6)))
 (sRet (dIxN 7 (dVar 4)))
 (sNx))
 (sRet (dVar 1))))))))))
def F_ar:List D->Option D:=runD N_ar g_ar
abbrev San:Stmt:=top 27
abbrev N_an:List Str:=["_law_cell", "_law_salt", "_law_sizes", "_law_number", "_law_left", "_law_found", "_law_k", "_law_one"]
theorem Han:FnNm (zam San) N_an ["len", "range", "max"]:=zbd (by decide +kernel)
def zgT:SM :=
 sIf (mAnd (zbx (oIB fun i j=>decide (j<=i)) 3 (dBin oPow (zad (.int 10)) (zad (.int 18)))) (zbx (oIB fun i j=>decide (j < i)) 4 (zad (.int 0))))
 (sSeq (sApp 5 (dBin oMod (dVar 4) (dIxN 2 (dVar 6))))
 (sSet 4 (dBin oDiv (dVar 4) (dIxN 2 (dVar 6)))))
 (sSeq (sSet 7 (dBin oMod (dBin oAdd (dBin oAdd (dBin oAdd (dVar 3) (dBin oMul (zad (.int 7919)) (dVar 1))) (dBin oMul (dBin oMul (zad (.int 101)) (dVar 6)) (dVar 6))) (dVar 6)) (zad (.int 2147483647))))
 (sSeq (sSet 7 (dBin oMod (dBin oMul (dVar 7) (zad (.int 48271))) (zad (.int 2147483647))))
 (sSeq (sSet 7 (dBin oMod (dBin oMul (dBin oMod (dBin oMul (dVar 7) (dVar 7)) (zad (.int 2147483629))) (zad (.int 48271))) (zad (.int 2147483647))))
 (sApp 5 (dBin oMod (dBin oDiv (dVar 7) (zad (.int 16))) (dIxN 2 (dVar 6)))))))
def g_an:SM :=
 sSeq (sSet 3 (zbr zkq (zae (dVar 0) (zae (dBin oSub (dNeg (zad (.int 1))) (dVar 0)) (mNil)))))
 (sSeq (sSet 4 (dVar 3))
 (sSeq (zb1 5 (zas (mNil) fun xs=>if xs.length<=1000000 then zad xs else fun _=>.bad))
 (sSeq (sFor (zhT (zae (zbZ 2) (mNil))) (gN 6) zgT)
 (sRet (dVar 5)))))
def F_an:List D->Option D:=runD N_an g_an
abbrev Sat:Stmt:=top 33
abbrev N_at:List Str:=["_law_wishes_here", "_law_aim_here", "_law_cell", "_law_salt", "_law_digits", "_law_order", "_law_old", "_law_turns", "_law_words", "_law_some"]
theorem Hat:FnNm (zam Sat) N_at ["len", "_law_odd_turns", "_law_odd_old", "_law_numbers"]:=zbd (by decide +kernel)
def g_at:SM :=
 sSeq (sSet 4 (dFun 3 F_an (zae (dVar 2) (zae (dVar 3) (zae (mLst (zae (zad (.int 4)) (zae (zad (.int 13)) (zae (zad (.int 7)) (zae (zad (.int 8)) (zae (zad (.int 10)) (zae (zad (.int 7)) (zae (zad (.int 8)) (zae (zad (.int 10)) (zae (zad (.int 6)) (zae (zad (.int 7)) (mNil)))))))))))) (mNil))))))
 (sSeq (sAsg (dVar 1) (gT 3 (gNC (gN 5) (gNC (gN 6) (gNC (gN 7) (gN0))))))
 (sSeq (sIf (dBin oEq (dIxN 4 (zad (.int 0))) (zad (.int 1)))
 (sSeq (zb1 8 (zas (zae (zad (.str "first")) (zae (zad (.str "Full")) (zae (zad (.str "")) (zae (zad (.str "lasts ")) (zae (zad (.str " full")) (zae (zad (.str "firstsfull")) (zae (zad (.str "FIRSTS")) (zae (zad (.str "l")) (mNil))))))))) fun xs=>if xs.length<=1000000 then zad xs else fun _=>.bad))
 (sSet 5 (dBin oIx (dBin oAdd (dVar 8) (mLst (zae (zad .none) (zae (zad (.int 1)) (zae (zad (.bool true)) (zae (mLst (zae (zad (.str "full")) (mNil))) (zae (mTup (zae (zad (.str "lasts")) (mNil))) (mNil)))))))) (dIxN 4 (zad (.int 1))))))
 (sNx))
 (sSeq (sSet 6 (dFun 5 F_ar (zae (dVar 0) (zae (dVar 6) (zae (dIxN 4 (zad (.int 2))) (zae (dIxN 4 (zad (.int 3))) (zae (dIxN 4 (zad (.int 4))) (mNil))))))))
 (sSeq (sSet 7 (dFun 5 F_as (zae (zbr oLen (zae (dIxN 0 (zad (.int 1))) (mNil))) (zae (dVar 7) (zae (dIxN 4 (zad (.int 5))) (zae (dIxN 4 (zad (.int 6))) (zae (dIxN 4 (zad (.int 7))) (mNil))))))))
 (sSeq (sIf (dBin oEq (dIxN 4 (zad (.int 8))) (zad (.int 1)))
 (sSeq (zb1 9 (zas (zae (mLst (zae (dVar 5) (zae (dVar 6) (zae (dVar 7) (mNil))))) (zae (mTup (zae (dVar 5) (zae (dVar 6) (mNil)))) (zae (mTup (zae (dVar 5) (zae (dVar 6) (zae (dVar 7) (zae (zad .none) (mNil)))))) (mNil)))) fun xs=>if xs.length<=1000000 then zad xs else fun _=>.bad))
 (sSeq (sSet 9 (dBin oAdd (dVar 9) (mLst (zae (zad .none) (zae (dVar 5) (zae (zad (.int 3)) (zae (zju [(zad (.str "order"),dVar 5)]) (mNil))))))))
 (sRet (dIxN 9 (dIxN 4 (zad (.int 9)))))))
 (sNx))
 (sRet (mTup (zae (dVar 5) (zae (dVar 6) (zae (dVar 7) (mNil)))))))))))
def F_at:List D->Option D:=runD N_at g_at
abbrev Sap:Stmt:=top 29
abbrev N_ap:List Str:=["_law_wishes_here", "_law_cell", "_law_salt", "_law_askers", "_law_sizes", "_law_digits", "_law_old", "_law_turns", "_law_digit"]
theorem Hap:FnNm (zam Sap) N_ap ["_law_numbers", "len"]:=zbd (by decide +kernel)
def zfs:SM :=
 sSet 8 (dBin oMod (dBin oAdd (dVar 8) (zad (.int 1))) (dVar 3))
def zjB:SM :=
 sSeq (zdb (zhZ oIn (dVar 8) 7) zfs 1000)
 (sApp 7 (dVar 8))
def g_ap:SM :=
 sSeq (sSet 3 (zbr oLen (zae (dIxN 0 (zad (.int 1))) (mNil))))
 (sSeq (sSet 4 (dBin oAdd (mLst (zae (zad (.int 3)) (zae (zad (.int 2)) (zae (dBin oAdd (dVar 3) (zad (.int 1))) (mNil))))) (dBin oMul (mLst (zae (dBin oAdd (zbr oLen (zae (dIxN 0 (zad (.int 0))) (mNil))) (zad (.int 1))) (mNil))) (dVar 3))))
 (sSeq (sSet 5 (dFun 3 F_an (zae (dVar 1) (zae (dVar 2) (zae (dBin oAdd (dVar 4) (dBin oMul (mLst (zae (dVar 3) (mNil))) (dVar 3))) (mNil))))))
 (sSeq (sSet 6 (zad .none))
 (sSeq (sIf (dBin oEq (dIxN 5 (zad (.int 1))) (zad (.int 1)))
 (zb1 6 (zdO (zbH (dSlA (dVar 5) (zas (zad (.int 3)) fun x=>mOpt (zcx x)) (zas (dBin oAdd (zad (.int 3)) (dVar 3)) fun x=>mOpt (zcx x)))) 1 (gN 9) (zad true) (dBin oIx (mLst (zae (zad .none) (zae (dBin oSub (dVar 9) (zad (.int 1))) (mNil)))) (zbr zeS (zae (mMap PyData.bool (zbx (oIB fun i j=>decide (j < i)) 9 (zad (.int 0)))) (mNil))))))
 (sNx))
 (sSeq (zb1 7 (zas (mNil) fun xs=>if xs.length<=1000000 then zad xs else fun _=>.bad))
 (sSeq (sFor (zbH (dSlA (dVar 5) (zas (dBin oAdd (zad (.int 3)) (dVar 3)) fun x=>mOpt (zcx x)) (zas (dBin oAdd (dBin oAdd (zad (.int 3)) (dVar 3)) (dIxN 5 (zad (.int 2)))) fun x=>mOpt (zcx x)))) (gN 8) zjB)
 (sRet (mTup (zae (dBin oIx (mLst (zae (zad (.str "firsts")) (zae (zad (.str "full")) (zae (zad (.str "lasts")) (mNil))))) (dIxN 5 (zad (.int 0)))) (zae (dVar 6) (zae (dVar 7) (mNil))))))))))))
def F_ap:List D->Option D:=runD N_ap g_ap
abbrev Sam:Stmt:=top 26
abbrev N_am:List Str:=["_law_script", "_law_k"]
theorem Ham:FnNm (zam Sam) N_am ["len"]:=zbd (by decide +kernel)
def g_am:SM :=
 sSeq (sIf (zbx (oIB fun i j=>decide (i < j)) 1 (zbZ 0))
 (sRet (dIxN 0 (dVar 1)))
 (sNx))
 (sRet (zad (.int 0)))
def F_am:List D->Option D:=runD N_am g_am
abbrev Sao:Stmt:=top 28
abbrev N_ao:List Str:=["_law_script", "_law_at", "_law_most_things", "_law_most_askers", "_law_most_ranks", "_law_sizes", "_law_digits", "_law_copies", "_law_lists", "_law_asker", "_law_cell", "_law_places", "_law_ranks", "_law_rank", "_law_row"]
theorem Hao:FnNm (zam Sao) N_ao ["range", "len", "_law_numbers", "_law_cell_at"]:=zbd (by decide +kernel)
def zgU:SM :=
 sSeq (zb1 14 (zdO (zhT (zae (zbZ 7) (mNil))) 1 (gN 15) (dBin oEq (dIxN 11 (dVar 15)) (dVar 13)) (dVar 15)))
 (sIf (zbx oNe 14 (mLst (mNil)))
 (sApp 12 (dBin oIx (mLst (zae (dVar 14) (zae (dRev (dVar 14) (zad none) (zad none) (zas (dNeg (zad (.int 1))) fun x=>mOpt (zcx x))) (mNil)))) (dIxN 11 (dNeg (zad (.int 1))))))
 (sNx))
def zgV:SM :=
 sSeq (sSet 10 (dFun 2 F_am (zae (dVar 0) (zae (dBin oAdd (dBin oAdd (dVar 1) (zad (.int 1))) (dVar 9)) (mNil)))))
 (sSeq (sSet 11 (dFun 3 F_an (zae (dVar 10) (zae (dBin oAdd (dBin oAdd (dBin oMul (zad (.int 11)) (dVar 1)) (dBin oMul (zad (.int 3)) (dVar 9))) (zad (.int 1))) (zae (dBin oAdd (dBin oMul (mLst (zae (dBin oAdd (dVar 4) (zad (.int 1))) (mNil))) (dVar 2)) (mLst (zae (zad (.int 2)) (mNil)))) (mNil))))))
 (sSeq (zb1 12 (zas (mNil) fun xs=>if xs.length<=1000000 then zad xs else fun _=>.bad))
 (sSeq (sFor (zks (zae (zad (.int 1)) (zae (dBin oAdd (dVar 4) (zad (.int 1))) (mNil)))) (gN 13) zgU)
 (sApp 8 (dVar 12)))))
def g_ao:SM :=
 sSeq (sSet 5 (dBin oAdd (mLst (zae (dVar 2) (zae (dVar 3) (mNil)))) (dBin oMul (mLst (zae (zad (.int 11)) (mNil))) (dVar 2))))
 (sSeq (sSet 6 (dFun 3 F_an (zae (dFun 2 F_am (zae (dVar 0) (zae (dVar 1) (mNil)))) (zae (dVar 1) (zae (dVar 5) (mNil))))))
 (sSeq (zb1 7 (zdO (zbH (dSlA (dVar 6) (zas (zad (.int 2)) fun x=>mOpt (zcx x)) (zas (dBin oAdd (zad (.int 3)) (dIxN 6 (zad (.int 0)))) fun x=>mOpt (zcx x)))) 1 (gN 15) (zad true) (dBin oIx (mLst (zae (zad (.int 1)) (zae (zad (.int 1)) (zae (zad (.int 2)) (zae (zad (.int 0)) (zae (zad (.int 3)) (zae (zad (.int 7)) (zae (zad (.int 1)) (zae (zad (.int 4)) (zae (zad (.int 5)) (zae (zad (.int 6)) (zae (zad (.int 1)) (mNil))))))))))))) (dVar 15))))
 (sSeq (zb1 8 (zas (mNil) fun xs=>if xs.length<=1000000 then zad xs else fun _=>.bad))
 (sSeq (sFor (zhT (zae (dBin oAdd (zad (.int 1)) (dIxN 6 (zad (.int 1)))) (mNil))) (gN 9) zgV)
 (sRet (mTup (zae (dVar 7) (zae (dVar 8) (mNil)))))))))
def F_ao:List D->Option D:=runD N_ao g_ao
abbrev Say:Stmt:=top 38
abbrev N_ay:List Str:=["_law_script", "_law_wishes_here", "_law_aim_here", "_law_cells", "_law_k", "_law_cell", "_law_thing", "_law_due", "_law_handed", "_law_shown", "_law_found"]
theorem Hay:FnNm (zam Say) N_ay ["enumerate", "repr", "_law_by_base", "int", "isinstance", "str", "_law_told", "_law_copy", "_law_part", "_law_odd_aim", "_law_aim", "_law_cell_at", "_law_wishes"]:=zbd (by decide +kernel)
def zjC:SM :=
 sSeq (sIf (dBin oEq (dBin oMod (dVar 4) (zad (.int 4))) (zad (.int 3)))
 (sSet 2 (dFun 3 F_ap (zae (dVar 1) (zae (dVar 5) (zae (dBin oAdd (zad (.int 17)) (dVar 4)) (mNil))))))
 (sNx))
 (sSeq (sSet 6 (dFun 4 F_at (zae (dVar 1) (zae (dVar 2) (zae (dVar 5) (zae (dVar 4) (mNil)))))))
 (sSeq (sSet 7 (dFun 2 F_av (zae (dVar 1) (zae (dVar 6) (mNil)))))
 (sSeq (sSet 8 (dFun 1 F_aq (zae (dVar 1) (mNil))))
 (sSeq (sSet 9 (zbr zdz (zae (dVar 6) (mNil))))
 (sSeq (sSet 10 (dFun 2 F_aw (zae (dVar 8) (zae (dVar 6) (mNil)))))
 (sSeq (sIf (mOr (zbx oNe 10 (mTup (zae (dVar 7) (mNil)))) (mAnd (mMap (fun d=>!isNon d) (dVar 7)) (mNot (zaT (mMap (fun d=>.bool (isTy d "str")) (dIxN 10 (zad (.int 0))))))))
 (sRet (zad (.bool false)))
 (sNx))
 (sSeq (sIf (mAnd (dBin oEq (dBin oMod (dVar 4) (zad (.int 3))) (zad (.int 0))) (dBin oNe (dFun 2 F_ax (zae (dVar 8) (zae (dVar 6) (mNil)))) (dBin oIx (mLst (zae (zad (.int 2)) (zae (zad (.int 0)) (mNil)))) (zbr zeS (zae (mMap (fun d=>.bool (isNon d)) (dVar 7)) (mNil))))))
 (sRet (zad (.bool false)))
 (sNx))
 (sIf (mOr (dBin oNeT (zbr zdz (zae (dVar 6) (mNil))) (dVar 9)) (zbx oNe 8 (dVar 1)))
 (sRet (zad (.bool false)))
 (sNx)))))))))
def g_ay:SM :=
 sSeq (sSet 1 (dFun 5 F_ao (zae (dVar 0) (zae (zad (.int 1)) (zae (zad (.int 6)) (zae (zad (.int 7)) (zae (zad (.int 5)) (mNil))))))))
 (sSeq (sSet 2 (dFun 3 F_ap (zae (dVar 1) (zae (dFun 2 F_am (zae (dVar 0) (zae (zad (.int 0)) (mNil)))) (zae (zad (.int 5)) (mNil))))))
 (sSeq (sSet 3 (dBin oAdd (dSlA (dVar 0) (zas (zad (.int 9)) fun x=>mOpt (zcx x)) (zas (zad (.int 50)) fun x=>mOpt (zcx x))) (mLst (zae (dFun 2 F_am (zae (dVar 0) (zae (zad (.int 2)) (mNil)))) (zae (dFun 2 F_am (zae (dVar 0) (zae (zad (.int 0)) (mNil)))) (mNil))))))
 (sSeq (sFor (zfW (zae (dVar 3) (mNil))) (gT 2 (gNC (gN 4) (gNC (gN 5) (gN0)))) zjC)
 (sRet (zad (.bool true))))))
def F_ay:List D->Option D:=runD N_ay g_ay
section
variable {P:Program} {w:World} {K:PySem.W.Frag} {mg:Str->Option Value} {base:Heap} {f:Addr} {fd:FuncData} (T:Txt K mg)
include T
theorem Kaa (F:Fun K "is_whole" "is_whole" Saa f fd):FnOk P w K mg base CX0 1 f fd ["thing"] (spD K 1 F_aa) :=
 okD (k:=0) (g:=g_aa) F (fq Haa 1) rfl fun cdv A outer s H E B G0 hr =>
 have hu:=hr.units
 have hgd:=hr.gd
 (zaq (zaH (zdM (zaI (c := "int") (by decide) (gq Haa 0) T.b_isinstance (gq Haa 1) T.b_int (by decide +kernel) (zag (pq Haa 0)) (by decide) (by decide)) (zen (ziL (zaI (c := "bool") (by decide) (gq Haa 0) T.b_isinstance (gq Haa 2) T.b_bool (by decide +kernel) (zag (pq Haa 0)) (by decide) (by decide)))))))
theorem Kab (d_aa:Def P w K mg base "is_whole" 1 1 F_aa) (F:Fun K "is_number_below" "is_number_below" Sab f fd):FnOk P w K mg base CX0 2 f fd ["thing", "many"] (spD K 2 F_ab) :=
 okD (k:=1) (g:=g_ab) F (fq Hab 2) rfl fun cdv A outer s H E B G0 hr =>
 have hu:=hr.units
 have hgd:=hr.gd
 (zaq (zaH (zdM (pdf d_aa hr (gq Hab 0) (zaa (zag (pq Hab 0)) zah)) (zen (ziJ B_le B_lt zai (zag (pq Hab 0)) (zag (pq Hab 1)))))))
theorem Kak (d_ab:Def P w K mg base "is_number_below" 2 2 F_ab) (F:Fun K "is_turns" "is_turns" Sak f fd):FnOk P w K mg base CX0 3 f fd ["thing", "askers"] (spD K 2 F_ak) :=
 okD (k:=2) (g:=g_ak) F (fq Hak 2) rfl fun cdv A outer s H E B G0 hr =>
 have hu:=hr.units
 have hgd:=hr.gd
 (zal (zbe (PW.pt (zcp (za2 (za8 (zaI (c := "list") (by decide) (gq Hak 2) T.b_isinstance (gq Hak 3) T.b_list (by decide +kernel) (zag (pq Hak 0)) (by decide) (by decide)))) (zbU (za2 (za8 (za0 (zkw rfl) (gq Hak 4) T.b_all PyProof.Rows.boot_all (zaa (zcX (zi1 (zam Sak) N_ak ["thing", "askers", "asker"] 1 zcs rfl (zcO (zag (pq Hak 0))) (fun cl C s0 H0 ex=>⟨fun B' G'=>(zaG (zaF (i:=2) (show (["thing", "askers", "asker"]:List Str).Nodup by decide +kernel) rfl (zcy rfl) (.inr (zc9 rfl)))),fun B' G'=>zcJ,(zbX rfl rfl rfl fun B' G'=>(pdf d_ab hr (ze0 rfl) (zaa (zag (pvb 2)) (zaa (zag (pvb 1)) zah))))⟩) rfl rfl (by decide +kernel))) zah)))))))
 (zaq (zaH zbO))
 zaM)
 (zaq (zaH (zgI (B_eq hu) (ze2 rfl (gq Hak 0) T.b_len (gq Hak 1) T.b_set (zaa (zag (pq Hak 0)) zah)) (za3 (gq Hak 0) T.b_len (pq Hak 0)) (zaS _)))))
theorem Kaj (d_ab:Def P w K mg base "is_number_below" 2 2 F_ab) (F:Fun K "is_old" "is_old" Saj f fd):FnOk P w K mg base CX0 3 f fd ["thing", "askers", "things"] (spD K 3 F_aj) :=
 okD (k:=2) (g:=g_aj) F (fq Haj 3) rfl fun cdv A outer s H E B G0 hr =>
 have hu:=hr.units
 have hgd:=hr.gd
 (zal (zbe (zlP (zag (pq Haj 0)))
 (zaq (zaH zbO))
 zaM)
 (zal (zbe (PW.pt (zcp (za2 (za8 (zaI (c := "list") (by decide) (gq Haj 1) T.b_isinstance (gq Haj 2) T.b_list (by decide +kernel) (zag (pq Haj 0)) (by decide) (by decide)))) (zbU (zbI (B_ne hu) (za3 (gq Haj 3) T.b_len (pq Haj 0)) (zag (pq Haj 1)) (zaS _)))))
 (zaq (zaH zbO))
 zaM)
 (zaq (zaH (za0 (zkw rfl) (gq Haj 0) T.b_all PyProof.Rows.boot_all (zaa (zcX (zi1 (zam Saj) N_aj ["thing", "askers", "things", "kept"] 1 zcs rfl (zcO (zag (pq Haj 0))) (fun cl C s0 H0 ex=>⟨fun B' G'=>(zaG (zaF (i:=3) (show (["thing", "askers", "things", "kept"]:List Str).Nodup by decide +kernel) rfl (zcy rfl) (.inr (zc9 rfl)))),fun B' G'=>zcJ,(zbX rfl rfl rfl fun B' G'=>(znx (ziM (zag (pvb 3))) (zen (pdf d_ab hr (ze0 rfl) (zaa (zag (pvb 3)) (zaa (zag (pvb 2)) zah))))))⟩) rfl rfl (by decide +kernel))) zah))))))
theorem Kah (F:Fun K "is_order" "is_order" Sah f fd):FnOk P w K mg base CX0 1 f fd ["thing"] (spD K 1 F_ah) :=
 okD (k:=0) (g:=g_ah) F (fq Hah 1) rfl fun cdv A outer s H E B G0 hr =>
 have hu:=hr.units
 have hgd:=hr.gd
 (zaq (zaH (zdM (zaI (c := "str") (by decide) (gq Hah 0) T.b_isinstance (gq Hah 1) T.b_str (by decide +kernel) (zag (pq Hah 0)) (by decide) (by decide)) (zen (zgM (B_in hu) (pq Hah 0) (zoI (gq Hah 2) T.c_ORDERS) rfl)))))
theorem zdS (d_ah:Def P w K mg base "is_order" 1 1 F_ah) (m_NoAim:MkX P w K mg base "NoAim" 2) (F:Fun K "look_at_order" "look_at_order" zcP f fd):FnOk P w K mg base (CX1 P w) 4 f fd ["thing"] (spX K 1 zbl) :=
 okX (k:=3) (g:=zb9) F (fq zbF 1) rfl fun cdv A outer s H E B G0 hr =>
 have hu:=hr.units
 have hgd:=hr.gd
 (zaq (zbe (za2 (za8 (pdf d_ah hr (gq zbF 0) (zaa (zag (pq zbF 0)) zah))))
 (zaq (zcc m_NoAim hr rfl zbz (gq zbF 1) (zaa zaW zah)))
 zaM))
theorem Kad (d_ab:Def P w K mg base "is_number_below" 2 2 F_ab) (F:Fun K "is_rank" "is_rank" Sad f fd):FnOk P w K mg base CX0 3 f fd ["thing", "things"] (spD K 2 F_ad) :=
 okD (k:=2) (g:=g_ad) F (fq Had 2) rfl fun cdv A outer s H E B G0 hr =>
 have hu:=hr.units
 have hgd:=hr.gd
 (zal (zbe (PW.pt (zcp (za2 (za8 (zaI (c := "list") (by decide) (gq Had 1) T.b_isinstance (gq Had 2) T.b_list (by decide +kernel) (zag (pq Had 0)) (by decide) (by decide)))) (zbU (zbI (B_eq hu) (za3 (gq Had 3) T.b_len (pq Had 0)) zai (zaS _)))))
 (zaq (zaH zbO))
 zaM)
 (zaq (zaH (za0 (zkw rfl) (gq Had 0) T.b_all PyProof.Rows.boot_all (zaa (zcX (zi1 (zam Sad) N_ad ["thing", "things", "number"] 1 zcs rfl (zcO (zag (pq Had 0))) (fun cl C s0 H0 ex=>⟨fun B' G'=>(zaG (zaF (i:=2) (show (["thing", "things", "number"]:List Str).Nodup by decide +kernel) rfl (zcy rfl) (.inr (zc9 rfl)))),fun B' G'=>zcJ,(zbX rfl rfl rfl fun B' G'=>(pdf d_ab hr (ze0 rfl) (zaa (zag (pvb 2)) (zaa (zag (pvb 1)) zah))))⟩) rfl rfl (by decide +kernel))) zah)))))
theorem Kae (d_ad:Def P w K mg base "is_rank" 3 2 F_ad) (F:Fun K "is_asker_list" "is_asker_list" Sae f fd):FnOk P w K mg base CX0 4 f fd ["thing", "things"] (spD K 2 F_ae) :=
 okD (k:=3) (g:=g_ae) F (fq Hae 2) rfl fun cdv A outer s H E B G0 hr =>
 have hu:=hr.units
 have hgd:=hr.gd
 (zal (zbe (PW.pt (zcp (za2 (za8 (zaI (c := "list") (by decide) (gq Hae 3) T.b_isinstance (gq Hae 4) T.b_list (by decide +kernel) (zag (pq Hae 0)) (by decide) (by decide)))) (zbU (zbI B_gt (za3 (gq Hae 0) T.b_len (pq Hae 0)) (zky (gq Hae 5) T.c_MOST_RANKS) (zaS _)))))
 (zaq (zaH zbO))
 zaM)
 (zal (zbe (za2 (za8 (za0 (zkw rfl) (gq Hae 2) T.b_all PyProof.Rows.boot_all (zaa (zcX (zi1 (zam Sae) N_ae ["thing", "things", "wished", "rank"] 1 zcs rfl (zcO (zag (pq Hae 0))) (fun cl C s0 H0 ex=>⟨fun B' G'=>(zaG (zaF (i:=3) (show (["thing", "things", "wished", "rank"]:List Str).Nodup by decide +kernel) rfl (zcy rfl) (.inr (zc9 rfl)))),fun B' G'=>zcJ,(zbX rfl rfl rfl fun B' G'=>(pdf d_ad hr (ze0 rfl) (zaa (zag (pvb 3)) (zaa (zag (pvb 1)) zah))))⟩) rfl rfl (by decide +kernel))) zah))))
 (zaq (zaH zbO))
 zaM)
 (zal (sD_1 (j:=2) (zam Sae) N_ae ["thing", "things", "wished", "rank", "number"] 2 ziZ (nq Hae) rfl rfl rfl (zcO (zag (pq Hae 0))) (fun cl C s0 H0 ex=>⟨fun B' G'=>(zaG (zaF (i:=3) (show (["thing", "things", "wished", "rank", "number"]:List Str).Nodup by decide +kernel) rfl (zcy rfl) (.inr (zc9 rfl)))),fun B' G'=>zcJ,(ziW rfl rfl rfl rfl (fun _=>rfl) (fun B' G'=>(zcO (zag (pvb 3)))) (fun B' G'=>(zaG (zaF (i:=4) (show (["thing", "things", "wished", "rank", "number"]:List Str).Nodup by decide +kernel) rfl (zcy rfl) (.inr (zc9 rfl))))) (fun B' G'=>zcJ) (zbX rfl rfl rfl fun B' G'=>(zag (pvb 4))))⟩) rfl rfl (by decide +kernel))
 (zaq (zaH (zgI (B_eq hu) (ze2 rfl (gq Hae 0) T.b_len (gq Hae 1) T.b_set (zaa (zag (pq Hae 2)) zah)) (za3 (gq Hae 0) T.b_len (pq Hae 2)) (zaS _)))))))
theorem zdT (d_ae:Def P w K mg base "is_asker_list" 4 2 F_ae) (m_NoWishes:MkX P w K mg base "NoWishes" 2) (F:Fun K "look_at_lists" "look_at_lists" zcR f fd):FnOk P w K mg base (CX1 P w) 5 f fd ["lists", "things"] (spX K 2 zbN) :=
 okX (k:=4) (g:=zca) F (fq zap 2) rfl fun cdv A outer s H E B G0 hr =>
 have hu:=hr.units
 have hgd:=hr.gd
 (zal (zbe (PW.pt (zcp (za2 (za8 (zaI (c := "list") (by decide) (gq zap 3) T.b_isinstance (gq zap 4) T.b_list (by decide +kernel) (zag (pq zap 0)) (by decide) (by decide)))) (zbU (za2 (zfT B_le B_le zai (za3 (gq zap 5) T.b_len (pq zap 0)) (zky (gq zap 6) T.c_MOST_ASKERS))))))
 (zaq (zcc m_NoWishes hr rfl zbz (gq zap 2) (zaa zaW (zaa zbT zah))))
 zaM)
 (zaq (zc8 zfS rfl (zfj (gq zap 0) T.b_enumerate (zaa (zag (pq zap 0)) zah)) (zdZ rfl (zbs (zaG (zaF (i:=2) (nq zap) rfl (lq zap 2))) (zbs (zaG (zaF (i:=3) (nq zap) rfl (lq zap 3))) zdY)))
 (zaq (zbe (za2 (za8 (pdf d_ae hr (gq zap 1) (zaa (zag (pq zap 3)) (zaa (zag (pq zap 1)) zah)))))
 (zaq (zcc m_NoWishes hr rfl zbz (gq zap 2) (zaa zaW (zaa (zag (pq zap 2)) zah))))
 zaM)))))
theorem zdA (d_ab:Def P w K mg base "is_number_below" 2 2 F_ab) (m_NoWishes:MkX P w K mg base "NoWishes" 2) (F:Fun K "look_at_copies" "look_at_copies" zcD f fd):FnOk P w K mg base (CX1 P w) 4 f fd ["copies"] (spX K 1 zbG) :=
 okX (k:=3) (g:=zb4) F (fq zan 1) rfl fun cdv A outer s H E B G0 hr =>
 have hu:=hr.units
 have hgd:=hr.gd
 (zal (zbe (PW.pt (zcp (za2 (za8 (zaI (c := "list") (by decide) (gq zan 4) T.b_isinstance (gq zan 5) T.b_list (by decide +kernel) (zag (pq zan 0)) (by decide) (by decide)))) (zbU (za2 (zfT B_le B_le zai (za3 (gq zan 6) T.b_len (pq zan 0)) (zky (gq zan 7) T.c_MOST_THINGS))))))
 (zaq (zcc m_NoWishes hr rfl zbz (gq zan 3) (zaa zaW (zaa zbT zah))))
 zaM)
 (zaq (zc8 zfS rfl (zfj (gq zan 0) T.b_enumerate (zaa (zag (pq zan 0)) zah)) (zdZ rfl (zbs (zaG (zaF (i:=1) (nq zan) rfl (lq zan 1))) (zbs (zaG (zaF (i:=2) (nq zan) rfl (lq zan 2))) zdY)))
 (zaq (zbe (za2 (za8 (pdf d_ab hr (gq zan 2) (zaa (zag (pq zan 2)) (zaa (zaE zbq (zky (gq zan 1) T.c_MOST_COPIES) zai) zah)))))
 (zaq (zcc m_NoWishes hr rfl zbz (gq zan 3) (zaa zaW (zaa (zag (pq zan 1)) zah))))
 zaM)))))
theorem zdB (dX_look_at_lists:DefX P w K mg base "look_at_lists" 5 2 zbN) (dX_look_at_copies:DefX P w K mg base "look_at_copies" 4 1 zbG) (m_NoWishes:MkX P w K mg base "NoWishes" 2) (F:Fun K "look_at_wishes" "look_at_wishes" zcF f fd):FnOk P w K mg base (CX1 P w) 6 f fd ["thing"] (spX K 1 zbf) :=
 okX (k:=5) (g:=zb5) F (fq zao 1) rfl fun cdv A outer s H E B G0 hr =>
 have hu:=hr.units
 have hgd:=hr.gd
 (zal (zbe (PW.pt (zcp (za2 (za8 (zaI (c := "tuple") (by decide) (gq zao 3) T.b_isinstance (gq zao 4) T.b_tuple (by decide +kernel) (zag (pq zao 0)) (by decide) (by decide)))) (zbU (zbI (B_ne hu) (za3 (gq zao 0) T.b_len (pq zao 0)) zai (zaS _)))))
 (zaq (zcc m_NoWishes hr rfl zbz (gq zao 5) (zaa zaW (zaa zbT zah))))
 zaM)
 (zal (zhj (zag (pq zao 0)) (zdZ rfl (zbs (zaG (zaF (i:=1) (nq zao) rfl (lq zao 1))) (zbs (zaG (zaF (i:=2) (nq zao) rfl (lq zao 2))) zdY))))
 (zal (zdy (zc7 dX_look_at_copies hr zbz (gq zao 2) (zaa (zag (pq zao 1)) zah)))
 (zaq (zdy (zc7 dX_look_at_lists hr zbz (gq zao 1) (zaa (zag (pq zao 2)) (zaa (za3 (gq zao 0) T.b_len (pq zao 1)) zah))))))))
theorem zeF (d_ak:Def P w K mg base "is_turns" 3 2 F_ak) (d_aj:Def P w K mg base "is_old" 3 3 F_aj) (dX_look_at_order:DefX P w K mg base "look_at_order" 4 1 zbl) (dX_look_at_wishes:DefX P w K mg base "look_at_wishes" 6 1 zbf) (m_NoAim:MkX P w K mg base "NoAim" 2) (F:Fun K "look_at_aim" "look_at_aim" zdc f fd):FnOk P w K mg base (CX1 P w) 7 f fd ["wishes", "thing"] (spX K 2 zbn) :=
 okX (k:=6) (g:=zcA) F (fq zaj 2) rfl fun cdv A outer s H E B G0 hr =>
 have hu:=hr.units
 have hgd:=hr.gd
 (zal (zdy (zc7 dX_look_at_wishes hr zbz (gq zaj 7) (zaa (zag (pq zaj 0)) zah)))
 (zal (zbe (PW.pt (zcp (za2 (za8 (zaI (c := "tuple") (by decide) (gq zaj 5) T.b_isinstance (gq zaj 6) T.b_tuple (by decide +kernel) (zag (pq zaj 1)) (by decide) (by decide)))) (zbU (zbI (B_ne hu) (za3 (gq zaj 0) T.b_len (pq zaj 1)) zai (zaS _)))))
 (zaq (zcc m_NoAim hr rfl zbz (gq zaj 2) (zaa zaW zah)))
 zaM)
 (zal (zhj (zag (pq zaj 0)) (zdZ rfl (zbs (zaG (zaF (i:=2) (nq zaj) rfl (lq zaj 2))) (zbs (zaG (zaF (i:=3) (nq zaj) rfl (lq zaj 3))) zdY))))
 (zal (zhj (zag (pq zaj 1)) (zdZ rfl (zbs (zaG (zaF (i:=4) (nq zaj) rfl (lq zaj 4))) (zbs (zaG (zaF (i:=5) (nq zaj) rfl (lq zaj 5))) (zbs (zaG (zaF (i:=6) (nq zaj) rfl (lq zaj 6))) zdY)))))
 (zal (zdy (zc7 dX_look_at_order hr zbz (gq zaj 4) (zaa (zag (pq zaj 4)) zah)))
 (zal (zbe (za2 (za8 (pdf d_aj hr (gq zaj 3) (zaa (zag (pq zaj 5)) (zaa (za3 (gq zaj 0) T.b_len (pq zaj 3)) (zaa (za3 (gq zaj 0) T.b_len (pq zaj 2)) zah))))))
 (zaq (zcc m_NoAim hr rfl zbz (gq zaj 2) (zaa zaW zah)))
 zaM)
 (zaq (zbe (za2 (za8 (pdf d_ak hr (gq zaj 1) (zaa (zag (pq zaj 6)) (zaa (za3 (gq zaj 0) T.b_len (pq zaj 3)) zah)))))
 (zaq (zcc m_NoAim hr rfl zbz (gq zaj 2) (zaa zaW zah)))
 zaM))))))))
theorem Kax (dX_look_at_aim:DefX P w K mg base "look_at_aim" 7 2 zbn) (F:Fun K "_law_by_base" "_law_by_base" Sax f fd):FnOk P w K mg base CX0 8 f fd ["_law_wishes_here", "_law_thing"] (spD K 2 F_ax) :=
 okD (k:=7) (g:=g_ax) F (fq Hax 2) rfl fun cdv A outer s H E B G0 hr =>
 have hu:=hr.units
 have hgd:=hr.gd
 (zal (zaQ (i:=2) (nq Hax) rfl (lq Hax 2) zai)
 (zal (zle (i:=3) T.x_DealError (gq Hax 5) (nq Hax) rfl rfl (fun KX' W pn hw=>(zaq (zdy (zc7 dX_look_at_aim hr hw (gq Hax 0) (zaa (zag (pq Hax 0)) (zaa (zag (pq Hax 1)) zah)))))) (fun a=>(zaq (zaQ (i:=2) (nq Hax) rfl (lq Hax 2) (zaE zbq (zaE zbq zai (zcd zhn (gq Hax 3) T.b_int PyProof.Rows.boot_int (zaa (zma (gq Hax 1) T.b_isinstance (gq Hax 2) T.b_ValueError (zag (pq Hax 3))) zah))) (zaE zdK zai (zcd zhn (gq Hax 3) T.b_int PyProof.Rows.boot_int (zaa (zl8 T.x_NoWishes (gq Hax 1) T.b_isinstance (gq Hax 4) (zag (pq Hax 3))) zah))))))))
 (zaq (zaH (zag (pq Hax 2))))))
theorem Kaw (dX_look_at_aim:DefX P w K mg base "look_at_aim" 7 2 zbn) (F:Fun K "_law_told" "_law_told" Saw f fd):FnOk P w K mg base CX0 8 f fd ["_law_wishes_here", "_law_thing"] (spD K 2 F_aw) :=
 okD (k:=7) (g:=g_aw) F (fq Haw 2) rfl fun cdv A outer s H E B G0 hr =>
 have hu:=hr.units
 have hgd:=hr.gd
 (zal (zaQ (i:=2) (nq Haw) rfl (lq Haw 2) (zb0 (zaa zai zah)))
 (zal (zle (i:=3) T.x_NoAim (gq Haw 1) (nq Haw) rfl rfl (fun KX' W pn hw=>(zaq (zmj (zc7 dX_look_at_aim hr hw (gq Haw 0) (zaa (zag (pq Haw 0)) (zaa (zag (pq Haw 1)) zah)))
 (zaq (zaQ (i:=2) (nq Haw) rfl (lq Haw 2) (zb0 (zaa zbT zah))))
 zaM))) (fun a=>(zaq (zaQ (i:=2) (nq Haw) rfl (lq Haw 2) (zb0 (zaa (zkH (zag (pq Haw 3))) zah))))))
 (zaq (zaH (zag (pq Haw 2))))))
theorem Kaq (F:Fun K "_law_copy" "_law_copy" Saq f fd):FnOk P w K mg base CX0 1 f fd ["_law_wishes_here"] (spD K 1 F_aq) :=
 okD (k:=0) (g:=g_aq) F (fq Haq 1) rfl fun cdv A outer s H E B G0 hr =>
 have hu:=hr.units
 have hgd:=hr.gd
 (zal (zcg (i:=1) (nq Haq) rfl (lq Haq 1) (zcI zah))
 (zal (zc8 PassesOwn.never rfl (zcO (zaz (pq Haq 0) zai (fun _ _=>rfl))) (zaG (zaF (i:=2) (nq Haq) rfl (lq Haq 2)))
 (zaq (zeY (pq Haq 1) (zcX (zi1 (zam Saq) N_aq ["_law_wishes_here", "_law_lists", "_law_ranks", "_law_row"] 1 zcs rfl (zcO (zag (pq Haq 2))) (fun cl C s0 H0 ex=>⟨fun B' G'=>(zaG (zaF (i:=3) (show (["_law_wishes_here", "_law_lists", "_law_ranks", "_law_row"]:List Str).Nodup by decide +kernel) rfl (zcy rfl) (.inr (zc9 rfl)))),fun B' G'=>zcJ,(zbX rfl rfl rfl fun B' G'=>(zcX (zev (ze0 rfl) T.b_list (pvb 3))))⟩) rfl rfl (by decide +kernel))))))
 (zaq (zaH (zb0 (zaa (zcX (zkA (gq Haq 0) T.b_list (zaa (zaz (pq Haq 0) zai (fun _ _=>rfl)) zah))) (zaa (zag (pq Haq 1)) zah)))))))
theorem Kau (F:Fun K "_law_number_below" "_law_number_below" Sau f fd):FnOk P w K mg base CX0 1 f fd ["_law_thing", "_law_most"] (spD K 2 F_au) :=
 okD (k:=0) (g:=g_au) F (fq Hau 2) rfl fun cdv A outer s H E B G0 hr =>
 have hu:=hr.units
 have hgd:=hr.gd
 (zaq (zaH (zdM (zaI (c := "int") (by decide) (gq Hau 0) T.b_isinstance (gq Hau 1) T.b_int (by decide +kernel) (zag (pq Hau 0)) (by decide) (by decide)) (zdM (ziL (zaI (c := "bool") (by decide) (gq Hau 0) T.b_isinstance (gq Hau 2) T.b_bool (by decide +kernel) (zag (pq Hau 0)) (by decide) (by decide))) (zdM (zgI B_le zai (zag (pq Hau 0)) (zaS _)) (zen (zgM B_lt (pq Hau 0) (zag (pq Hau 1)) (zaS _))))))))
theorem Kav (d_au:Def P w K mg base "_law_number_below" 1 2 F_au) (F:Fun K "_law_part" "_law_part" Sav f fd):FnOk P w K mg base CX0 2 f fd ["_law_wishes_here", "_law_thing"] (spD K 2 F_av) :=
 okD (k:=1) (g:=g_av) F (fq Hav 2) rfl fun cdv A outer s H E B G0 hr =>
 have hu:=hr.units
 have hgd:=hr.gd
 (zal (zbe (PW.pt (zcp (za2 (za8 (zaI (c := "tuple") (by decide) (gq Hav 3) T.b_isinstance (gq Hav 6) T.b_tuple (by decide +kernel) (zag (pq Hav 1)) (by decide) (by decide)))) (zbU (zbI (B_ne hu) (za3 (gq Hav 1) T.b_len (pq Hav 1)) zai (zaS _)))))
 (zaq (zaH zaW))
 zaM)
 (zal (zbe (PW.pt (zcp (za2 (za8 (zaI (c := "str") (by decide) (gq Hav 3) T.b_isinstance (gq Hav 5) T.b_str (by decide +kernel) (zaz (pq Hav 1) zai (fun _ _=>rfl)) (by decide) (by decide)))) (zbU (zbI (zoH hu) (zaz (pq Hav 1) zai (fun _ _=>rfl)) (zaP (zaa zaW (zaa zaW (zaa zaW zah)))) rfl))))
 (zaq (zaH zaW))
 zaM)
 (zal (zbe (zd9 (zaz (pq Hav 1) zai (fun _ _=>rfl)))
 (zal (zbe (PW.pt (zcp (za2 (za8 (zaI (c := "list") (by decide) (gq Hav 3) T.b_isinstance (gq Hav 4) T.b_list (by decide +kernel) (zaz (pq Hav 1) zai (fun _ _=>rfl)) (by decide) (by decide)))) (zbU (zbI (B_ne hu) (za0 zeO (gq Hav 1) T.b_len boot_len (zaa (zaz (pq Hav 1) zai (fun _ _=>rfl)) zah)) (za0 zeO (gq Hav 1) T.b_len boot_len (zaa (zaz (pq Hav 0) zai (fun _ _=>rfl)) zah)) (zaS _)))))
 (zaq (zaH zaW))
 zaM)
 (zaq (zc8 PassesOwn.never rfl (zcO (zaz (pq Hav 1) zai (fun _ _=>rfl))) (zaG (zaF (i:=2) (nq Hav) rfl (lq Hav 2)))
 (zaq (zbe (PW.pt (zem (zd9 (zag (pq Hav 2))) (zdq (za2 (za8 (pdf d_au hr (gq Hav 2) (zaa (zag (pq Hav 2)) (zaa (za0 zeO (gq Hav 1) T.b_len boot_len (zaa (zaz (pq Hav 0) zai (fun _ _=>rfl)) zah)) zah))))))))
 (zaq (zaH zaW))
 zaM)))))
 zaM)
 (zal (zbe (za2 (za8 (zaI (c := "list") (by decide) (gq Hav 3) T.b_isinstance (gq Hav 4) T.b_list (by decide +kernel) (zaz (pq Hav 1) zai (fun _ _=>rfl)) (by decide) (by decide))))
 (zaq (zaH zaW))
 zaM)
 (zal (zc8 PassesOwn.never rfl (zfj (gq Hav 0) T.b_enumerate (zaa (zaz (pq Hav 1) zai (fun _ _=>rfl)) zah)) (zdZ rfl (zbs (zaG (zaF (i:=3) (nq Hav) rfl (lq Hav 3))) (zbs (zaG (zaF (i:=2) (nq Hav) rfl (lq Hav 2))) zdY)))
 (zaq (zbe (PW.pt (zcp (za2 (za8 (pdf d_au hr (gq Hav 2) (zaa (zag (pq Hav 2)) (zaa (za0 zeO (gq Hav 1) T.b_len boot_len (zaa (zaz (pq Hav 0) zai (fun _ _=>rfl)) zah)) zah))))) (zbU (zbJ (B_in hu) (pq Hav 2) (zbm (zaz (pq Hav 1) zai (fun _ _=>rfl)) zcq (zbj (zag (pq Hav 3)))) rfl))))
 (zaq (zaH zaW))
 zaM)))
 (zaq (zaH zbT)))))))
theorem Kas (F:Fun K "_law_odd_turns" "_law_odd_turns" Sas f fd):FnOk P w K mg base CX0 1 f fd ["_law_askers", "_law_turns", "_law_way", "_law_place", "_law_odd"] (spD K 5 F_as) :=
 okD (k:=0) (g:=g_as) F (fq Has 5) rfl fun cdv A outer s H E B G0 hr =>
 have hu:=hr.units
 have hgd:=hr.gd
 (zal (zcg (i:=5) (nq Has) rfl (lq Has 5) (zcI (zaa zbT (zaa zbO (zaa zbO (zaa (zer zai) (zaa (zag (pq Has 0)) (zaa zaW (zaa (zaP (zaa zai zah)) (zaa (zb0 (zaa zai zah)) (zaa (zaE zbq (zag (pq Has 0)) zai) (zaa (zaE zlN zai zai) zah))))))))))))
 (zal (zaQ (i:=6) (nq Has) rfl (lq Has 6) (zaE zdL (zag (pq Has 3)) (zaE zbq (za3 (gq Has 2) T.b_len (pq Has 1)) zai)))
 (zal (zbe (zbJ (B_eq hu) (pq Has 2) zai (zaS _))
 (zaq (zaH (zaE zbq (zaE zbq (zbm (zag (pq Has 1)) zcq (zbj (zag (pq Has 6)))) (zaP (zaa (zaz (pq Has 5) (zag (pq Has 4)) (fun _ _=>rfl)) zah))) (zbm (zag (pq Has 1)) (zbj (zag (pq Has 6))) zcq))))
 zaM)
 (zal (zbe (PW.pt (zem (zbJ (B_eq hu) (pq Has 2) zai (zaS _)) (zdq (zbJ (B_ne hu) (pq Has 1) (zaP zah) (zaS _)))))
 (zaq (zaH (zaE zbq (zaE zbq (zbm (zag (pq Has 1)) zcq (zbj (zag (pq Has 6)))) (zaP (zaa (zaz (pq Has 1) (zaE zdL (zag (pq Has 4)) (za3 (gq Has 2) T.b_len (pq Has 1))) (fun _ _=>rfl)) zah))) (zbm (zag (pq Has 1)) (zbj (zag (pq Has 6))) zcq))))
 zaM)
 (zal (zbe (zbJ (B_eq hu) (pq Has 2) zai (zaS _))
 (zaq (zaH (zcd znT (gq Has 1) T.b_tuple zeA (zaa (zag (pq Has 1)) zah))))
 zaM)
 (zal (zbe (zbJ (B_eq hu) (pq Has 2) zai (zaS _))
 (zaq (zaH (zaz (pq Has 5) (zag (pq Has 4)) (fun _ _=>rfl))))
 zaM)
 (zaq (zaH (zcX (zev (gq Has 0) T.b_list (pq Has 1)))))))))))
theorem Kar (F:Fun K "_law_odd_old" "_law_odd_old" Sar f fd):FnOk P w K mg base CX0 1 f fd ["_law_wishes_here", "_law_old", "_law_way", "_law_place", "_law_odd"] (spD K 5 F_ar) :=
 okD (k:=0) (g:=g_ar) F (fq Har 5) rfl fun cdv A outer s H E B G0 hr =>
 have hu:=hr.units
 have hgd:=hr.gd
 (zal (zaQ (i:=5) (nq Har) rfl (lq Har 5) (za0 zeO (gq Har 2) T.b_len boot_len (zaa (zaz (pq Har 0) zai (fun _ _=>rfl)) zah)))
 (zal (zaQ (i:=6) (nq Har) rfl (lq Har 6) (za0 zeO (gq Har 2) T.b_len boot_len (zaa (zaz (pq Har 0) zai (fun _ _=>rfl)) zah)))
 (zal (zcg (i:=7) (nq Har) rfl (lq Har 7) (zcI (zaa zbT (zaa zbO (zaa zbO (zaa (zer zai) (zaa (zag (pq Har 6)) (zaa zaW (zaa (zaP (zaa zai zah)) (zaa (zb0 (zaa zai zah)) (zaa (zaE zbq (zag (pq Har 6)) zai) (zaa (zaE zlN zai zai) zah))))))))))))
 (zal (zcg (i:=8) (nq Har) rfl (lq Har 8) (zl5 (zaP (zaa zbT zah)) (zag (pq Har 5))))
 (zal (zbe (zd9 (zag (pq Har 1)))
 (zaq (zcg (i:=8) (nq Har) rfl (lq Har 8) (zev (gq Har 1) T.b_list (pq Har 1))))
 zaM)
 (zal (zbe (zbJ (B_eq hu) (pq Har 2) zai (zaS _))
 (zal (zlX (zaz (pq Har 7) (zag (pq Har 4)) (fun _ _=>rfl)) (pq Har 8) (zaE zdL (zag (pq Har 3)) (zag (pq Har 5))))
 (zaq (zaH (zag (pq Har 8)))))
 zaM)
 (zal (zbe (zbJ (B_eq hu) (pq Har 2) zai (zaS _))
 (zaq (zaH (zeo (zaP (zaa (zbm (zag (pq Har 8)) (zbj zai) zcq) (zaa (zaE zbq (zag (pq Har 8)) (zaP (zaa zbT zah))) zah))) (zaE zdL (zag (pq Har 4)) zai) (fun _ _=>rfl))))
 zaM)
 (zal (zbe (zbJ (B_eq hu) (pq Har 2) zai (zaS _))
 (zaq (zaH (zcd znT (gq Har 0) T.b_tuple zeA (zaa (zag (pq Har 8)) zah))))
 zaM)
 (zal (zbe (zbJ (B_eq hu) (pq Har 2) zai (zaS _))
 (zaq (zaH (zaz (pq Har 7) (zag (pq Har 4)) (fun _ _=>rfl))))
 zaM)
 (zaq (zaH (zag (pq Har 1)))))))))))))
theorem Kan (F:Fun K "_law_numbers" "_law_numbers" San f fd):FnOk P w K mg base CX0 1 f fd ["_law_cell", "_law_salt", "_law_sizes"] (spD K 3 F_an) :=
 okD (k:=0) (g:=g_an) F (fq Han 3) rfl fun cdv A outer s H E B G0 hr =>
 have hu:=hr.units
 have hgd:=hr.gd
 (zal (zaQ (i:=3) (nq Han) rfl (lq Han 3) (za0 (zny rfl) (gq Han 2) T.b_max boot_max (zaa (zag (pq Han 0)) (zaa (zaE znu (zer zai) (zag (pq Han 0))) zah))))
 (zal (zaQ (i:=4) (nq Han) rfl (lq Han 4) (zag (pq Han 3)))
 (zal (zcg (i:=5) (nq Han) rfl (lq Han 5) (zcI zah))
 (zal (zc8 PassesOwn.never rfl (zeq (gq Han 1) T.b_range (zaa (za3 (gq Han 0) T.b_len (pq Han 2)) zah)) (zaG (zaF (i:=6) (nq Han) rfl (lq Han 6)))
 (zaq (zbe (PW.pt (zem (zbJ B_ge (pq Han 3) (zaE zlN zai zai) (zaS _)) (zdq (zbJ B_gt (pq Han 4) zai (zaS _)))))
 (zal (zeY (pq Han 5) (zaE zdL (zag (pq Han 4)) (zaz (pq Han 2) (zag (pq Han 6)) (fun _ _=>rfl))))
 (zaq (zaQ (i:=4) (nq Han) rfl (lq Han 4) (zaE znv (zag (pq Han 4)) (zaz (pq Han 2) (zag (pq Han 6)) (fun _ _=>rfl))))))
 (zal (zaQ (i:=7) (nq Han) rfl (lq Han 7) (zaE zdL (zaE zbq (zaE zbq (zaE zbq (zag (pq Han 3)) (zaE zdK zai (zag (pq Han 1)))) (zaE zdK (zaE zdK zai (zag (pq Han 6))) (zag (pq Han 6)))) (zag (pq Han 6))) zai))
 (zal (zaQ (i:=7) (nq Han) rfl (lq Han 7) (zaE zdL (zaE zdK (zag (pq Han 7)) zai) zai))
 (zal (zaQ (i:=7) (nq Han) rfl (lq Han 7) (zaE zdL (zaE zdK (zaE zdL (zaE zdK (zag (pq Han 7)) (zag (pq Han 7))) zai) zai) zai))
 (zaq (zeY (pq Han 5) (zaE zdL (zaE znv (zag (pq Han 7)) zai) (zaz (pq Han 2) (zag (pq Han 6)) (fun _ _=>rfl)))))))))))
 (zaq (zaH (zag (pq Han 5))))))))
theorem Kat (d_as:Def P w K mg base "_law_odd_turns" 1 5 F_as) (d_ar:Def P w K mg base "_law_odd_old" 1 5 F_ar) (d_an:Def P w K mg base "_law_numbers" 1 3 F_an) (F:Fun K "_law_odd_aim" "_law_odd_aim" Sat f fd):FnOk P w K mg base CX0 2 f fd ["_law_wishes_here", "_law_aim_here", "_law_cell", "_law_salt"] (spD K 4 F_at) :=
 okD (k:=1) (g:=g_at) F (fq Hat 4) rfl fun cdv A outer s H E B G0 hr =>
 have hu:=hr.units
 have hgd:=hr.gd
 (zal (zaQ (i:=4) (nq Hat) rfl (lq Hat 4) (pdf d_an hr (gq Hat 3) (zaa (zag (pq Hat 2)) (zaa (zag (pq Hat 3)) (zaa (zaP (zaa zai (zaa zai (zaa zai (zaa zai (zaa zai (zaa zai (zaa zai (zaa zai (zaa zai (zaa zai zah))))))))))) zah)))))
 (zal (zhj (zag (pq Hat 1)) (zdZ rfl (zbs (zaG (zaF (i:=5) (nq Hat) rfl (lq Hat 5))) (zbs (zaG (zaF (i:=6) (nq Hat) rfl (lq Hat 6))) (zbs (zaG (zaF (i:=7) (nq Hat) rfl (lq Hat 7))) zdY)))))
 (zal (zbe (zbI (B_eq hu) (zaz (pq Hat 4) zai (fun _ _=>rfl)) zai (zaS _))
 (zal (zcg (i:=8) (nq Hat) rfl (lq Hat 8) (zcI (zaa zaW (zaa zaW (zaa zaW (zaa zaW (zaa zaW (zaa zaW (zaa zaW (zaa zaW zah))))))))))
 (zaq (zaQ (i:=5) (nq Hat) rfl (lq Hat 5) (zeo (zaE zbq (zag (pq Hat 8)) (zaP (zaa zbT (zaa zai (zaa zbO (zaa (zaP (zaa zaW zah)) (zaa (zb0 (zaa zaW zah)) zah))))))) (zaz (pq Hat 4) zai (fun _ _=>rfl)) (fun _ _=>rfl)))))
 zaM)
 (zal (zaQ (i:=6) (nq Hat) rfl (lq Hat 6) (pdf d_ar hr (gq Hat 2) (zaa (zag (pq Hat 0)) (zaa (zag (pq Hat 6)) (zaa (zaz (pq Hat 4) zai (fun _ _=>rfl)) (zaa (zaz (pq Hat 4) zai (fun _ _=>rfl)) (zaa (zaz (pq Hat 4) zai (fun _ _=>rfl)) zah)))))))
 (zal (zaQ (i:=7) (nq Hat) rfl (lq Hat 7) (pdf d_as hr (gq Hat 1) (zaa (za0 zeO (gq Hat 0) T.b_len boot_len (zaa (zaz (pq Hat 0) zai (fun _ _=>rfl)) zah)) (zaa (zag (pq Hat 7)) (zaa (zaz (pq Hat 4) zai (fun _ _=>rfl)) (zaa (zaz (pq Hat 4) zai (fun _ _=>rfl)) (zaa (zaz (pq Hat 4) zai (fun _ _=>rfl)) zah)))))))
 (zal (zbe (zbI (B_eq hu) (zaz (pq Hat 4) zai (fun _ _=>rfl)) zai (zaS _))
 (zal (zcg (i:=9) (nq Hat) rfl (lq Hat 9) (zcI (zaa (zaP (zaa (zag (pq Hat 5)) (zaa (zag (pq Hat 6)) (zaa (zag (pq Hat 7)) zah)))) (zaa (zb0 (zaa (zag (pq Hat 5)) (zaa (zag (pq Hat 6)) zah))) (zaa (zb0 (zaa (zag (pq Hat 5)) (zaa (zag (pq Hat 6)) (zaa (zag (pq Hat 7)) (zaa zbT zah))))) zah)))))
 (zal (zaQ (i:=9) (nq Hat) rfl (lq Hat 9) (zaE zbq (zag (pq Hat 9)) (zaP (zaa zbT (zaa (zag (pq Hat 5)) (zaa zai (zaa (zkO (zkN (fun B'=>zaW) (fun B'=>(zag (pq Hat 5))) zmh)) zah)))))))
 (zaq (zaH (zaz (pq Hat 9) (zaz (pq Hat 4) zai (fun _ _=>rfl)) (fun _ _=>rfl))))))
 zaM)
 (zaq (zaH (zb0 (zaa (zag (pq Hat 5)) (zaa (zag (pq Hat 6)) (zaa (zag (pq Hat 7)) zah))))))))))))
theorem Kap (d_an:Def P w K mg base "_law_numbers" 1 3 F_an) (F:Fun K "_law_aim" "_law_aim" Sap f fd):FnOk P w K mg base CX0 2 f fd ["_law_wishes_here", "_law_cell", "_law_salt"] (spD K 3 F_ap) :=
 okD (k:=1) (g:=g_ap) F (fq Hap 3) rfl fun cdv A outer s H E B G0 hr =>
 have hu:=hr.units
 have hgd:=hr.gd
 (zal (zaQ (i:=3) (nq Hap) rfl (lq Hap 3) (za0 zeO (gq Hap 1) T.b_len boot_len (zaa (zaz (pq Hap 0) zai (fun _ _=>rfl)) zah)))
 (zal (zaQ (i:=4) (nq Hap) rfl (lq Hap 4) (zaE zbq (zaP (zaa zai (zaa zai (zaa (zaE zbq (zag (pq Hap 3)) zai) zah)))) (zaE zdK (zaP (zaa (zaE zbq (za0 zeO (gq Hap 1) T.b_len boot_len (zaa (zaz (pq Hap 0) zai (fun _ _=>rfl)) zah)) zai) zah)) (zag (pq Hap 3)))))
 (zal (zaQ (i:=5) (nq Hap) rfl (lq Hap 5) (pdf d_an hr (gq Hap 0) (zaa (zag (pq Hap 1)) (zaa (zag (pq Hap 2)) (zaa (zaE zbq (zag (pq Hap 4)) (zaE zdK (zaP (zaa (zag (pq Hap 3)) zah)) (zag (pq Hap 3)))) zah)))))
 (zal (zaQ (i:=6) (nq Hap) rfl (lq Hap 6) zbT)
 (zal (zbe (zbI (B_eq hu) (zaz (pq Hap 5) zai (fun _ _=>rfl)) zai (zaS _))
 (zaq (sD_1 (j:=6) (zam Sap) N_ap ["_law_wishes_here", "_law_cell", "_law_salt", "_law_askers", "_law_sizes", "_law_digits", "_law_old", "_law_turns", "._law_digit", "_law_digit"] 1 zcs (nq Hap) rfl rfl rfl (zcO (zbm (zag (pq Hap 5)) (zbj zai) (zbj (zaE zbq zai (zag (pq Hap 3)))))) (fun cl C s0 H0 ex=>⟨fun B' G'=>(zaG (zaF (i:=9) (show (["_law_wishes_here", "_law_cell", "_law_salt", "_law_askers", "_law_sizes", "_law_digits", "_law_old", "_law_turns", "._law_digit", "_law_digit"]:List Str).Nodup by decide +kernel) rfl (zcy rfl) (.inr (zc9 rfl)))),fun B' G'=>zcJ,(zbX rfl rfl rfl fun B' G'=>(zeo (zaP (zaa zbT (zaa (zaE znu (zag (pvb 9)) zai) zah))) (zcd zhn (ze0 rfl) T.b_int PyProof.Rows.boot_int (zaa (zgM B_gt (pvb 9) zai (zaS _)) zah)) (fun _ _=>rfl)))⟩) rfl rfl (by decide +kernel)))
 zaM)
 (zal (zcg (i:=7) (nq Hap) rfl (lq Hap 7) (zcI zah))
 (zal (zc8 PassesOwn.never rfl (zcO (zbm (zag (pq Hap 5)) (zbj (zaE zbq zai (zag (pq Hap 3)))) (zbj (zaE zbq (zaE zbq zai (zag (pq Hap 3))) (zaz (pq Hap 5) zai (fun _ _=>rfl)))))) (zaG (zaF (i:=8) (nq Hap) rfl (lq Hap 8)))
 (zal (zkD 1000 PassesOwn.never (zl4 (B_in hu) (zag (pq Hap 8)) (pq Hap 7) rfl)
 (zaq (zaQ (i:=8) (nq Hap) rfl (lq Hap 8) (zaE zdL (zaE zbq (zag (pq Hap 8)) zai) (zag (pq Hap 3))))))
 (zaq (zeY (pq Hap 7) (zag (pq Hap 8))))))
 (zaq (zaH (zb0 (zaa (zeo (zaP (zaa zaW (zaa zaW (zaa zaW zah)))) (zaz (pq Hap 5) zai (fun _ _=>rfl)) (fun _ _=>rfl)) (zaa (zag (pq Hap 6)) (zaa (zag (pq Hap 7)) zah)))))))))))))
theorem Kam (F:Fun K "_law_cell_at" "_law_cell_at" Sam f fd):FnOk P w K mg base CX0 1 f fd ["_law_script", "_law_k"] (spD K 2 F_am) :=
 okD (k:=0) (g:=g_am) F (fq Ham 2) rfl fun cdv A outer s H E B G0 hr =>
 have hu:=hr.units
 have hgd:=hr.gd
 (zal (zbe (zbJ B_lt (pq Ham 1) (za3 (gq Ham 0) T.b_len (pq Ham 0)) (zaS _))
 (zaq (zaH (zaz (pq Ham 0) (zag (pq Ham 1)) (fun _ _=>rfl))))
 zaM)
 (zaq (zaH zai)))
theorem Kao (d_an:Def P w K mg base "_law_numbers" 1 3 F_an) (d_am:Def P w K mg base "_law_cell_at" 1 2 F_am) (F:Fun K "_law_wishes" "_law_wishes" Sao f fd):FnOk P w K mg base CX0 2 f fd ["_law_script", "_law_at", "_law_most_things", "_law_most_askers", "_law_most_ranks"] (spD K 5 F_ao) :=
 okD (k:=1) (g:=g_ao) F (fq Hao 5) rfl fun cdv A outer s H E B G0 hr =>
 have hu:=hr.units
 have hgd:=hr.gd
 (zal (zaQ (i:=5) (nq Hao) rfl (lq Hao 5) (zaE zbq (zaP (zaa (zag (pq Hao 2)) (zaa (zag (pq Hao 3)) zah))) (zaE zdK (zaP (zaa zai zah)) (zag (pq Hao 2)))))
 (zal (zaQ (i:=6) (nq Hao) rfl (lq Hao 6) (pdf d_an hr (gq Hao 2) (zaa (pdf d_am hr (gq Hao 3) (zaa (zag (pq Hao 0)) (zaa (zag (pq Hao 1)) zah))) (zaa (zag (pq Hao 1)) (zaa (zag (pq Hao 5)) zah)))))
 (zal (sD_1 (j:=7) (zam Sao) N_ao ["_law_script", "_law_at", "_law_most_things", "_law_most_askers", "_law_most_ranks", "_law_sizes", "_law_digits", "_law_copies", "_law_lists", "_law_asker", "_law_cell", "_law_places", "_law_ranks", "_law_rank", "_law_row", "_law_digit"] 1 zcs (nq Hao) rfl rfl rfl (zcO (zbm (zag (pq Hao 6)) (zbj zai) (zbj (zaE zbq zai (zaz (pq Hao 6) zai (fun _ _=>rfl)))))) (fun cl C s0 H0 ex=>⟨fun B' G'=>(zaG (zaF (i:=15) (show (["_law_script", "_law_at", "_law_most_things", "_law_most_askers", "_law_most_ranks", "_law_sizes", "_law_digits", "_law_copies", "_law_lists", "_law_asker", "_law_cell", "_law_places", "_law_ranks", "_law_rank", "_law_row", "_law_digit"]:List Str).Nodup by decide +kernel) rfl (zcy rfl) (.inr (zc9 rfl)))),fun B' G'=>zcJ,(zbX rfl rfl rfl fun B' G'=>(zeo (zaP (zaa zai (zaa zai (zaa zai (zaa zai (zaa zai (zaa zai (zaa zai (zaa zai (zaa zai (zaa zai (zaa zai zah)))))))))))) (zag (pvb 15)) (fun _ _=>rfl)))⟩) rfl rfl (by decide +kernel))
 (zal (zcg (i:=8) (nq Hao) rfl (lq Hao 8) (zcI zah))
 (zal (zc8 PassesOwn.never rfl (zeq (gq Hao 0) T.b_range (zaa (zaE zbq zai (zaz (pq Hao 6) zai (fun _ _=>rfl))) zah)) (zaG (zaF (i:=9) (nq Hao) rfl (lq Hao 9)))
 (zal (zaQ (i:=10) (nq Hao) rfl (lq Hao 10) (pdf d_am hr (gq Hao 3) (zaa (zag (pq Hao 0)) (zaa (zaE zbq (zaE zbq (zag (pq Hao 1)) zai) (zag (pq Hao 9))) zah))))
 (zal (zaQ (i:=11) (nq Hao) rfl (lq Hao 11) (pdf d_an hr (gq Hao 2) (zaa (zag (pq Hao 10)) (zaa (zaE zbq (zaE zbq (zaE zdK zai (zag (pq Hao 1))) (zaE zdK zai (zag (pq Hao 9)))) zai) (zaa (zaE zbq (zaE zdK (zaP (zaa (zaE zbq (zag (pq Hao 4)) zai) zah)) (zag (pq Hao 2))) (zaP (zaa zai zah))) zah)))))
 (zal (zcg (i:=12) (nq Hao) rfl (lq Hao 12) (zcI zah))
 (zal (zc8 PassesOwn.never rfl (ziN (gq Hao 0) T.b_range (zaa zai (zaa (zaE zbq (zag (pq Hao 4)) zai) zah))) (zaG (zaF (i:=13) (nq Hao) rfl (lq Hao 13)))
 (zal (sD_1 (j:=14) (zam Sao) N_ao ["_law_script", "_law_at", "_law_most_things", "_law_most_askers", "_law_most_ranks", "_law_sizes", "_law_digits", "_law_copies", "_law_lists", "_law_asker", "_law_cell", "_law_places", "_law_ranks", "_law_rank", "_law_row", "_law_thing"] 1 zcs (nq Hao) rfl rfl rfl (zeq (gq Hao 0) T.b_range (zaa (za3 (gq Hao 1) T.b_len (pq Hao 7)) zah)) (fun cl C s0 H0 ex=>⟨fun B' G'=>(zaG (zaF (i:=15) (show (["_law_script", "_law_at", "_law_most_things", "_law_most_askers", "_law_most_ranks", "_law_sizes", "_law_digits", "_law_copies", "_law_lists", "_law_asker", "_law_cell", "_law_places", "_law_ranks", "_law_rank", "_law_row", "_law_thing"]:List Str).Nodup by decide +kernel) rfl (zcy rfl) (.inr (zc9 rfl)))),fun B' G'=>(zlV (zbI (B_eq hu) (zaz (pvb 11) (zag (pvb 15)) (fun _ _=>rfl)) (zag (pvb 13)) (zaS _))),(zbX rfl rfl rfl fun B' G'=>(zag (pvb 15)))⟩) rfl rfl (by decide +kernel))
 (zaq (zbe (zbJ (B_ne hu) (pq Hao 14) (zaP zah) (zaS _))
 (zaq (zeY (pq Hao 12) (zeo (zaP (zaa (zag (pq Hao 14)) (zaa (zlY (zag (pq Hao 14)) zcq zcq (zbj (zer zai))) zah))) (zaz (pq Hao 11) (zer zai) (fun _ _=>rfl)) (fun _ _=>rfl))))
 zaM))))
 (zaq (zeY (pq Hao 8) (zag (pq Hao 12)))))))))
 (zaq (zaH (zb0 (zaa (zag (pq Hao 7)) (zaa (zag (pq Hao 8)) zah))))))))))
theorem Kay (d_ax:Def P w K mg base "_law_by_base" 8 2 F_ax) (d_aw:Def P w K mg base "_law_told" 8 2 F_aw) (d_aq:Def P w K mg base "_law_copy" 1 1 F_aq) (d_av:Def P w K mg base "_law_part" 2 2 F_av) (d_at:Def P w K mg base "_law_odd_aim" 2 4 F_at) (d_ap:Def P w K mg base "_law_aim" 2 3 F_ap) (d_am:Def P w K mg base "_law_cell_at" 1 2 F_am) (d_ao:Def P w K mg base "_law_wishes" 2 5 F_ao) (F:Fun K "law" "law" Say f fd):FnOk P w K mg base CX0 9 f fd ["_law_script"] (spD K 1 F_ay) :=
 okD (k:=8) (g:=g_ay) F (fq Hay 1) rfl fun cdv A outer s H E B G0 hr =>
 have hu:=hr.units
 have hgd:=hr.gd
 (zal (zaQ (i:=1) (nq Hay) rfl (lq Hay 1) (pdf d_ao hr (gq Hay 12) (zaa (zag (pq Hay 0)) (zaa zai (zaa zai (zaa zai (zaa zai zah)))))))
 (zal (zaQ (i:=2) (nq Hay) rfl (lq Hay 2) (pdf d_ap hr (gq Hay 10) (zaa (zag (pq Hay 1)) (zaa (pdf d_am hr (gq Hay 11) (zaa (zag (pq Hay 0)) (zaa zai zah))) (zaa zai zah)))))
 (zal (zaQ (i:=3) (nq Hay) rfl (lq Hay 3) (zaE zbq (zbm (zag (pq Hay 0)) (zbj zai) (zbj zai)) (zaP (zaa (pdf d_am hr (gq Hay 11) (zaa (zag (pq Hay 0)) (zaa zai zah))) (zaa (pdf d_am hr (gq Hay 11) (zaa (zag (pq Hay 0)) (zaa zai zah))) zah)))))
 (zal (zc8 PassesOwn.never rfl (zfj (gq Hay 0) T.b_enumerate (zaa (zag (pq Hay 3)) zah)) (zdZ rfl (zbs (zaG (zaF (i:=4) (nq Hay) rfl (lq Hay 4))) (zbs (zaG (zaF (i:=5) (nq Hay) rfl (lq Hay 5))) zdY)))
 (zal (zbe (zbI (B_eq hu) (zaE zdL (zag (pq Hay 4)) zai) zai (zaS _))
 (zaq (zaQ (i:=2) (nq Hay) rfl (lq Hay 2) (pdf d_ap hr (gq Hay 10) (zaa (zag (pq Hay 1)) (zaa (zag (pq Hay 5)) (zaa (zaE zbq zai (zag (pq Hay 4))) zah))))))
 zaM)
 (zal (zaQ (i:=6) (nq Hay) rfl (lq Hay 6) (pdf d_at hr (gq Hay 9) (zaa (zag (pq Hay 1)) (zaa (zag (pq Hay 2)) (zaa (zag (pq Hay 5)) (zaa (zag (pq Hay 4)) zah))))))
 (zal (zaQ (i:=7) (nq Hay) rfl (lq Hay 7) (pdf d_av hr (gq Hay 8) (zaa (zag (pq Hay 1)) (zaa (zag (pq Hay 6)) zah))))
 (zal (zaQ (i:=8) (nq Hay) rfl (lq Hay 8) (pdf d_aq hr (gq Hay 7) (zaa (zag (pq Hay 1)) zah)))
 (zal (zaQ (i:=9) (nq Hay) rfl (lq Hay 9) (za0 (zjx hu hgd T.sm) (gq Hay 1) T.b_repr ze3 (zaa (zag (pq Hay 6)) zah)))
 (zal (zaQ (i:=10) (nq Hay) rfl (lq Hay 10) (pdf d_aw hr (gq Hay 6) (zaa (zag (pq Hay 8)) (zaa (zag (pq Hay 6)) zah))))
 (zal (zbe (PW.pt (zcp (zbJ (B_ne hu) (pq Hay 10) (zb0 (zaa (zag (pq Hay 7)) zah)) (zaS _)) (zbU (PW.pt (zem (zd9 (zag (pq Hay 7))) (zdq (za2 (za8 (zaI (c := "str") (by decide) (gq Hay 4) T.b_isinstance (gq Hay 5) T.b_str (by decide +kernel) (zaz (pq Hay 10) zai (fun _ _=>rfl)) (by decide) (by decide))))))))))
 (zaq (zaH zbO))
 zaM)
 (zal (zbe (PW.pt (zem (zbI (B_eq hu) (zaE zdL (zag (pq Hay 4)) zai) zai (zaS _)) (zdq (zbI (B_ne hu) (pdf d_ax hr (gq Hay 2) (zaa (zag (pq Hay 8)) (zaa (zag (pq Hay 6)) zah))) (zeo (zaP (zaa zai (zaa zai zah))) (zcd zhn (gq Hay 3) T.b_int PyProof.Rows.boot_int (zaa (ziM (zag (pq Hay 7))) zah)) (fun _ _=>rfl)) (zaS _)))))
 (zaq (zaH zbO))
 zaM)
 (zaq (zbe (PW.pt (zcp (zbI zoV (za0 (zjx hu hgd T.sm) (gq Hay 1) T.b_repr ze3 (zaa (zag (pq Hay 6)) zah)) (zag (pq Hay 9)) (zaS _)) (zbU (zbJ (B_ne hu) (pq Hay 8) (zag (pq Hay 1)) (zaS _)))))
 (zaq (zaH zbO))
 zaM)))))))))))
 (zaq (zaH zbO))))))
end
theorem zaZ:recsOf q0=ze4 p0 ixL:=by
 show recsOf (PySem.W.view PySem.Challenge.pw_wishdeal_k20_a_look_at_aims zd5)=ze4 PySem.Challenge.pw_wishdeal_k20_a_look_at_aims ixL
 rw [PySem.W.Fast.te3399658132070893891,PySem.W.Fast.te15958790153321133156]
 kernel_rfl
theorem zdk:(["ValueError", "all", "bool", "enumerate", "int", "isinstance", "len", "list", "max", "range", "repr", "set", "str", "tuple"]:List Str).all (zkF q0 (PySem.W.looseW q0 []))=true:=by
 show List.all _ (zkF (PySem.W.view PySem.Challenge.pw_wishdeal_k20_a_look_at_aims zd5) (PySem.W.looseW (PySem.W.view PySem.Challenge.pw_wishdeal_k20_a_look_at_aims zd5) []))=true
 k_qdec
theorem zeT:valOf q0 "MOST_ASKERS" = some (.int 7):=by
 show valOf (PySem.W.view PySem.Challenge.pw_wishdeal_k20_a_look_at_aims zd5) _=_
 rw [PySem.W.Fast.te1987589406359920131,PySem.W.Fast.te15958790153321133156]
 kernel_rfl
theorem zeU:valOf q0 "MOST_COPIES" = some (.int 7):=by
 show valOf (PySem.W.view PySem.Challenge.pw_wishdeal_k20_a_look_at_aims zd5) _=_
 rw [PySem.W.Fast.te1987589406359920131,PySem.W.Fast.te15958790153321133156]
 kernel_rfl
theorem zft:valOf q0 "MOST_RANKS" = some (.int 5):=by
 show valOf (PySem.W.view PySem.Challenge.pw_wishdeal_k20_a_look_at_aims zd5) _=_
 rw [PySem.W.Fast.te1987589406359920131,PySem.W.Fast.te15958790153321133156]
 kernel_rfl
theorem zeV:valOf q0 "MOST_THINGS" = some (.int 6):=by
 show valOf (PySem.W.view PySem.Challenge.pw_wishdeal_k20_a_look_at_aims zd5) _=_
 rw [PySem.W.Fast.te1987589406359920131,PySem.W.Fast.te15958790153321133156]
 kernel_rfl
theorem zjD:tupStrsOf q0 "ORDERS" = some (["firsts", "full", "lasts"]:List Str):=by
 show tupStrsOf (PySem.W.view PySem.Challenge.pw_wishdeal_k20_a_look_at_aims zd5) _=_
 rw [PySem.W.Fast.te14491516231548247274,PySem.W.Fast.te15958790153321133156]
 kernel_rfl
theorem znY {l:PySem.W.OpenLaw} {w:World} {s0:Shared} {mg mb:Str->Option Value} {fa:Addr} {h:Heap} {XP:(Str->Option Value)->Heap->Prop} (G:PySem.W.Ground q0 [] [] XP w s0 mg mb h) (Y:XYP p0 clsL h) (hfa:mg "law" = some (.ref fa)) :
  ∃ fd:FuncData,(∀ (s:Shared) (v:Value),BindsTo s fd ⟨[v],[]⟩ [("_law_script", v)])/\∀ base:Heap,FnOk l.prog w (whole h) mg base CX0 9 fa fd ["_law_script"] (spD (whole h) 1 F_ay):=by
 obtain ⟨D0,f0,fd0,R⟩:=zmf (i:=4) G.T.g Y (.head _) (zbR G.T zdk (.head _)) (zbd (by decide +kernel)) rfl (fun _=>⟨_,rfl⟩) (fun _ _ _ _ _ _ us hl=>bz2 (us:=us) hl fun _ _=>rfl)
 have T:Txt (whole h) mg:=⟨zbR G.T zdk (.head _),zbR G.T zdk (.tail _ (.head _)),zbR G.T zdk (.tail _ (.tail _ (.head _))),zbR G.T zdk (.tail _ (.tail _ (.tail _ (.head _)))),zbR G.T zdk (.tail _ (.tail _ (.tail _ (.tail _ (.head _))))),zbR G.T zdk (.tail _ (.tail _ (.tail _ (.tail _ (.tail _ (.head _)))))),zbR G.T zdk (.tail _ (.tail _ (.tail _ (.tail _ (.tail _ (.tail _ (.head _))))))),zbR G.T zdk (.tail _ (.tail _ (.tail _ (.tail _ (.tail _ (.tail _ (.tail _ (.head _)))))))),zbR G.T zdk (.tail _ (.tail _ (.tail _ (.tail _ (.tail _ (.tail _ (.tail _ (.tail _ (.head _))))))))),zbR G.T zdk (.tail _ (.tail _ (.tail _ (.tail _ (.tail _ (.tail _ (.tail _ (.tail _ (.tail _ (.head _)))))))))),zbR G.T zdk (.tail _ (.tail _ (.tail _ (.tail _ (.tail _ (.tail _ (.tail _ (.tail _ (.tail _ (.tail _ (.head _))))))))))),zbR G.T zdk (.tail _ (.tail _ (.tail _ (.tail _ (.tail _ (.tail _ (.tail _ (.tail _ (.tail _ (.tail _ (.tail _ (.head _)))))))))))),zbR G.T zdk (.tail _ (.tail _ (.tail _ (.tail _ (.tail _ (.tail _ (.tail _ (.tail _ (.tail _ (.tail _ (.tail _ (.tail _ (.head _))))))))))))),zbR G.T zdk (.tail _ (.tail _ (.tail _ (.tail _ (.tail _ (.tail _ (.tail _ (.tail _ (.tail _ (.tail _ (.tail _ (.tail _ (.tail _ (.head _)))))))))))))),zdx G.T zeT,zdx G.T zeU,zdx G.T zft,zdx G.T zeV,zjh G.B zjD (by decide),zmg (c:=("DealError", some 4)) G.T.g Y R (.head _),zmg (c:=("NoAim", some 6)) G.T.g Y R (.tail _ (.tail _ (.head _))),zmg (c:=("NoWishes", some 5)) G.T.g Y R (.tail _ (.head _)),znX (G.T.seer (by decide +kernel))⟩
 refine zoO G.T zaZ 38 "law" rfl rfl hfa (fun _ _ _ _ _ _ _=>rfl) fun base=>?_
 have m_NoAim:=zlg (nm := "NoAim") (j:=6) (ps:=["self", "part"]) G.T.g Y R (.tail _ (.tail _ (.head _))) (by decide) l.prog w base (fun _ _ _ _ _ _ us hl=>bz2 (us:=us) hl fun _ _=>rfl) (fun FU=>zmd R.cf (R.ok l.prog w base) R.bd R.at' FU (zbd (by decide +kernel)) (by decide) (by decide) (by decide) rfl (fun _=>⟨_,rfl⟩) (by decide))
 have m_NoWishes:=zlg (nm := "NoWishes") (j:=5) (ps:=["self", "part", "number"]) G.T.g Y R (.tail _ (.head _)) (by decide) l.prog w base (fun _ _ _ _ _ _ us hl=>bz3 (us:=us) hl fun _ _ _=>rfl) (fun FU=>zmc R.cf (R.ok l.prog w base) R.bd R.at' FU (zbd (by decide +kernel)) rfl (fun _=>⟨_,rfl⟩) (by decide) (by decide))
 have d_aa:=zcM l.prog w base G.T zaZ 1 "is_whole" rfl rfl (fun F=>Kaa T  F) fun _ _ _ _ _ _ us hl=>bz1 (us:=us) hl fun _=>rfl
 have d_ab:=zcM l.prog w base G.T zaZ 2 "is_number_below" rfl rfl (fun F=>Kab T d_aa F) fun _ _ _ _ _ _ us hl=>bz2 (us:=us) hl fun _ _=>rfl
 have d_ak:=zcM l.prog w base G.T zaZ 23 "is_turns" rfl rfl (fun F=>Kak T d_ab F) fun _ _ _ _ _ _ us hl=>bz2 (us:=us) hl fun _ _=>rfl
 have d_aj:=zcM l.prog w base G.T zaZ 22 "is_old" rfl rfl (fun F=>Kaj T d_ab F) fun _ _ _ _ _ _ us hl=>bz3 (us:=us) hl fun _ _ _=>rfl
 have d_ah:=zcM l.prog w base G.T zaZ 19 "is_order" rfl rfl (fun F=>Kah T  F) fun _ _ _ _ _ _ us hl=>bz1 (us:=us) hl fun _=>rfl
 have dX_look_at_order:=zgd l.prog w base G.T zaZ 20 "look_at_order" rfl rfl (fun F=>zdS T d_ah m_NoAim F) fun _ _ _ _ _ _ us hl=>bz1 (us:=us) hl fun _=>rfl
 have d_ad:=zcM l.prog w base G.T zaZ 13 "is_rank" rfl rfl (fun F=>Kad T d_ab F) fun _ _ _ _ _ _ us hl=>bz2 (us:=us) hl fun _ _=>rfl
 have d_ae:=zcM l.prog w base G.T zaZ 14 "is_asker_list" rfl rfl (fun F=>Kae T d_ad F) fun _ _ _ _ _ _ us hl=>bz2 (us:=us) hl fun _ _=>rfl
 have dX_look_at_lists:=zgd l.prog w base G.T zaZ 15 "look_at_lists" rfl rfl (fun F=>zdT T d_ae m_NoWishes F) fun _ _ _ _ _ _ us hl=>bz2 (us:=us) hl fun _ _=>rfl
 have dX_look_at_copies:=zgd l.prog w base G.T zaZ 12 "look_at_copies" rfl rfl (fun F=>zdA T d_ab m_NoWishes F) fun _ _ _ _ _ _ us hl=>bz1 (us:=us) hl fun _=>rfl
 have dX_look_at_wishes:=zgd l.prog w base G.T zaZ 16 "look_at_wishes" rfl rfl (fun F=>zdB T dX_look_at_lists dX_look_at_copies m_NoWishes F) fun _ _ _ _ _ _ us hl=>bz1 (us:=us) hl fun _=>rfl
 have dX_look_at_aim:=zgd l.prog w base G.T zaZ 24 "look_at_aim" rfl rfl (fun F=>zeF T d_ak d_aj dX_look_at_order dX_look_at_wishes m_NoAim F) fun _ _ _ _ _ _ us hl=>bz2 (us:=us) hl fun _ _=>rfl
 have d_ax:=zcM l.prog w base G.T zaZ 37 "_law_by_base" rfl rfl (fun F=>Kax T dX_look_at_aim F) fun _ _ _ _ _ _ us hl=>bz2 (us:=us) hl fun _ _=>rfl
 have d_aw:=zcM l.prog w base G.T zaZ 36 "_law_told" rfl rfl (fun F=>Kaw T dX_look_at_aim F) fun _ _ _ _ _ _ us hl=>bz2 (us:=us) hl fun _ _=>rfl
 have d_aq:=zcM l.prog w base G.T zaZ 30 "_law_copy" rfl rfl (fun F=>Kaq T  F) fun _ _ _ _ _ _ us hl=>bz1 (us:=us) hl fun _=>rfl
 have d_au:=zcM l.prog w base G.T zaZ 34 "_law_number_below" rfl rfl (fun F=>Kau T  F) fun _ _ _ _ _ _ us hl=>bz2 (us:=us) hl fun _ _=>rfl
 have d_av:=zcM l.prog w base G.T zaZ 35 "_law_part" rfl rfl (fun F=>Kav T d_au F) fun _ _ _ _ _ _ us hl=>bz2 (us:=us) hl fun _ _=>rfl
 have d_as:=zcM l.prog w base G.T zaZ 32 "_law_odd_turns" rfl rfl (fun F=>Kas T  F) fun _ _ _ _ _ _ us hl=>bz5 (us:=us) hl fun _ _ _ _ _=>rfl
 have d_ar:=zcM l.prog w base G.T zaZ 31 "_law_odd_old" rfl rfl (fun F=>Kar T  F) fun _ _ _ _ _ _ us hl=>bz5 (us:=us) hl fun _ _ _ _ _=>rfl
 have d_an:=zcM l.prog w base G.T zaZ 27 "_law_numbers" rfl rfl (fun F=>Kan T  F) fun _ _ _ _ _ _ us hl=>bz3 (us:=us) hl fun _ _ _=>rfl
 have d_at:=zcM l.prog w base G.T zaZ 33 "_law_odd_aim" rfl rfl (fun F=>Kat T d_as d_ar d_an F) fun _ _ _ _ _ _ us hl=>bz4 (us:=us) hl fun _ _ _ _=>rfl
 have d_ap:=zcM l.prog w base G.T zaZ 29 "_law_aim" rfl rfl (fun F=>Kap T d_an F) fun _ _ _ _ _ _ us hl=>bz3 (us:=us) hl fun _ _ _=>rfl
 have d_am:=zcM l.prog w base G.T zaZ 26 "_law_cell_at" rfl rfl (fun F=>Kam T  F) fun _ _ _ _ _ _ us hl=>bz2 (us:=us) hl fun _ _=>rfl
 have d_ao:=zcM l.prog w base G.T zaZ 28 "_law_wishes" rfl rfl (fun F=>Kao T d_an d_am F) fun _ _ _ _ _ _ us hl=>bz5 (us:=us) hl fun _ _ _ _ _=>rfl
 exact fun {_ _} F=>Kay T d_ax d_aw d_aq d_av d_at d_ap d_am d_ao F
abbrev d_ay:DefRec:=⟨"law", zcf Say,zbo Say,zam Say,zoN Say⟩
theorem walk {XP:(Str->Option Value)->Heap->Prop} (hlaw:∀ ns:List Int,ns.length<=63->F_ay [.list (ns.map PyData.int)]=some (.bool true)):PySem.W.WalkO q0 [] XP (fun _ h=>XYP p0 clsL h) (PySem.Challenge.rw_wishdeal_k20_a_look_at_aims).row.toRowW d_ay [] (fun f vs=>PySem.call f vs) :=
 zjm (n:=63) (k:=9) (x := "_law_script") rfl (by decide) rfl ⟨rfl,by decide,by decide,rfl⟩ (fun _ _ _ _ _ _ G Y hm=>znY G Y hm) hlaw
theorem asm {α : Type} {a b : α} (h:a=b):a=b:=h
theorem znZ {i:Nat} {x:Option Sl} {ρ ρ':DEnv} (h : ρ.set i x = ρ') : ρ.set i x = ρ':=h
theorem zn0 {i:Nat} {ρ : DEnv} {x:Option (Option Sl)} (h : ρ[i]?=x) : ρ[i]?=x:=h
theorem asmN {ds:List D} {n:Nat} (h:ds.length < n):ds.length < n:=h
theorem zoW {ds:List D} {n:Nat} (h:ds.length<=n):ds.length<=n:=h
theorem zn1 {i:Nat} {ρ : DEnv} (h:i < ρ.length):i < ρ.length:=h
local macro_rules | `(tactic| walk_at "set")=>`(tactic| first | (simp only [List.set_cons_succ,List.set_cons_zero];done) | (simp only [List.set_cons_succ,List.set_cons_zero];rfl) | rfl)
local macro_rules | `(tactic| walk_at "side")=>`(tactic| first | assumption | omega | (simp only [List.length_cons,List.length_nil,List.length_map,List.length_append];omega))
local macro_rules | `(tactic| walk_at "st1")=>`(tactic| first
 | with_reducible apply za4
 | with_reducible apply zbQ
 | ((with_reducible apply zf9);exact rfl)
 | with_reducible apply zga
 | with_reducible apply zjc
 | with_reducible apply st_drop
 | with_reducible exact st_nx)
local macro_rules | `(tactic| walk_at "ev1")=>`(tactic| first
 | with_reducible exact zac
 | with_reducible exact zak
 | ((with_reducible apply zaf);exact rfl)
 | with_reducible apply zar
 | with_reducible apply zab
 | with_reducible apply zc0
 | with_reducible apply ev_zip
 | ((with_reducible apply ev_listO);exact rfl)
 | with_reducible apply zbD
 | ((with_reducible apply zbu);exact rfl)
 | ((with_reducible apply zhp);exact rfl)
 | with_reducible apply ev_join
 | with_reducible apply zaU
 | ((with_reducible apply za1);exact rfl)
 | with_reducible apply zaY
 | with_reducible apply zf7
 | ((with_reducible apply zbc);exact rfl)
 | ((with_reducible apply zi8);exact rfl)
 | with_reducible apply zgO
 | with_reducible apply zi9
 | with_reducible apply ev_rng3
 | with_reducible apply ev_enum1
 | with_reducible apply ev_count
 | with_reducible apply ev_index
 | with_reducible apply zex
 | with_reducible apply ev_iter
 | with_reducible apply ev_sl
 | with_reducible apply zbK
 | with_reducible apply zct
 | with_reducible apply zbM
 | with_reducible apply zci
 | with_reducible apply za7
 | with_reducible apply zcK
 | ((with_reducible apply zbP);exact rfl;walk_at "set")
 | ((with_reducible apply zf6);exact rfl)
 | with_reducible apply zaX
 | ((with_reducible apply asm);(with_reducible assumption))
 | with_reducible exact za6
 | with_reducible exact zjb
 | with_reducible exact znK
 | with_reducible exact zl0
 | with_reducible exact vop_min
 | with_reducible exact zaJ
 | with_reducible exact zeb
 | with_reducible exact vop_sl
 | with_reducible exact zbY
 | with_reducible exact zcL
 | with_reducible exact vop_itT
 | with_reducible exact vop_itS
 | with_reducible exact vop_inS
 | with_reducible exact vop_ninS
 | with_reducible exact vop_iter
 | with_reducible exact zdw
 | with_reducible exact vop_enum1
 | with_reducible exact zdj
 | with_reducible exact vop_sumI
 | with_reducible exact vop_neT
 | with_reducible exact vop_eqT
 | with_reducible exact zbt
 | ((with_reducible apply zcZ);walk_at "side")
 | ((with_reducible apply zlZ) <;> walk_at "side")
 | ((with_reducible apply zkB) <;> walk_at "side")
 | ((with_reducible apply zea) <;> walk_at "side")
 | ((with_reducible apply zbB);walk_at "side")
 | ((with_reducible apply zn1);exact of_decide_eq_true rfl)
 | ((with_reducible apply zax);walk_at "st1")
 | ((with_reducible apply zaR);walk_at "st1")
 | walk_at "st1"
 | ((with_reducible apply zn0);exact rfl)
 | ((with_reducible apply asmN);walk_at "side")
 | ((with_reducible apply zoW);walk_at "side")
 | with_reducible apply zav
 | ((with_reducible apply znZ);walk_at "set")
 | ((with_reducible apply zn1);exact of_decide_eq_true rfl)
 | with_reducible apply tg_N
 | with_reducible exact tg_0
 | with_reducible apply tg_C
 | ((with_reducible apply tg_T);exact rfl)
 | ((with_reducible apply asmE);exact rfl))
local macro_rules | `(tactic| walk_at "ev")=>`(tactic| repeat' walk_at "ev1")
theorem ze9 {sizes found:List Int} {z d:Int} (h:∀ (j:Nat) d z,found[j]?=some d->sizes[j]?=some z->0<=d/\d < z) (hz:sizes[found.length]?=some z) (h0:0<=d/\d < z) :
  ∀ (j:Nat) d' z',(found ++ [d])[j]?=some d'->sizes[j]?=some z'->0<=d'/\d' < z':=by
 intro j d' z' e1 e2
 by_cases hj:j < found.length
 ·rw [List.getElem?_append_left hj] at e1
  exact h j d' z' e1 e2
 ·by_cases hj2:j=found.length
  ·subst hj2
   rw [hz] at e2
   cases e2
   rw [List.getElem?_append_right (Nat.le_refl _),Nat.sub_self,List.getElem?_cons_zero] at e1
   cases e1
   exact h0
  ·rw [List.getElem?_eq_none (by rw [List.length_append,List.length_singleton];omega)] at e1
   cases e1
def inv (c s:Int) (sizes:List Int) (n:Int) (i:Nat) (ρ : DEnv):Prop:=∃ left found x6 x7,ρ = [some (Sl.pub (.int c)),some (.pub (.int s)),some (.pub (.list (sizes.map .int))),some (.pub (.int n)),some (.pub (.int left)),some (.own ((found:List Int).map .int)),x6,x7] /\
 found.length=i/\∀ (j:Nat) d z,found[j]?=some d->sizes[j]?=some z->0<=d/\d < z
theorem zjE {c s n:Int} {sizes:List Int} (hs:∀ x ∈ sizes,0 < x/\x < 18446744073709551616) (hl:sizes.length<=1000) {i:Nat} {d:D} {ρ : DEnv} {Q:Out->Prop} (hi:(zbV 0 sizes.length)[i]?=some d) (h:inv c s sizes n i ρ) :
  ∃ ρ2,gN 6 d ρ = some ρ2/\Ho zgT ρ2 (zgQ (inv c s sizes n (i+1)) Q):=by
 obtain ⟨left,found,x6,x7,rfl,hf,hfd⟩:=h
 obtain ⟨rfl,hlt⟩:=zdP hi
 obtain ⟨z,hz⟩:∃ z,sizes[i]?=some z:=⟨sizes[i]'(by omega),List.getElem?_eq_getElem _⟩
 obtain ⟨z1,z2⟩:=hs z (List.mem_of_getElem? hz)
 have hix:oIx (.list (sizes.map PyData.int)) (.int (0+(i:Int)))=some (.int z):=by
  rw [Int.zero_add]
  exact zbi (by rw [List.getElem?_map,hz];rfl)
 generalize hk:(0:Int)+(i:Int)=k at hix ⊢
 have hk1:k < 18446744073709551616:=by omega
 have hk2 : -18446744073709551616 < k:=by omega
 have hlen:(found.map PyData.int).length < 1000000:=by rw [List.length_map];omega
 have pw:oPow (.int 10) (.int 18)=some (.int 1000000000000000000):=by rw [zgP (by decide)];rfl
 refine ⟨_,tg_N (of_decide_eq_true rfl) (by walk_at "set"),?_⟩
 unfold zgT
 apply zaB
 case h1 =>
  apply zho
  case h1=>walk_at "ev"
  case h2=>intro _;walk_at "ev"
 case h2 =>
  intro _
  walk_at "ev"
  refine zcz ?_
  exact ⟨_,found ++ [left % z],_,_,by rw [List.map_append];rfl,by rw [List.length_append,hf];rfl,ze9 hfd (by rw [hf];exact hz) ⟨Int.emod_nonneg _ (by omega),Int.emod_lt_of_pos _ z1⟩⟩
 case h3 =>
  intro _
  walk_at "ev"
  refine zcz ?_
  exact ⟨_,found ++ [_ % z],_,_,by rw [List.map_append];rfl,by rw [List.length_append,hf];rfl,ze9 hfd (by rw [hf];exact hz) ⟨Int.emod_nonneg _ (by omega),Int.emod_lt_of_pos _ z1⟩⟩
theorem zcv (c s:Int) {sizes:List Int} (hs:∀ x ∈ sizes,0 < x/\x < 18446744073709551616) (hl:sizes.length<=1000) :
  ∃ r,F_an [.int c,.int s,.list (sizes.map PyData.int)]=some r/\∃ ds:List Int,r=.list (ds.map .int)/\ds.length=sizes.length/\∀ (j:Nat) d z,ds[j]?=some d->sizes[j]?=some z->0<=d/\d < z:=by
 refine zez (ρ:=[some (.pub (.int c)),some (.pub (.int s)),some (.pub (.list (sizes.map PyData.int))),none,none,none,none,none]) rfl ?_
 unfold g_an
 walk_at "ev"
 apply zaD
 apply zd3 (ds:=zbV 0 sizes.length) (inv c s sizes (if -1 - c > c then -1 - c else c))
 case h1 =>
  walk_at "ev"
  rw [List.length_map]
  exact zfm (by omega) (by omega)
 case h0=>exact ⟨_,[],none,none,rfl,rfl,fun j d z e=>by cases e⟩
 case hst=>exact fun i d ρ e h=>zjE hs hl e h
 case hend =>
  rintro ρ ⟨left,found,x6,x7,rfl,hf,hfd⟩
  refine zay ?_
  walk_at "ev"
  rw [zbW] at hf
  exact ⟨_,rfl,found,rfl,by omega,hfd⟩
mutual
theorem zfu:∀ (d:PyData),d.canLay0=true->PyData.eqv d d=true
 | .none,_=>rfl
 | .bool b,_=>by cases b <;> rfl
 | .int i,_=>by simp [PyData.eqv]
 | .str s,_=>by simp [PyData.eqv]
 | .list xs,h=>eqvAll_refl xs h
 | .tuple xs,h=>eqvAll_refl xs h
 | .dict _,h=>by cases h
theorem eqvAll_refl:∀ (xs:List PyData),PyData.canLayAll0 xs=true->PyData.eqvAll xs xs=true
 | [],_=>rfl
 | x :: r,h=>by
  have h:(PyData.canLay0 x && PyData.canLayAll0 r)=true:=h
  rw [Bool.and_eq_true] at h
  show (PyData.eqv x x && PyData.eqvAll r r)=true
  rw [zfu x h.1,eqvAll_refl r h.2];rfl
end
theorem zcH:∀ {xs:List D},(∀ x ∈ xs,PyData.canLay0 x=true)->PyData.canLayAll0 xs=true
 | [],_=>rfl
 | x :: r,h=>by
  show (PyData.canLay0 x && PyData.canLayAll0 r)=true
  rw [h x List.mem_cons_self,zcH fun y hy=>h y (List.mem_cons_of_mem _ hy)];rfl
theorem zc2 {n:Nat}:∀ {xs:List D},(∀ x ∈ xs,PyData.depth x<=n)->PyData.depthAll xs<=n
 | [],_=>by simp [PyData.depthAll]
 | x :: r,h=>by
  have h1:=h x List.mem_cons_self
  have h2:=zc2 (n:=n) fun y hy=>h y (List.mem_cons_of_mem _ hy)
  simp only [PyData.depthAll]
  omega
def zbv (r:List Int):D:=.list (r.map PyData.int)
def zbg (rs:List (List Int)):D:=.list (rs.map zbv)
def zaK (cs:List Int) (ls:List (List (List Int))):D:=.tuple [.list (cs.map PyData.int),.list (ls.map zbg)]
structure zc3 (n:Nat) (rs:List (List Int)):Prop where
 few:rs.length<=5
 some:∀ r ∈ rs,r ≠ []
 there:∀ r ∈ rs,∀ t ∈ r,0<=t/\t < n
 once:rs.flatten.Nodup
structure Good (cs:List Int) (ls:List (List (List Int))):Prop where
 c1:1<=cs.length
 c6:cs.length<=6
 c7:∀ c ∈ cs,0<=c/\c < 8
 l1:1<=ls.length
 l7:ls.length<=7
 rk:∀ rs ∈ ls,zc3 cs.length rs
theorem zfv (r:List Int):(zbv r).canLay0=true:=zcH fun x hx=>by obtain ⟨y,_,rfl⟩:=List.mem_map.mp hx;rfl
theorem zjF (rs:List (List Int)):(zbg rs).canLay0=true:=zcH fun x hx=>by obtain ⟨y,_,rfl⟩:=List.mem_map.mp hx;exact zfv y
theorem zfw (cs:List Int) (ls:List (List (List Int))):(zaK cs ls).canLay0=true:=zcH fun x hx=>by
 have hx:x=.list (cs.map PyData.int) ∨ x=.list (ls.map zbg):=by simpa using hx
 rcases hx with rfl | rfl
 ·exact zfv cs
 ·exact zcH fun x hx=>by obtain ⟨y,_,rfl⟩:=List.mem_map.mp hx;exact zjF y
theorem zmk (i:Int):(PyData.int i).depth<=1:=by simp [PyData.depth]
theorem zgW {n:Nat} {xs:List D} (h:PyData.depthAll xs<=n):(PyData.list xs).depth<=n+1:=by simp only [PyData.depth];omega
theorem zfx (r:List Int):(zbv r).depth<=2:=zgW (zc2 fun x hx=>by obtain ⟨y,_,rfl⟩:=List.mem_map.mp hx;exact zmk y)
theorem zjG (rs:List (List Int)):(zbg rs).depth<=3:=zgW (zc2 fun x hx=>by obtain ⟨y,_,rfl⟩:=List.mem_map.mp hx;exact zfx y)
theorem zkQ (cs:List Int) (ls:List (List (List Int))):(zaK cs ls).depth<=60:=by
 have h:PyData.depthAll [.list (cs.map PyData.int),.list (ls.map zbg)]<=4:=zc2 fun x hx=>by
  have hx:x=.list (cs.map PyData.int) ∨ x=.list (ls.map zbg):=by simpa using hx
  rcases hx with rfl | rfl
  ·have:=zfx cs;unfold zbv at this;omega
  ·exact zgW (zc2 fun x hx=>by obtain ⟨y,_,rfl⟩:=List.mem_map.mp hx;exact zjG y)
 unfold zaK
 simp only [PyData.depth] at h ⊢
 omega
theorem zml (cs:List Int) (ls:List (List (List Int))):oNe (zaK cs ls) (zaK cs ls)=some false:=by
 unfold oNe
 rw [if_pos ⟨zfw cs ls,zfw cs ls,zkQ cs ls⟩,zfu _ (zfw cs ls)];rfl
theorem zgg {a b c x3:Option Sl} (ha:zfZ a=a) (hb:zfZ b=b) (hc:zfZ c=c) (hx:zfZ x3=x3):∀ (ds es:List D) (x4:Option Sl),es.length+ds.length<=1000000 ->
  ∃ y,zdu (gN 4) (zad true) (dVar 4) ds [a,b,c,x3,x4] es=some (es ++ ds,[a,b,c,x3,y])
 | [],es,x4,_=>⟨x4,by rw [zdu,List.append_nil]⟩
 | d :: r,es,x4,h=>by
  rw [List.length_cons] at h
  obtain ⟨y,e⟩:=zgg ha hb hc hx r (es ++ [d]) (some (.pub d)) (by rw [List.length_append,List.length_singleton];omega)
  refine ⟨y,?_⟩
  rw [zdu]
  have h1:gN 4 d [a,b,c,x3,x4]=some [a,b,c,x3,some (.pub d)]:=tg_N (of_decide_eq_true rfl) rfl
  rw [h1]
  dsimp only [zad]
  rw [if_pos rfl]
  have h2:dVar 4 [a,b,c,x3,some (.pub d)]=.ok d [a,b,c,x3,some (.pub d)]:=zaf rfl
  rw [h2]
  dsimp only
  rw [if_pos (by omega)]
  have h3:za5 [a,b,c,x3,some (.pub d)]=[a,b,c,x3,some (.pub d)]:=by
   unfold za5
   simp only [List.map_cons,List.map_nil,ha,hb,hc,hx]
   rfl
  rw [h3,e,List.append_assoc];rfl
theorem zeG {a b:D}:∀ (rs:List (List Int)) (es:List D) (x3 x4:Option Sl),es.length+rs.flatten.length<=1000000 ->
  zcW (gN 3) (zad true) (zbH (dVar 3)) (gN 4) (zad true) (dVar 4) (rs.map zbv) [some (.pub a),some (.pub b),none,x3,x4] es=some (es ++ rs.flatten.map PyData.int)
 | [],es,_,_,_=>by rw [List.map_nil,zcW];simp
 | r :: rs,es,x3,x4,h=>by
  rw [List.flatten_cons,List.length_append] at h
  rw [List.map_cons,zcW]
  have h1:gN 3 (zbv r) [some (.pub a),some (.pub b),none,x3,x4]=some [some (.pub a),some (.pub b),none,some (.pub (zbv r)),x4]:=tg_N (of_decide_eq_true rfl) rfl
  rw [h1]
  dsimp only [zad]
  rw [if_pos rfl]
  have h2:zbH (dVar 3) [some (.pub a),some (.pub b),none,some (.pub (zbv r)),x4]=.ok (r.map PyData.int) [some (.pub a),some (.pub b),none,some (.pub (zbv r)),x4]:=zbD (zaf rfl) rfl
  rw [h2]
  dsimp only
  have h3:za5 [some (.pub a),some (.pub b),none,some (.pub (zbv r)),x4]=[some (.pub a),some (.pub b),none,some (.pub (zbv r)),zfZ x4]:=rfl
  rw [h3]
  obtain ⟨y,e⟩:=zgg (a:=some (.pub a)) (b:=some (.pub b)) (c:=none) (x3:=some (.pub (zbv r))) rfl rfl rfl rfl (r.map PyData.int) es (zfZ x4) (by rw [List.length_map];omega)
  rw [e]
  dsimp only
  have ih:=zeG (a:=a) (b:=b) rs (es ++ r.map PyData.int) (some (.pub (zbv r))) y (by rw [List.length_append,List.length_map];omega)
  refine Eq.trans ih ?_
  rw [List.flatten_cons,List.map_append,List.append_assoc]
theorem zh4 {ns:List Int} (h:ns.Nodup):zda ns=ns.length:=by
 unfold zda
 have:∀ i,i<=ns.length->(PyProof.Rows.firstMet (fun i=>ns.getD i 0) i).length=i:=by
  intro i
  induction i with
  | zero=>intro _;rfl
  | succ i ih =>
   intro hi
   rw [PyProof.Rows.firstMet_succ]
   have hany:(PyProof.Rows.firstMet (fun i=>ns.getD i 0) i).any (· == ns.getD i 0)=false:=by
    rw [PyProof.Rows.firstMet_any,List.any_eq_false]
    intro x hx
    obtain ⟨j,hj,rfl⟩:=List.mem_map.mp hx
    have hj:=List.mem_range.mp hj
    intro e
    have e:ns.getD j 0=ns.getD i 0:=by simpa using e
    have l1:j < ns.length:=by omega
    have l2:i < ns.length:=by omega
    simp only [List.getD,List.getElem?_eq_getElem l1,List.getElem?_eq_getElem l2,Option.getD_some] at e
    exact absurd ((List.getElem_inj h).mp e) (by omega)
   unfold PyProof.Rows.step_dedup
   rw [hany]
   rw [if_neg (by decide),List.length_append,ih (by omega)];rfl
 exact this ns.length (Nat.le_refl _)
theorem zfy {d:D}:∀ {xs:List D} {k i:Nat},(zdr k xs)[i]?=some d->∃ x,xs[i]?=some x/\d=.tuple [.int ((k+i:Nat):Int),x]
 | [],k,i,h=>by cases h
 | x :: r,k,0,h=>by
  cases h
  exact ⟨x,rfl,rfl⟩
 | x :: r,k,i+1,h=>by
  obtain ⟨y,e,q⟩:=zfy (xs:=r) (k:=k+1) (i:=i) h
  exact ⟨y,e,by rw [q];congr 4;omega⟩
theorem zec:∀ (n:Nat) (l:List Int),l.Nodup->(∀ x ∈ l,0<=x/\x < n)->l.length<=n
 | 0,[],_,_=>Nat.le_refl _
 | 0,x :: r,_,h=>by have:=h x List.mem_cons_self;omega
 | n+1,l,hn,h=>by
  by_cases hm:(n:Int) ∈ l
  ·have:=zec n (l.erase (n:Int)) (hn.erase _) fun x hx=>by
    have h1:=(List.Nodup.mem_erase_iff hn).mp hx
    have h2:=h x h1.2
    have h3:=h1.1
    omega
   rw [List.length_erase_of_mem hm] at this
   omega
  ·have:=zec n l hn fun x hx=>by
    have h2:=h x hx
    have h3:x ≠ (n:Int):=fun e=>hm (e ▸ hx)
    omega
   omega
theorem zkR {n:Nat} {rs:List (List Int)} (g:zc3 n rs):rs.flatten.length<=n:=zec n _ g.once fun x hx=>by
 obtain ⟨r,hr,hxr⟩:=List.mem_flatten.mp hx
 exact g.there r hr x hxr
theorem zhy:∀ (xs ys:List Int),PyData.eqvAll (xs.map PyData.int) (ys.map PyData.int)=decide (xs=ys)
 | [],[]=>rfl
 | [],y :: ys=>by simp [PyData.eqvAll]
 | x :: xs,[]=>by simp [PyData.eqvAll]
 | x :: xs,y :: ys=>by
  have ih:=zhy xs ys
  show (PyData.eqv (.int x) (.int y) && PyData.eqvAll (xs.map PyData.int) (ys.map PyData.int))=_
  rw [ih]
  have:PyData.eqv (.int x) (.int y)=decide (x=y):=rfl
  rw [this,Bool.eq_iff_iff]
  simp
theorem zgh {xs:List Int}:oNe (.list (xs.map PyData.int)) (.list [])=some (!decide (xs=[])):=by
 unfold oNe
 have h1:(PyData.list (xs.map PyData.int)).canLay0=true:=zfv xs
 have h3:(PyData.list (xs.map PyData.int)).depth<=60:=by have:=zfx xs;unfold zbv at this;omega
 rw [if_pos ⟨h1,rfl,h3⟩]
 congr 2
 exact zhy xs []
theorem zmm {xs:List D} {x:D} (h:xs.getLast?=some x):oIx (.list xs) (.int (-1))=some x:=by
 unfold oIx atI
 have hl:xs ≠ []:=by rintro rfl;cases h
 have hp:0 < xs.length:=List.length_pos_iff.mpr hl
 rw [List.getLast?_eq_getElem?] at h
 show (ixN xs.length (-1)).bind _=_
 unfold ixN
 rw [if_neg (by decide),if_pos (by omega)]
 have e2:(-1+(xs.length:Int)).toNat=xs.length - 1:=by omega
 simp only [Option.bind_some]
 rw [e2];exact h
theorem zjH {xs:List Int} {k:Nat} (h:k < xs.length):oIx (.list (xs.map PyData.int)) (.int k)=some (.int (xs.getD k 0)):=by
 refine zbi ?_
 rw [List.getElem?_map,List.getElem?_eq_getElem h]
 simp [List.getD,List.getElem?_eq_getElem h]
theorem zcw (ns:List Int) (k:Nat) (hl:ns.length<=1000):∃ v,F_am [.list (ns.map PyData.int),.int k]=some (.int v):=by
 have hlen:oLen [.list (ns.map PyData.int)]=some (.int ns.length):=by rw [zaJ,List.length_map]
 by_cases h:k < ns.length
 ·refine ⟨ns.getD k 0,zcj (ρ:=[some (.pub (.list (ns.map PyData.int))),some (.pub (.int k))]) rfl ?_⟩
  unfold g_am
  apply zaD
  apply zaB
  case h1=>exact zbu rfl (zbc rfl hlen) rfl
  case h2=>exact fun _=>zav (za1 rfl (zaf rfl) (zjH h)) (zau rfl)
  case h3 =>
        intro hh;have : ¬ (k:Int) < (ns.length:Int):=by simpa using hh
        omega
 ·refine ⟨0,zcj (ρ:=[some (.pub (.list (ns.map PyData.int))),some (.pub (.int k))]) rfl ?_⟩
  unfold g_am
  apply zaD
  apply zaB
  case h1=>exact zbu rfl (zbc rfl hlen) rfl
  case h2 =>
        intro hh;have:(k:Int) < (ns.length:Int):=by simpa using hh
        omega
  case h3=>exact fun _=>za9 (zay (zav zac rfl))
def sz6:List Int:=6 :: 7 :: List.replicate 6 11
def szP:List Int:=List.replicate 6 6 ++ [2]
theorem zn2:∀ x ∈ sz6,0 < x/\x < 18446744073709551616:=by decide
theorem zn3:∀ x ∈ szP,0 < x/\x < 18446744073709551616:=by decide
def tab:List Int:=[1,1,2,0,3,7,1,4,5,6,1]
theorem zlh {z:Int} (h0:0<=z) (h1:z < 11):oIx (.list (tab.map PyData.int)) (.int z)=some (.int (tab.getD z.toNat 0))/\0<=tab.getD z.toNat 0/\tab.getD z.toNat 0 < 8:=by
 have e:z=0 ∨ z=1 ∨ z=2 ∨ z=3 ∨ z=4 ∨ z=5 ∨ z=6 ∨ z=7 ∨ z=8 ∨ z=9 ∨ z=10:=by omega
 rcases e with rfl|rfl|rfl|rfl|rfl|rfl|rfl|rfl|rfl|rfl|rfl <;> exact ⟨rfl,by decide,by decide⟩
structure zdC (n:Nat) (pl:List Int) (j:Nat) (rs:List (List Int)):Prop where
 few:rs.length<=j
 some:∀ r ∈ rs,r ≠ []
 there:∀ r ∈ rs,∀ t ∈ r,(0<=t/\t < n)/\pl.getD t.toNat 0 < 1+(j:Int)
 once:rs.flatten.Nodup
def zgi (n:Nat) (pl:List Int) (r:Int):List Int:=((List.range n).filter fun k=>decide (pl.getD k 0=r)).map fun k:Nat=>(k:Int)
theorem zgX (n:Nat) (pl:List Int) (r:Int):(zgi n pl r).Nodup:=by
 unfold zgi
 refine List.Pairwise.map _ (fun a b h e=>h (by omega)) ((List.nodup_range).filter _)
theorem zgj {n:Nat} {pl:List Int} {r t:Int} (h:t ∈ zgi n pl r):(0<=t/\t < n)/\pl.getD t.toNat 0=r:=by
 unfold zgi at h
 obtain ⟨k,hk,rfl⟩:=List.mem_map.mp h
 have hk:=List.mem_filter.mp hk
 have h1:=List.mem_range.mp hk.1
 have h2:pl.getD k 0=r:=by simpa using hk.2
 exact ⟨⟨by omega,by omega⟩,by rw [Int.toNat_natCast];exact h2⟩
theorem zdC.add {n:Nat} {pl:List Int} {j:Nat} {rs:List (List Int)} {row:List Int} (g:zdC n pl j rs) (hne:row ≠ []) (hm:∀ t ∈ row,t ∈ zgi n pl (1+(j:Int))) (hn:row.Nodup):zdC n pl (j+1) (rs ++ [row]) where
 few:=by rw [List.length_append,List.length_singleton];have:=g.few;omega
 some:=fun r hr=>by
  rcases List.mem_append.mp hr with z | z
  ·exact g.some r z
  ·rw [List.mem_singleton.mp z];exact hne
 there:=fun r hr t ht=>by
  rcases List.mem_append.mp hr with z | z
  ·have:=g.there r z t ht;exact ⟨this.1,by omega⟩
  ·rw [List.mem_singleton.mp z] at ht
   have:=zgj (hm t ht)
   exact ⟨this.1,by omega⟩
 once:=by
  rw [List.flatten_append,List.flatten_singleton]
  refine List.nodup_append.mpr ⟨g.once,hn,fun a ha b hb e=>?_⟩
  subst e
  obtain ⟨r,hr,har⟩:=List.mem_flatten.mp ha
  have h1:=(g.there r hr a har).2
  have h2:=(zgj (hm a hb)).2
  omega
theorem zdC.next {n:Nat} {pl:List Int} {j:Nat} {rs:List (List Int)} (g:zdC n pl j rs):zdC n pl (j+1) rs :=
 ⟨by have:=g.few;omega,g.some,fun r hr t ht=>⟨(g.there r hr t ht).1,by have:=(g.there r hr t ht).2;omega⟩,g.once⟩
theorem zdC.good {n:Nat} {pl:List Int} {rs:List (List Int)} (g:zdC n pl 5 rs):zc3 n rs:=⟨g.few,g.some,fun r hr t ht=>(g.there r hr t ht).1,g.once⟩
def invK (S dz sz:D) (at_ n:Nat) (cs pl:List Int) (ls:List (List (List Int))) (x9 x10:Option Sl) (j:Nat) (ρ : DEnv):Prop:=∃ (rs:List (List Int)) (x13 x14:Option Sl),
 ρ = [some (.pub S),some (.pub (.int at_)),some (.pub (.int 6)),some (.pub (.int 7)),some (.pub (.int 5)),some (.pub sz),some (.pub dz),some (.own (cs.map PyData.int)),some (.own (ls.map zbg)),x9,x10,some (.pub (.list (pl.map PyData.int))),some (.own (rs.map zbv)),x13,x14]/\zdC n pl j rs
theorem zjI {S dz sz:D} {at_ n:Nat} {cs pl:List Int} {ls:List (List (List Int))} {v9 v10:D} {j:Nat} {d:D} {ρ : DEnv} {Q:Out->Prop} (hcs:cs.length=n) (hn:n<=6) (hpl:pl.length=7) (hlast:pl.getD 6 0=0 ∨ pl.getD 6 0=1)
  (hj:(zbV 1 (5+1))[j]?=some d) (h:invK S dz sz at_ n cs pl ls (some (.pub v9)) (some (.pub v10)) j ρ) :
  ∃ ρ2,gN 13 d ρ = some ρ2/\Ho zgU ρ2 (zgQ (invK S dz sz at_ n cs pl ls (some (.pub v9)) (some (.pub v10)) (j+1)) Q):=by
 obtain ⟨rs,x13,x14,rfl,g⟩:=h
 obtain ⟨rfl,hlt⟩:=zdP hj
 have hj5:j < 5:=by omega
 refine ⟨_,tg_N (of_decide_eq_true rfl) (by walk_at "set"),?_⟩
 unfold zgU
 have hrd:zbV 0 ((n:Nat):Int)=(List.range n).map fun k=>.int (k:Int):=by
  unfold zbV
  have:((n:Int) - 0).toNat=n:=by omega
  rw [this]
  apply List.map_congr_left
  intro k _
  rw [Int.zero_add]
 have hc:zco (gN 15) (dBin oEq (dIxN 11 (dVar 15)) (dVar 13)) (dVar 15) (zbV 0 ((n:Nat):Int)) (za5 [some (.pub S),some (.pub (.int at_)),some (.pub (.int 6)),some (.pub (.int 7)),some (.pub (.int 5)),some (.pub sz),some (.pub dz),some (.own (cs.map PyData.int)),some (.own (ls.map zbg)),some (.pub v9),some (.pub v10),some (.pub (.list (pl.map PyData.int))),some (.own (rs.map zbv)),some (.pub (.int (1+(j:Int)))),x14] ++ List.replicate 1 none) []=some ((zgi n pl (1+(j:Int))).map PyData.int):=by
  rw [hrd,zcl (fun d=>match d with | .int k=>decide (pl.getD k.toNat 0=1+(j:Int)) | _=>false) (fun d=>d) (fun ρ=>∃ x,ρ = [some (.pub S),some (.pub (.int at_)),some (.pub (.int 6)),some (.pub (.int 7)),some (.pub (.int 5)),some (.pub sz),some (.pub dz),none,none,some (.pub v9),some (.pub v10),some (.pub (.list (pl.map PyData.int))),none,some (.pub (.int (1+(j:Int)))),zfZ x14,x])]
  ·rw [List.nil_append,List.map_id',List.filter_map]
   unfold zgi
   rw [List.map_map]
   rfl
  ·rintro d hm ρ ⟨x,rfl⟩
   obtain ⟨k,hk,rfl⟩:=List.mem_map.mp hm
   have hk:=List.mem_range.mp hk
   refine ⟨_,tg_N (of_decide_eq_true rfl) rfl,zar (za1 rfl (zaf rfl) (zjH (by omega))) (zaf rfl) zbt,fun _=>zaf rfl,some (.pub (.int k)),?_⟩
   unfold za5
   cases x14 with
   | none=>rfl
   | some sl=>cases sl <;> rfl
  ·exact ⟨none,rfl⟩
  ·rw [List.length_map,List.length_range,List.length_nil];omega
 have hlen:(cs.map PyData.int).length=n:=by rw [List.length_map,hcs]
 refine zax (zbQ (zc1 (zgO (zab (zi8 rfl) zak) (by rw [hlen];exact zfm (by omega) (by omega))) hc) (of_decide_eq_true rfl) rfl) ?_
 generalize hrow:zgi n pl (1+(j:Int))=row
 apply zaB
 case h1=>exact zhp rfl (za7 zak (by decide)) rfl zgh
 case h2 =>
  intro hh
  have hne:row ≠ []:=by simpa using hh
  have hlx:oIx (.list (pl.map PyData.int)) (.int (-1))=some (.int (pl.getD 6 0)):=zmm (by
   rw [List.getLast?_eq_getElem?,List.length_map,hpl,List.getElem?_map,List.getElem?_eq_getElem (show 7 - 1 < pl.length by omega)]
   simp [List.getD,List.getElem?_eq_getElem (show 6 < pl.length by omega)])
  obtain ⟨row',hix,hrow'⟩:∃ row':List Int,oIx (.list [.list (row.map PyData.int),.list (row.map PyData.int).reverse]) (.int (pl.getD 6 0))=some (zbv row')/\(row'=row ∨ row'=row.reverse):=by
   rcases hlast with e | e
   ·rw [e];exact ⟨row,rfl,.inl rfl⟩
   ·rw [e];exact ⟨row.reverse,by show some (PyData.list (row.map PyData.int).reverse)=_;unfold zbv;rw [List.map_reverse],.inr rfl⟩
  have hrl:(rs.map zbv).length < 1000000:=by rw [List.length_map];have:=g.few;omega
  refine zaR (zf9 rfl (zar (za7 (zab (zbP rfl rfl) (zab (znL (zaf rfl) zac zac (zbK (zf7 zac))) zak)) (of_decide_eq_true rfl)) (za1 rfl (zf7 zac) hlx) hix) rfl hrl rfl) ?_
  refine zcz ⟨rs ++ [row'],some (.pub (.int (1+(j:Int)))),some (.pub (.list (row.map PyData.int))),by rw [List.map_append];rfl,g.add ?_ ?_ ?_⟩
  ·rcases hrow' with e | e <;> rw [e]
   ·exact hne
   ·exact fun z=>hne (List.reverse_eq_nil_iff.mp z)
  ·intro t ht
   rw [hrow]
   rcases hrow' with e | e <;> rw [e] at ht
   ·exact ht
   ·exact List.mem_reverse.mp ht
  ·have hnd:=zgX n pl (1+(j:Int))
   rw [hrow] at hnd
   rcases hrow' with e | e <;> rw [e]
   ·exact hnd
   ·exact (List.reverse_perm row).nodup_iff.mpr hnd
 case h3=>exact fun _=>za9 (zcz ⟨rs,_,_,rfl,g.next⟩)
def invA (S dz sz:D) (at_ n:Nat) (cs:List Int) (i:Nat) (ρ : DEnv):Prop:=∃ (ls:List (List (List Int))) (x9 x10 x11 x12 x13 x14:Option Sl),
 ρ = [some (.pub S),some (.pub (.int at_)),some (.pub (.int 6)),some (.pub (.int 7)),some (.pub (.int 5)),some (.pub sz),some (.pub dz),some (.own (cs.map PyData.int)),some (.own (ls.map zbg)),x9,x10,x11,x12,x13,x14]/\ls.length=i/\∀ rs ∈ ls,zc3 n rs
theorem zh5 {ns:List Int} {dz sz:D} {at_ n:Nat} {cs:List Int} {i:Nat} {m:Int} {d:D} {ρ : DEnv} {Q:Out->Prop} (hns:ns.length<=1000) (hcs:cs.length=n) (hn:n<=6) (hm:m<=100)
  (hi:(zbV 0 m)[i]?=some d) (h:invA (.list (ns.map PyData.int)) dz sz at_ n cs i ρ) :
  ∃ ρ2,gN 9 d ρ = some ρ2/\Ho zgV ρ2 (zgQ (invA (.list (ns.map PyData.int)) dz sz at_ n cs (i+1)) Q):=by
 obtain ⟨ls,x9,x10,x11,x12,x13,x14,rfl,hl,hg⟩:=h
 obtain ⟨rfl,hlt⟩:=zdP hi
 refine ⟨_,tg_N (of_decide_eq_true rfl) (by walk_at "set"),?_⟩
 unfold zgV
 obtain ⟨v,hv⟩:=zcw ns (at_+1+i) hns
 have ev:((at_:Int)+1+(0+(i:Int)))=((at_+1+i:Nat):Int):=by omega
 rw [← ev] at hv
 refine zax (za4 (zaX (zab (zaf rfl) (zab (zar (zar (zaf rfl) zac za6) (zaf rfl) za6) zak)) rfl hv) (of_decide_eq_true rfl) rfl) ?_
 obtain ⟨r,hF,pl,rfl,hpl,hpb⟩:=zcv v (11 * (at_:Int)+3 * (0+(i:Int))+1) (sizes:=szP) zn3 (by decide)
 have hpl7:pl.length=7:=hpl
 have hmul:oMul (.list [.int (5+1)]) (.int 6)=some (.list ((List.replicate 6 6).map PyData.int)):=zdQ (by decide)
 have hadd:oAdd (.list ((List.replicate 6 6).map PyData.int)) (.list [.int 2])=some (.list (szP.map PyData.int)):=zbB (by decide)
 refine zax (za4 (zaX (zab (zaf rfl) (zab (zar (zar (zar zac (zaf rfl) (zea (by decide) (by decide))) (zar zac (zaf rfl) (zea (by decide) (by decide))) za6) zac za6) (zab (zar (zar (za7 (zab (zar (zaf rfl) zac za6) zak) (of_decide_eq_true rfl)) (zaf rfl) hmul) (za7 (zab zac zak) (of_decide_eq_true rfl)) hadd) zak))) rfl hF) (of_decide_eq_true rfl) rfl) ?_
 refine zax (zbQ (zcK zak (of_decide_eq_true rfl)) (of_decide_eq_true rfl) rfl) ?_
 have hlast:pl.getD 6 0=0 ∨ pl.getD 6 0=1:=by
  have e:pl[6]?=some pl[6]:=List.getElem?_eq_getElem (by omega)
  have:=hpb 6 pl[6] 2 e rfl
  have e2:pl.getD 6 0=pl[6]:=by simp [List.getD,e]
  rw [e2];omega
 apply zaD
 apply zd3 (invK (.list (ns.map PyData.int)) dz sz at_ n cs pl ls (some (.pub (.int (0+(i:Int))))) (some (.pub (.int v))))
 case h1=>exact zi9 (zab zac (zab (zar (zaf rfl) zac za6) zak)) (zkC (by decide) (by decide) (by decide) (by decide))
 case h0=>exact ⟨[],x13,x14,rfl,⟨Nat.le_refl _,fun _ h=>(by cases h),fun _ h=>(by cases h),List.nodup_nil⟩⟩
 case hst=>exact fun j d ρ e h=>zjI hcs hn hpl7 hlast e h
 case hend =>
  rintro ρ ⟨rs,y13,y14,rfl,g⟩
  refine zay ?_
  have hl5:(zbV 1 (5+1)).length=5:=rfl
  rw [hl5] at g
  have hll:(ls.map zbg).length < 1000000:=by rw [List.length_map];omega
  refine zaR (zf9 rfl (zbP rfl rfl) rfl hll rfl) ?_
  refine zcz ⟨ls ++ [rs],some (.pub (.int (0+(i:Int)))),some (.pub (.int v)),some (.pub (.list (pl.map PyData.int))),some (.pub (.list (rs.map zbv))),y13,y14,by rw [List.map_append];rfl,by rw [List.length_append,hl];rfl,fun x hx=>?_⟩
  rcases List.mem_append.mp hx with z | z
  ·exact hg x z
  ·rw [List.mem_singleton.mp z];exact g.good
theorem zgY {ns:List Int} (hns:ns.length<=1000) (at_:Nat):∃ r,F_ao [.list (ns.map PyData.int),.int at_,.int 6,.int 7,.int 5]=some r/\∃ cs ls,r=zaK cs ls/\Good cs ls:=by
 obtain ⟨v,hv⟩:=zcw ns at_ hns
 obtain ⟨r,hF,ds,rfl,hl,hd⟩:=zcv v at_ (sizes:=sz6) zn2 (by decide)
 have hl8:ds.length=8:=hl
 have at':∀ (j:Nat) (k z:Int),k=j->sz6[j]?=some z->∃ d,oIx (.list (ds.map PyData.int)) (.int k)=some (.int d)/\ds[j]?=some d/\0<=d/\d < z:=fun j k z hk hz=>by
  subst hk
  have hj:j < ds.length:=by rw [hl];exact (List.getElem?_eq_some_iff.mp hz).1
  have e:ds[j]?=some ds[j]:=List.getElem?_eq_getElem hj
  obtain ⟨p0,p1⟩:=hd j ds[j] z e hz
  exact ⟨ds[j],zbi (by rw [List.getElem?_map,e];rfl),e,p0,p1⟩
 obtain ⟨d0,x0,e0,p0,q0⟩:=at' 0 0 6 rfl rfl
 obtain ⟨d1,x1,e1,p1,q1⟩:=at' 1 1 7 rfl rfl
 have hmul:oMul (.list [.int 11]) (.int 6)=some (.list ((List.replicate 6 11).map PyData.int)):=zdQ (by decide)
 have hadd:oAdd (.list [.int 6,.int 7]) (.list ((List.replicate 6 11).map PyData.int))=some (.list (sz6.map PyData.int)):=zbB (by decide)
 obtain ⟨n,hn⟩:∃ n:Nat,1+d0=n:=⟨(1+d0).toNat,by omega⟩
 refine zez (ρ:=[some (.pub (.list (ns.map PyData.int))),some (.pub (.int at_)),some (.pub (.int 6)),some (.pub (.int 7)),some (.pub (.int 5)),none,none,none,none,none,none,none,none,none,none]) rfl ?_
 unfold g_ao
 refine zax (za4 (zar (za7 (zab (zaf rfl) (zab (zaf rfl) zak)) (of_decide_eq_true rfl)) (zar (za7 (zab zac zak) (of_decide_eq_true rfl)) (zaf rfl) hmul) hadd) (of_decide_eq_true rfl) rfl) ?_
 refine zax (za4 (zaX (zab (zaX (zab (zaf rfl) (zab (zaf rfl) zak)) rfl hv) (zab (zaf rfl) (zab (zaf rfl) zak))) rfl hF) (of_decide_eq_true rfl) rfl) ?_
 have hcut:DL.cutD (ds.map PyData.int) (some 2) (some (3+d0))=((ds.drop 2).take n).map PyData.int:=by
  rw [zfp (by decide) (by omega) (by omega)]
  have:(3+d0).toNat - (2:Int).toNat=n:=by omega
  rw [this];rfl
 have hrowl:((ds.drop 2).take n).length=n:=by rw [List.length_take,List.length_drop,hl8];omega
 have each:∀ z ∈ (ds.drop 2).take n,0<=z/\z < 11:=fun z hz=>by
  have hz:=List.mem_of_mem_take hz
  obtain ⟨k,hk,e⟩:=List.getElem_of_mem hz
  rw [List.length_drop,hl8] at hk
  rw [List.getElem_drop] at e
  have e2:ds[2+k]?=some z:=by rw [← e];exact List.getElem?_eq_getElem _
  refine hd (2+k) z 11 e2 ?_
  have:k=0 ∨ k=1 ∨ k=2 ∨ k=3 ∨ k=4 ∨ k=5:=by omega
  rcases this with rfl | rfl | rfl | rfl | rfl | rfl <;> rfl
 let cs:List Int:=((ds.drop 2).take n).map fun z=>tab.getD z.toNat 0
 have hcl:cs.length=n:=by show (List.map _ _).length=n;rw [List.length_map,hrowl]
 have hc:∀ xs:List (Option Sl),za5 xs=xs->xs.length=15->zco (gN 15) (zad true) (dBin oIx (mLst (zae (zad (.int 1)) (zae (zad (.int 1)) (zae (zad (.int 2)) (zae (zad (.int 0)) (zae (zad (.int 3)) (zae (zad (.int 7)) (zae (zad (.int 1)) (zae (zad (.int 4)) (zae (zad (.int 5)) (zae (zad (.int 6)) (zae (zad (.int 1)) (mNil))))))))))))) (dVar 15)) (((ds.drop 2).take n).map PyData.int) (za5 xs ++ List.replicate 1 none) []=some (cs.map PyData.int):=by
  intro xs hx hxl
  rw [hx,zcl (fun _=>true) (fun d=>match d with | .int z=>.int (tab.getD z.toNat 0) | _=>.none) (fun ρ=>∃ x,ρ = xs ++ [x])]
  ·rw [List.filter_eq_self.mpr (fun _ _=>rfl),List.nil_append,List.map_map]
   show _=some ((((ds.drop 2).take n).map fun z=>tab.getD z.toNat 0).map PyData.int)
   rw [List.map_map]
   rfl
  ·rintro d hm ρ ⟨x,rfl⟩
   obtain ⟨z,hz,rfl⟩:=List.mem_map.mp hm
   have ht:=zlh (each z hz).1 (each z hz).2
   have hset:(xs ++ [x]).set 15 (some (Sl.pub (.int z)))=xs ++ [some (.pub (.int z))]:=by
    rw [List.set_append_right _ _ (by omega),hxl];rfl
   have hget:(xs ++ [some (Sl.pub (.int z))])[15]?=some (some (Sl.pub (.int z))):=by
    rw [List.getElem?_append_right (by omega),hxl];rfl
   refine ⟨_,tg_N (by rw [List.length_append,hxl];exact of_decide_eq_true rfl) hset,rfl,fun _=>?_,some (.pub (.int z)),?_⟩
   ·exact zar (za7 (zab zac (zab zac (zab zac (zab zac (zab zac (zab zac (zab zac (zab zac (zab zac (zab zac (zab zac zak))))))))))) (of_decide_eq_true rfl)) (zaf hget) ht.1
   ·unfold za5 at hx ⊢
    rw [List.map_append,hx];rfl
  ·exact ⟨none,rfl⟩
  ·rw [List.length_map,hrowl,List.length_nil];omega
 refine zax (zbQ (zc1 (zbD (zc0 (zaf rfl) (zbK zac) (zbK (zar zac (za1 rfl zac x0) za6)) (by rw [zbY,hcut])) zcL) (hc _ rfl rfl)) (of_decide_eq_true rfl) rfl) ?_
 refine zax (zbQ (zcK zak (of_decide_eq_true rfl)) (of_decide_eq_true rfl) rfl) ?_
 apply zaD
 apply zd3 (invA (.list (ns.map PyData.int)) (.list (ds.map PyData.int)) (.list (sz6.map PyData.int)) at_ n cs)
 case h1=>exact zgO (zab (zar zac (za1 rfl zac x1) za6) zak) (zfm (by omega) (by omega))
 case h0=>exact ⟨[],_,_,_,_,_,_,rfl,rfl,fun _ h=>by cases h⟩
 case hst=>exact fun i d ρ e h=>zh5 hns hcl (by omega) (by omega) e h
 case hend =>
  rintro ρ ⟨ls,y9,y10,y11,y12,y13,y14,rfl,hll,hg⟩
  rw [zbW] at hll
  refine zay (zav (zci (zab (zbP rfl rfl) (zab (zbP rfl rfl) zak)) (of_decide_eq_true rfl)) ⟨_,rfl,cs,ls,rfl,?_⟩)
  exact ⟨by omega,by omega,fun c hc=>by
   obtain ⟨z,hz,rfl⟩:=List.mem_map.mp hc
   exact (zlh (each z hz).1 (each z hz).2).2,by omega,by omega,fun rs hrs=>by rw [hcl];exact hg rs hrs⟩
theorem zmn (a b:Int):PyData.eqv (.int a) (.int b)=(a == b):=by simp [PyData.eqv]
theorem zmo (t:Int) (r:List Int):oIn (.int t) (zbv r)=some (r.contains t):=by
 have h1:PyData.canLayAll0 (r.map PyData.int)=true:=by
  induction r with
  | nil=>rfl
  | cons x r ih=>rw [List.map_cons];unfold PyData.canLayAll0;rw [ih];rfl
 unfold oIn zbv
 dsimp only
 rw [if_pos ⟨rfl,h1,Nat.zero_le _⟩]
 congr 1
 rw [List.any_map]
 clear h1
 induction r with
 | nil=>rfl
 | cons x r ih =>
  rw [List.any_cons,ih,List.contains_cons]
  congr 1
  show PyData.eqv (.int x) (.int t)=(t == x)
  rw [zmn]
  exact Bool.eq_iff_iff.2 ⟨fun h=>beq_iff_eq.2 (beq_iff_eq.1 h).symm,fun h=>beq_iff_eq.2 (beq_iff_eq.1 h).symm⟩
def optD:Option Int->D
 | none=>.none
 | some t=>.int t
def zoX (ws:List (Option Int)):D:=.list (ws.map optD)
theorem zeH {s:D->DEnv->Option DEnv} {t:M Bool} {g:M D} (I:DEnv->Prop):∀ (ds qs:List D) (ρ : DEnv) (es:List D),qs.length=ds.length ->
  (∀ (i:Nat) d e,ds[i]?=some d->qs[i]?=some e->∀ ρ,I ρ -> ∃ ρ1,s d ρ = some ρ1/\t ρ1=.ok true ρ1/\g ρ1=.ok e ρ1/\I (za5 ρ1))->I ρ -> es.length+ds.length<=1000000->zco s t g ds ρ es=some (es ++ qs)
 | [],[],ρ,es,_,_,_,_=>by rw [zco,List.append_nil]
 | d :: r,e :: q,ρ,es,hl,st,h0,hz=>by
  obtain ⟨ρ1,e1,e2,e3,h1⟩:=st 0 d e rfl rfl ρ h0
  rw [List.length_cons] at hz
  rw [zco,e1]
  dsimp only
  rw [e2]
  dsimp only
  rw [if_pos rfl,e3]
  dsimp only
  rw [if_pos (by omega),zeH I r q (za5 ρ1) (es ++ [e]) (by simpa using hl) (fun i d' e' x y=>st (i+1) d' e' (by simpa using x) (by simpa using y)) h1 (by rw [List.length_append,List.length_singleton];omega),List.append_assoc]
  rfl
section
variable {cs:List Int} {ls:List (List (List Int))} {ws:List (Option Int)}
theorem zkS:oIx (zaK cs ls) (.int 0)=some (.list (cs.map PyData.int)):=zbi (j:=0) rfl
theorem zgZ:oIx (zaK cs ls) (.int 1)=some (.list (ls.map zbg)):=zbi (j:=1) rfl
end
theorem zjJ {d:D} (h1:d.canLay0=true) (h2:d.depth<=60):oNe d d=some false:=by
 unfold oNe
 rw [if_pos ⟨h1,h1,h2⟩,zfu _ h1];rfl
section
variable {cs:List Int} {ls:List (List (List Int))} {ws:List (Option Int)} {a:Nat} {o had:Option Int} {rs:List (List Int)} {t:Int}
end
inductive Ord where | firsts | full | lasts
def Ord.tx:Ord->Str
 | .firsts => "firsts" | .full => "full" | .lasts => "lasts"
def oldD:Option (List (Option Int))->D
 | none=>.none
 | some ws=>zoX ws
def aimD (o:Ord) (old:Option (List (Option Int))) (ts:List Int):D:=.tuple [.str o.tx,oldD old,.list (ts.map PyData.int)]
structure zc4 (n m:Nat) (old:Option (List (Option Int))) (ts:List Int):Prop where
 len:∀ ws,old=some ws->ws.length=m
 old:∀ ws t,old=some ws->some t ∈ ws->0<=t/\t < n
 once:ts.Nodup
 there:∀ a ∈ ts,0<=a/\a < m
theorem zc4.few {n m:Nat} {old:Option (List (Option Int))} {ts:List Int} (g:zc4 n m old ts):ts.length<=m:=zec m ts g.once g.there
theorem zg0 {t:Int} {r:List Int}:oIn (.int t) (.list (r.map PyData.int))=some (r.contains t):=zmo t r
theorem zfa {c s w sz dg x6:Option Sl} {m:Nat} {T:List Int} (hm:0 < m):∀ (k fuel d:Nat),(∀ j,j < k->(((d+j) % m:Nat):Int) ∈ T)->(((d+k) % m:Nat):Int) ∉ T->d < m->k < fuel ->
  zdb (zhZ oIn (dVar 8) 7) zfs fuel [w,c,s,some (.pub (.int m)),sz,dg,x6,some (.own (T.map PyData.int)),some (.pub (.int d))]=.nx [w,c,s,some (.pub (.int m)),sz,dg,x6,some (.own (T.map PyData.int)),some (.pub (.int (((d+k) % m:Nat):Int)))]
 | 0,fuel+1,d,_,hn,hd,_=>by
  have e0:(d+0) % m=d:=by rw [Nat.add_zero];exact Nat.mod_eq_of_lt hd
  rw [e0] at hn ⊢
  have e:(T.contains (d:Int))=false:=by simpa using hn
  rw [zdb,zhq (r:=false) (zaf rfl) rfl (by rw [zg0,e])]
  rfl
 | k+1,fuel+1,d,hj,hn,hd,hf=>by
  have h0:=hj 0 (by omega)
  rw [Nat.add_zero,Nat.mod_eq_of_lt hd] at h0
  have e:(T.contains (d:Int))=true:=by simpa using h0
  rw [zdb,zhq (r:=true) (zaf rfl) rfl (by rw [zg0,e])]
  dsimp only
  rw [if_pos rfl]
  have hst:zfs [w,c,s,some (.pub (.int m)),sz,dg,x6,some (.own (T.map PyData.int)),some (.pub (.int d))]=.nx [w,c,s,some (.pub (.int m)),sz,dg,x6,some (.own (T.map PyData.int)),some (.pub (.int (((d+1) % m:Nat):Int)))]:=by
   unfold zfs
   refine za4 (zar (zar (zaf rfl) zac za6) (zaf rfl) (zcZ (by omega))) (of_decide_eq_true rfl) ?_
   have e1:((d+1:Nat):Int)=(d:Int)+1:=by omega
   have:((d:Int)+1) % (m:Int)=(((d+1) % m:Nat):Int):=by rw [Int.natCast_emod,e1]
   rw [this];rfl
  rw [hst]
  dsimp only
  have e2:∀ j,((d+1) % m+j) % m=(d+(j+1)) % m:=fun j=>by rw [Nat.mod_add_mod];congr 1;omega
  have:=zfa (c:=c) (s:=s) (w:=w) (sz:=sz) (dg:=dg) (x6:=x6) (T:=T) hm k fuel ((d+1) % m) (fun j hjk=>by rw [e2];exact hj (j+1) (by omega)) (by rw [e2];exact hn) (Nat.mod_lt _ hm) (by omega)
  rw [e2] at this
  exact this
theorem zgk:∀ (a b:List Int),a.Nodup->(∀ x ∈ a,x ∈ b)->a.length<=b.length
 | [],_,_,_=>Nat.zero_le _
 | x :: a,b,hn,h=>by
  have hx:=h x List.mem_cons_self
  have hn':=List.nodup_cons.mp hn
  have:=zgk a (b.erase x) hn'.2 fun y hy=>by
   have hne:y ≠ x:=fun e=>hn'.1 (e ▸ hy)
   exact (List.mem_erase_of_ne hne).mpr (h y (List.mem_cons_of_mem _ hy))
  rw [List.length_erase_of_mem hx] at this
  have hp:=List.length_pos_of_mem hx
  rw [List.length_cons]
  omega
theorem zh6 {m:Nat} {T:List Int} (d:Nat) (hl:T.length < m) (hn:T.Nodup):∃ k,k < m/\(∀ j,j < k->(((d+j) % m:Nat):Int) ∈ T)/\(((d+k) % m:Nat):Int) ∉ T:=by
 have ex:∃ k,k < m/\(((d+k) % m:Nat):Int) ∉ T:=by
  refine Classical.byContradiction fun hno=>?_
  have all:∀ k,k < m->(((d+k) % m:Nat):Int) ∈ T:=fun k hk=>Classical.byContradiction fun z=>hno ⟨k,hk,z⟩
  have hsub:∀ x:Nat,x < m->((x:Nat):Int) ∈ T:=fun x hx=>by
   have h1:=all ((x+m - d % m) % m) (Nat.mod_lt _ (by omega))
   have e:(d+(x+m - d % m) % m) % m=x:=by
    have hdm:d % m < m:=Nat.mod_lt _ (by omega)
    rw [Nat.add_mod_mod,← Nat.mod_add_mod]
    rw [show d % m+(x+m - d % m)=x+m by omega,Nat.add_mod_right,Nat.mod_eq_of_lt hx]
   rw [e] at h1
   exact h1
  have:=zgk ((List.range m).map fun x:Nat=>(x:Int)) T (List.Pairwise.map _ (fun a b h e=>h (by omega)) List.nodup_range) (fun t ht=>by
   obtain ⟨x,hx,rfl⟩:=List.mem_map.mp ht
   exact hsub x (List.mem_range.mp hx))
  rw [List.length_map,List.length_range] at this
  omega
 obtain ⟨k,hk,hkn⟩:=ex
 induction k using Nat.strongRecOn with
 | _ k ih =>
  by_cases h:∀ j,j < k->(((d+j) % m:Nat):Int) ∈ T
  ·exact ⟨k,hk,h,hkn⟩
  ·obtain ⟨j,hj⟩:=Classical.not_forall.mp h
   obtain ⟨hj1,hj2⟩:=Classical.not_imp.mp hj
   exact ih j hj1 (by omega) hj2
theorem zli {x:D} {m:Nat} (h:m<=1000):oMul (.list [x]) (.int m)=some (.list (List.replicate m x)):=by
 rw [zdQ ⟨by omega,by omega,by show 1 * _<=_;omega⟩]
 congr 2
 rw [Int.toNat_natCast]
 clear h
 induction m with
 | zero=>rfl
 | succ n ih=>rw [List.replicate_succ,List.flatten_cons,ih,List.replicate_succ];rfl
def szA (n m:Nat):List Int:=[3,2,(m:Int)+1] ++ List.replicate m ((n:Int)+1) ++ List.replicate m (m:Int)
theorem zjK (n m:Nat):(szA n m).length=3+m+m:=by unfold szA;rw [List.length_append,List.length_append,List.length_replicate,List.length_replicate];rfl
theorem zmp {n m j:Nat} (h:j < m):(szA n m)[3+j]?=some ((n:Int)+1):=by
 unfold szA
 rw [List.getElem?_append_left (by rw [List.length_append,List.length_replicate];show 3+j < 3+m;omega),List.getElem?_append_right (by show 3<=3+j;omega)]
 show (List.replicate m ((n:Int)+1))[3+j - 3]?=_
 rw [Nat.add_sub_cancel_left,List.getElem?_replicate,if_pos h]
theorem zkT {n m j:Nat} (h:j < m):(szA n m)[3+m+j]?=some (m:Int):=by
 unfold szA
 have e:([3,2,(m:Int)+1] ++ List.replicate m ((n:Int)+1)).length=3+m:=by rw [List.length_append,List.length_replicate];rfl
 rw [List.getElem?_append_right (by rw [e];omega),e,Nat.add_sub_cancel_left,List.getElem?_replicate,if_pos h]
section
variable {cs:List Int} {ls:List (List (List Int))}
def zjL (d:Int):Option Int:=if 0 < d then some (d - 1) else none
theorem zkU (d:Int):oIx (.list [.none,.int (d - 1)]) (.int (if decide (0 < d)=true then 1 else 0))=some (optD (zjL d)):=by
 unfold zjL
 by_cases h:0 < d
 ·rw [decide_eq_true h,if_pos rfl,if_pos h];exact zbi (j:=1) rfl
 ·rw [decide_eq_false h,if_neg (by decide),if_neg h];exact zbi (j:=0) rfl
theorem zhz (g:Good cs ls) (c s:Int):∃ r,F_ap [zaK cs ls,.int c,.int s]=some r/\∃ o old ts,r=aimD o old ts/\zc4 cs.length ls.length old ts:=by
 refine zez (ρ:=[some (.pub (zaK cs ls)),some (.pub (.int c)),some (.pub (.int s)),none,none,none,none,none,none]) rfl ?_
 unfold g_ap
 have l7:=g.l7;have l1:=g.l1;have c6:=g.c6;have c1:=g.c1
 have hll:oLen [.list (ls.map zbg)]=some (.int ls.length):=by rw [zaJ,List.length_map]
 have hlc:oLen [.list (cs.map PyData.int)]=some (.int cs.length):=by rw [zaJ,List.length_map]
 generalize hm:ls.length=m at *
 generalize hn:cs.length=n at *
 refine zax (za4 (zaY (zab (za1 rfl zac zgZ) zak) hll) (of_decide_eq_true rfl) rfl) ?_
 have s1:oAdd (.list [.int 3,.int 2,.int ((m:Int)+1)]) (.list (List.replicate m (.int ((n:Int)+1))))=some (.list (([3,2,(m:Int)+1] ++ List.replicate m ((n:Int)+1)).map PyData.int)):=by
  rw [zbB (by rw [List.length_replicate];show 3+m<=_;omega),List.map_append,List.map_replicate];rfl
 refine zax (za4 (zar (za7 (zab zac (zab zac (zab (zar (zaf rfl) zac za6) zak))) (of_decide_eq_true rfl)) (zar (za7 (zab (zar (zaY (zab (za1 rfl zac zkS) zak) hlc) zac za6) zak) (of_decide_eq_true rfl)) (zaf rfl) (zli (by omega))) s1) (of_decide_eq_true rfl) rfl) ?_
 have s2:oAdd (.list (([3,2,(m:Int)+1] ++ List.replicate m ((n:Int)+1)).map PyData.int)) (.list (List.replicate m (.int (m:Int))))=some (.list ((szA n m).map PyData.int)):=by
  rw [zbB (by rw [List.length_map,List.length_append,List.length_replicate,List.length_replicate];show 3+m+m<=_;omega)]
  unfold szA
  rw [List.map_append (l₂:=List.replicate m (m:Int)),List.map_replicate (n:=m) (a:=(m:Int))]
 obtain ⟨r,hF,dg,rfl,hdl,hdb⟩:=zcv c s (sizes:=szA n m) (fun x hx=>by
  unfold szA at hx
  rcases List.mem_append.mp hx with hx | hx
  ·rcases List.mem_append.mp hx with hx | hx
   ·have hx:x=3 ∨ x=2 ∨ x=(m:Int)+1:=by simpa using hx
    omega
   ·rw [(List.mem_replicate.mp hx).2];omega
  ·rw [(List.mem_replicate.mp hx).2];omega) (by rw [zjK];omega)
 rw [zjK] at hdl
 refine zax (za4 (zaX (zab (zaf rfl) (zab (zaf rfl) (zab (zar (zaf rfl) (zar (za7 (zab (zaf rfl) zak) (of_decide_eq_true rfl)) (zaf rfl) (zli (by omega))) s2) zak))) rfl hF) (of_decide_eq_true rfl) rfl) ?_
 have get:∀ j,j < 3+m+m->∃ d,dg[j]?=some d:=fun j hj=>⟨dg[j]'(by omega),List.getElem?_eq_getElem _⟩
 obtain ⟨d0,e0⟩:=get 0 (by omega)
 obtain ⟨d1,e1⟩:=get 1 (by omega)
 obtain ⟨d2,e2⟩:=get 2 (by omega)
 have b0:=hdb 0 d0 3 e0 rfl
 have b1:=hdb 1 d1 2 e1 rfl
 have b2:=hdb 2 d2 ((m:Int)+1) e2 rfl
 have i0:oIx (.list (dg.map PyData.int)) (.int 0)=some (.int d0):=zbi (j:=0) (by rw [List.getElem?_map,e0];rfl)
 have i1:oIx (.list (dg.map PyData.int)) (.int 1)=some (.int d1):=zbi (j:=1) (by rw [List.getElem?_map,e1];rfl)
 have i2:oIx (.list (dg.map PyData.int)) (.int 2)=some (.int d2):=zbi (j:=2) (by rw [List.getElem?_map,e2];rfl)
 refine zax (za4 zac (of_decide_eq_true rfl) rfl) ?_
 let ol:List Int:=(dg.drop 3).take m
 have oll:ol.length=m:=by show ((dg.drop 3).take m).length=m;rw [List.length_take,List.length_drop];omega
 have olb:∀ d ∈ ol,0<=d/\d < (n:Int)+1:=fun d hd=>by
  obtain ⟨j,hj,e⟩:=List.mem_iff_getElem.mp hd
  have hjm:j < m:=by omega
  refine hdb (3+j) d _ ?_ (zmp hjm)
  have:ol[j]?=some d:=by rw [List.getElem?_eq_getElem hj,e]
  show dg[3+j]?=_
  rw [← this]
  show _=((dg.drop 3).take m)[j]?
  rw [List.getElem?_take,if_pos hjm,List.getElem?_drop]
 have hcut:DL.cutD (dg.map PyData.int) (some 3) (some (3+(m:Int)))=ol.map PyData.int:=by
  rw [zfp (by decide) (by omega) (by omega)]
  have t1:(3:Int).toNat=3:=rfl
  have t2:(3+(m:Int)).toNat - (3:Int).toNat=m:=by omega
  rw [t2,t1]
 have step:Ho (sIf (dBin oEq (dIxN 5 (zad (.int 1))) (zad (.int 1))) (zb1 6 (zdO (zbH (dSlA (dVar 5) (zas (zad (.int 3)) fun x=>mOpt (zcx x)) (zas (dBin oAdd (zad (.int 3)) (dVar 3)) fun x=>mOpt (zcx x)))) 1 (gN 9) (zad true) (dBin oIx (mLst (zae (zad .none) (zae (dBin oSub (dVar 9) (zad (.int 1))) (mNil)))) (zbr zeS (zae (mMap PyData.bool (zbx (oIB fun i j=>decide (j < i)) 9 (zad (.int 0)))) (mNil)))))) (sNx))
   [some (.pub (zaK cs ls)),some (.pub (.int c)),some (.pub (.int s)),some (.pub (.int m)),some (.pub (.list (([3,2,(m:Int)+1] ++ List.replicate m ((n:Int)+1)).map PyData.int))),some (.pub (.list (dg.map PyData.int))),some (.pub .none),none,none]
   (fun r=>∃ old x6,r=.nx [some (.pub (zaK cs ls)),some (.pub (.int c)),some (.pub (.int s)),some (.pub (.int m)),some (.pub (.list (([3,2,(m:Int)+1] ++ List.replicate m ((n:Int)+1)).map PyData.int))),some (.pub (.list (dg.map PyData.int))),x6,none,none] /\
    (x6=some (.pub (oldD old)) ∨ ∃ ws,old=some ws/\x6=some (.own (ws.map optD)))/\(∀ ws,old=some ws->ws.length=m)/\∀ ws t,old=some ws->some t ∈ ws->0<=t/\t < n):=by
  have hc:∀ a b:Option Sl,zco (gN 9) (zad true) (dBin oIx (mLst (zae (zad .none) (zae (dBin oSub (dVar 9) (zad (.int 1))) (mNil)))) (zbr zeS (zae (mMap PyData.bool (zbx (oIB fun i j=>decide (j < i)) 9 (zad (.int 0)))) (mNil)))) (ol.map PyData.int) (za5 [some (.pub (zaK cs ls)),some (.pub (.int c)),some (.pub (.int s)),some (.pub (.int m)),some (.pub (.list (([3,2,(m:Int)+1] ++ List.replicate m ((n:Int)+1)).map PyData.int))),some (.pub (.list (dg.map PyData.int))),some (.pub .none),none,none] ++ List.replicate 1 none) []=some ((ol.map zjL).map optD):=fun _ _=>by
   refine zeH (fun ρ=>∃ x,ρ = [some (.pub (zaK cs ls)),some (.pub (.int c)),some (.pub (.int s)),some (.pub (.int m)),some (.pub (.list (([3,2,(m:Int)+1] ++ List.replicate m ((n:Int)+1)).map PyData.int))),some (.pub (.list (dg.map PyData.int))),some (.pub .none),none,none,x]) _ _ _ _ (by simp only [List.length_map]) ?_ ⟨none,rfl⟩ (by rw [List.length_map,List.length_nil];omega)
   rintro i d e hd he ρ ⟨x,rfl⟩
   rw [List.getElem?_map] at hd
   rw [List.getElem?_map,List.getElem?_map] at he
   cases hw:ol[i]? with
   | none=>rw [hw] at hd;cases hd
   | some z =>
   rw [hw] at hd he
   cases hd
   cases he
   exact ⟨_,tg_N (of_decide_eq_true rfl) rfl,rfl,zar (za7 (zab zac (zab (zar (zaf rfl) zac zjb) zak)) (of_decide_eq_true rfl)) (zaY (zab (zaU (zbu rfl zac rfl)) zak) rfl) (zkU z),_,rfl⟩
  apply zaB
  case h1=>exact zar (za1 rfl zac i1) zac zbt
  case h2 =>
   intro _
   refine zaR (zbQ (zc1 (zbD (zc0 (zaf rfl) (zbK zac) (zbK (zar zac (zaf rfl) za6)) (by rw [zbY,hcut])) zcL) (hc none none)) (of_decide_eq_true rfl) rfl) ?_
   refine ⟨some (ol.map zjL),_,rfl,.inr ⟨_,rfl,rfl⟩,fun ws e=>?_,fun ws t e ht=>?_⟩
   ·cases e;rw [List.length_map];exact oll
   ·cases e
    obtain ⟨d,hd,e⟩:=List.mem_map.mp ht
    have:=olb d hd
    unfold zjL at e
    split at e
    ·cases e;omega
    ·cases e
  case h3=>exact fun _=>za9 ⟨none,_,rfl,.inl rfl,(fun ws e=>by cases e),(fun ws t e=>by cases e)⟩
 refine zaD (zey step fun r hr=>?_)
 obtain ⟨old,x6,rfl,hx6,hol,hob⟩:=hr
 refine zay ?_
 refine zax (zbQ (zcK zak (of_decide_eq_true rfl)) (of_decide_eq_true rfl) rfl) ?_
 obtain ⟨k2,rfl⟩:∃ k:Nat,d2=k:=⟨d2.toNat,by omega⟩
 let tl:List Int:=(dg.drop (3+m)).take k2
 have tll:tl.length=k2:=by show ((dg.drop (3+m)).take k2).length=k2;rw [List.length_take,List.length_drop];omega
 have tlb:∀ j d,tl[j]?=some d->0<=d/\d < (m:Int):=fun j d hj=>by
  have hjl:j < k2:=by have:=(List.getElem?_eq_some_iff.mp hj).1;omega
  refine hdb (3+m+j) d _ ?_ (zkT (by omega))
  rw [← hj]
  show _=((dg.drop (3+m)).take k2)[j]?
  rw [List.getElem?_take,if_pos hjl,List.getElem?_drop]
 have hcut2:DL.cutD (dg.map PyData.int) (some (3+(m:Int))) (some (3+(m:Int)+(k2:Int)))=tl.map PyData.int:=by
  rw [zfp (by omega) (by omega) (by omega)]
  have t1:(3+(m:Int)).toNat=3+m:=by omega
  have t2:(3+(m:Int)+(k2:Int)).toNat - (3+(m:Int)).toNat=k2:=by omega
  rw [t2,t1]
 apply zaD
 apply zd3 (fun i ρ=>∃ (T:List Int) (x8:Option Sl),ρ = [some (.pub (zaK cs ls)),some (.pub (.int c)),some (.pub (.int s)),some (.pub (.int m)),some (.pub (.list (([3,2,(m:Int)+1] ++ List.replicate m ((n:Int)+1)).map PyData.int))),some (.pub (.list (dg.map PyData.int))),x6,some (.own (T.map PyData.int)),x8]/\T.length=i/\T.Nodup/\∀ a ∈ T,0<=a/\a < (m:Int))
 case h1=>exact zbD (zc0 (zaf rfl) (zbK (zar zac (zaf rfl) za6)) (zbK (zar (zar zac (zaf rfl) za6) (za1 rfl zac i2) za6)) (by rw [zbY,hcut2])) zcL
 case h0=>exact ⟨[],_,rfl,rfl,List.nodup_nil,fun _ h=>by cases h⟩
 case hst =>
  rintro i d ρ hi ⟨T,x8,rfl,hT,hTn,hTb⟩
  rw [List.getElem?_map] at hi
  cases hw:tl[i]? with
  | none=>rw [hw] at hi;cases hi
  | some z =>
  rw [hw] at hi
  cases hi
  have hz:=tlb i z hw
  have hil:i < k2:=by have:=(List.getElem?_eq_some_iff.mp hw).1;omega
  obtain ⟨zz,rfl⟩:∃ k:Nat,z=k:=⟨z.toNat,by omega⟩
  refine ⟨_,tg_N (of_decide_eq_true rfl) (by walk_at "set"),?_⟩
  unfold zjB
  obtain ⟨k,hk,hk1,hk2⟩:=zh6 (m:=m) (T:=T) zz (by omega) hTn
  refine zax (zfa (by omega) k 1000 zz hk1 hk2 (by omega) (by omega)) ?_
  refine zaR (zf9 rfl (zaf rfl) rfl (by rw [List.length_map];omega) rfl) ?_
  refine zcz ⟨T ++ [(((zz+k) % m:Nat):Int)],_,by rw [List.map_append (l₁:=T) (f:=PyData.int)];rfl,by rw [List.length_append,hT];rfl,?_,fun a ha=>?_⟩
  ·refine List.nodup_append.mpr ⟨hTn,List.nodup_cons.mpr ⟨(by simp),List.nodup_nil⟩,fun a ha b hb e=>?_⟩
   rw [List.mem_singleton.mp hb] at e
   exact hk2 (e ▸ ha)
  ·rcases List.mem_append.mp ha with h | h
   ·exact hTb a h
   ·rw [List.mem_singleton.mp h]
    have:=Nat.mod_lt (zz+k) (show 0 < m by omega)
    exact ⟨by omega,by omega⟩
 case hend =>
  rintro ρ ⟨T,x8,rfl,hT,hTn,hTb⟩
  refine zay ?_
  obtain ⟨o,ho⟩:∃ o:Ord,oIx (.list [.str "firsts", .str "full", .str "lasts"]) (.int d0)=some (.str o.tx):=by
   have:d0=0 ∨ d0=1 ∨ d0=2:=by omega
   rcases this with rfl | rfl | rfl
   ·exact ⟨.firsts,zbi (j:=0) rfl⟩
   ·exact ⟨.full,zbi (j:=1) rfl⟩
   ·exact ⟨.lasts,zbi (j:=2) rfl⟩
  have ga:zc4 n m old T:=⟨hol,hob,hTn,hTb⟩
  rcases hx6 with rfl | ⟨ws,rfl,rfl⟩
  ·exact zav (zci (zab (zar (za7 (zab zac (zab zac (zab zac zak))) (of_decide_eq_true rfl)) (za1 rfl zac i0) ho) (zab (zaf rfl) (zab (zbP rfl rfl) zak))) (of_decide_eq_true rfl)) ⟨_,rfl,o,_,T,rfl,ga⟩
  ·exact zav (zci (zab (zar (za7 (zab zac (zab zac (zab zac zak))) (of_decide_eq_true rfl)) (za1 rfl zac i0) ho) (zab (zbP rfl rfl) (zab (zbP rfl rfl) zak))) (of_decide_eq_true rfl)) ⟨_,rfl,o,some ws,T,rfl,ga⟩
end
section
variable {cs:List Int} {ls:List (List (List Int))}
theorem zmq (g:Good cs ls):F_aq [zaK cs ls]=some (zaK cs ls):=by
 refine zcj (ρ:=[some (.pub (zaK cs ls)),none,none]) rfl ?_
 unfold g_aq
 have l7:=g.l7
 refine zax (zbQ (zcK zak (of_decide_eq_true rfl)) (of_decide_eq_true rfl) rfl) ?_
 apply zaD
 apply zd3 (fun i ρ=>∃ x2,ρ = [some (.pub (zaK cs ls)),some (.own ((ls.take i).map zbg)),x2])
 case h1=>exact zbD (za1 rfl zac zgZ) zcL
 case h0=>exact ⟨_,rfl⟩
 case hst =>
  rintro i d ρ hi ⟨x2,rfl⟩
  rw [List.getElem?_map] at hi
  cases hw:ls[i]? with
  | none=>rw [hw] at hi;cases hi
  | some rs =>
  rw [hw] at hi
  cases hi
  have hrs:rs.length<=5:=(g.rk rs (List.mem_of_getElem? hw)).few
  refine ⟨_,tg_N (of_decide_eq_true rfl) (by walk_at "set"),?_⟩
  unfold zjz
  have hc:∀ x1:Option Sl,zco (gN 3) (zad true) (mMap PyData.list (zd2 3)) (rs.map zbv) (za5 [some (.pub (zaK cs ls)),x1,some (.pub (zbg rs))] ++ List.replicate 1 none) []=some (rs.map zbv):=fun x1=>by
   refine zeH (fun ρ=>∃ a x,ρ = [some (.pub (zaK cs ls)),a,some (.pub (zbg rs)),x]) _ _ _ _ rfl ?_ ⟨_,none,rfl⟩ (by rw [List.length_map,List.length_nil];omega)
   rintro j d e hd he ρ ⟨a,x,rfl⟩
   rw [hd] at he
   cases he
   rw [List.getElem?_map] at hd
   cases hwj:rs[j]? with
   | none=>rw [hwj] at hd;cases hd
   | some r =>
   rw [hwj] at hd
   cases hd
   exact ⟨_,tg_N (of_decide_eq_true rfl) rfl,rfl,zaU (zfo rfl (show zeR [zbv r]=some (r.map PyData.int) from rfl)),_,_,rfl⟩
  refine zaR (zf9 rfl (zaU (zc1 (zbD (zaf rfl) zcL) (hc _))) rfl (by rw [List.length_map,List.length_take];omega) rfl) ?_
  refine zcz ⟨some (.pub (zbg rs)),?_⟩
  rw [List.take_succ,hw,List.map_append]
  rfl
 case hend =>
  rintro ρ ⟨x2,rfl⟩
  rw [List.length_map,List.take_length]
  exact zay (zav (zci (zab (zaU (zaA (zab (za1 rfl zac zkS) zak) (zby (show zeR [.list (cs.map PyData.int)]=some (cs.map PyData.int) from rfl)))) (zab (zbP rfl rfl) zak)) (of_decide_eq_true rfl)) rfl)
end
section
variable {cs:List Int} {ls:List (List (List Int))} {ws us:List (Option Int)}
end
theorem zhA {xs:List D} {a b:Option Int}:(DL.cutD xs a b).length<=xs.length:=by
 unfold DL.cutD
 rw [List.length_take,List.length_drop]
 omega
theorem zhB {xs:List D} {a b:Option Int} {x:D} (h:x ∈ DL.cutD xs a b):x ∈ xs:=by
 unfold DL.cutD at h
 exact List.mem_of_mem_drop (List.mem_of_mem_take h)
theorem zkV (a b:Str):PyData.eqv (.str a) (.str b)=(a == b):=rfl
theorem zfz (z:Str):∀ (ys:List Str),((ys.map PyData.str).any fun y=>PyData.eqv y (.str z))=ys.contains z
 | []=>rfl
 | y :: r=>by
  rw [List.map_cons,List.any_cons,zfz z r,List.contains_cons,zkV]
  by_cases h:y=z
  ·subst h;simp
  ·have h1:(y == z)=false:=by simpa using h
   have h2:(z == y)=false:=by simpa using Ne.symm h
   rw [h1,h2]
theorem zfA:∀ {ys:List Str},(∀ y ∈ ys,PyData.strOk y=true)->PyData.canLayAll0 (ys.map PyData.str)=true
 | [],_=>rfl
 | y :: r,h=>by
  show (PyData.strOk y && PyData.canLayAll0 (r.map PyData.str))=true
  rw [h y List.mem_cons_self,zfA fun x hx=>h x (List.mem_cons_of_mem _ hx)];rfl
theorem zkW {z:Str} {ys:List Str} (hz:PyData.strOk z=true) (hy:∀ y ∈ ys,PyData.strOk y=true):oIn (.str z) (.tuple (ys.map PyData.str))=some (ys.contains z):=by
 unfold oIn
 dsimp only
 rw [if_pos ⟨hz,zfA hy,zf8⟩,zfz]
theorem zkX {z:Str} {ys:List Str} (hz:PyData.strOk z=true) (hy:∀ y ∈ ys,PyData.strOk y=true):oIn (.str z) (.list (ys.map PyData.str))=some (ys.contains z):=by
 unfold oIn
 dsimp only
 rw [if_pos ⟨hz,zfA hy,zf8⟩,zfz]
def whB:D->Bool
 | .int _=>true
 | _=>false
def belB (n:Int):D->Bool
 | .int i=>decide (0<=i) && decide (i < n)
 | _=>false
def rkB (n:Int):D->Bool
 | .list (x :: xs)=>(x :: xs).all (belB n)
 | _=>false
def whI:D->Option Int
 | .int i=>some i
 | _=>none
def itI:D->List Int
 | .list xs=>xs.filterMap whI
 | _=>[]
def flI (rs:List D):List Int:=rs.flatMap itI
def askB (n:Int):D->Bool
 | .list rs=>decide (rs.length<=5) && (rs.all (rkB n) && decide (flI rs).Nodup)
 | _=>false
theorem zdD (n:Int) (rs:List D):askB n (.list rs)=(decide (rs.length<=5) && (rs.all (rkB n) && decide (flI rs).Nodup)):=rfl
theorem zgl (d:D):F_aa [d]=some (.bool (whB d)):=by
 cases d with
 | dict kvs=>exact zcj (ρ:=[some (.pub (.dict kvs))]) rfl (zav (zb2 (t:=false) (u:=false) (zjq (zaf rfl)) fun z=>by cases z) rfl)
 | _=>rfl
theorem zdE (d:D) (n:Int):F_ab [d,.int n]=some (.bool (belB n d)):=by
 refine zcj (ρ:=[some (.pub d),some (.pub (.int n))]) rfl ?_
 unfold g_ab
 cases d with
 | int i=>exact zav (zb2 (t:=true) (u:=decide (0<=i) && decide (i < n)) (zaX (zab (zaf rfl) zak) rfl (zgl (.int i))) (fun _=>zaU (zfl zac (zaf rfl) rfl (fun _=>zaf rfl) (fun _=>rfl)))) rfl
 | _=>exact zav (zb2 (t:=false) (u:=false) (zaX (zab (zaf rfl) zak) rfl (zgl _)) (fun z=>by cases z)) rfl
theorem zhC {n:Int} {d:D} (h:belB n d=true):∃ i,d=.int i/\0<=i/\i < n:=by
 cases d with
 | int i =>
  have h:(decide (0<=i) && decide (i < n))=true:=h
  simp only [Bool.and_eq_true,decide_eq_true_eq] at h
  exact ⟨i,rfl,h⟩
 | _=>cases h
theorem zed {n:Int}:∀ {xs:List D},xs.all (belB n)=true->xs=(xs.filterMap whI).map PyData.int
 | [],_=>rfl
 | x :: r,h=>by
  rw [List.all_cons,Bool.and_eq_true] at h
  obtain ⟨i,rfl,_⟩:=zhC h.1
  have ih:=zed h.2
  show _=(i :: r.filterMap whI).map PyData.int
  rw [List.map_cons,← ih]
theorem zn4 {n:Int} {d:D} (h:rkB n d=true):d=.list ((itI d).map PyData.int):=by
 cases d with
 | list xs =>
  cases xs with
  | nil=>cases h
  | cons x r=>exact congrArg PyData.list (zed h)
 | _=>cases h
theorem zdF {q:D->Bool} (xs:List D):oAll [.list (xs.map fun d=>.bool (q d))]=some (.bool (xs.all q)):=by
 have:(xs.map fun d=>PyData.bool (q d))=(xs.map q).map PyData.bool:=by rw [List.map_map];rfl
 rw [this,zl3]
 congr 2
 rw [List.all_map]
 rfl
theorem zg1 {d:D} {n:Int} (hl:∀ xs,d=.list xs->xs.length<=700):F_ad [d,.int n]=some (.bool (rkB n d)):=by
 refine zcj (ρ:=[some (.pub d),some (.pub (.int n))]) rfl ?_
 unfold g_ad
 apply zaD
 cases d with
 | list xs =>
  have hl:=hl xs rfl
  apply zaB (b:=decide ((xs.length:Int)=0))
  case h1=>exact zck (ρ1:=[some (.pub (.list xs)),some (.pub (.int n))]) (zaC (zaf rfl) rfl) (zar (zbc rfl zaJ) zac zbt)
  case h2 =>
   intro hh
   have:(xs.length:Int)=0:=by simpa using hh
   have e:xs=[]:=List.eq_nil_of_length_eq_zero (by omega)
   subst e
   exact zav zac (zau rfl)
  case h3 =>
   intro hh
   have hne : ¬ (xs.length:Int)=0:=by simpa using hh
   refine za9 (zay ?_)
   have hc:zco (gN 2) (zad true) (dFun 2 F_ab (zae (dVar 2) (zae (dVar 1) (mNil)))) xs (za5 [some (.pub (.list xs)),some (.pub (.int n))] ++ List.replicate 1 none) []=some (xs.map fun d=>.bool (belB n d)):=by
    rw [zcl (fun _=>true) (fun d=>.bool (belB n d)) (fun ρ=>∃ x,ρ = [some (.pub (.list xs)),some (.pub (.int n)),x])]
    ·rw [List.filter_eq_self.mpr (fun _ _=>rfl),List.nil_append]
    ·rintro d hm ρ ⟨x,rfl⟩
     exact ⟨_,tg_N (of_decide_eq_true rfl) rfl,rfl,fun _=>zaX (zab (zaf rfl) (zab (zaf rfl) zak)) rfl (zdE d n),_,rfl⟩
    ·exact ⟨none,rfl⟩
    ·rw [List.length_nil];omega
   refine zav (zaY (zab (zaU (zc1 (zbD (zaf rfl) rfl) hc)) zak) (zdF xs)) ?_
   cases xs with
   | nil=>exact absurd rfl hne
   | cons x r=>rfl
 | dict kvs =>
  exact zaB (b:=true) (zbh (zb8 (zaf rfl))) (fun _=>zav zac (zau rfl)) (fun z=>by cases z)
 | _=>exact zaB (b:=true) (zbh (zaC (zaf rfl) rfl)) (fun _=>zav zac (zau rfl)) (fun z=>by cases z)
theorem zjM {ns:List Int}:∀ i,(PyProof.Rows.firstMet (fun i=>ns.getD i 0) i).length<=i:=by
 intro i
 induction i with
 | zero=>exact Nat.le_refl _
 | succ i ih =>
  rw [PyProof.Rows.firstMet_succ]
  unfold PyProof.Rows.step_dedup
  split
  ·omega
  ·rw [List.length_append,List.length_singleton];omega
theorem zgm {ns:List Int} (h:zda ns=ns.length):ns.Nodup:=by
 unfold zda at h
 have key:∀ i,i<=ns.length->(PyProof.Rows.firstMet (fun i=>ns.getD i 0) i).length=i->(ns.take i).Nodup:=by
  intro i
  induction i with
  | zero=>intro _ _;simp
  | succ i ih =>
   intro hi e
   rw [PyProof.Rows.firstMet_succ] at e
   unfold PyProof.Rows.step_dedup at e
   cases hany:(PyProof.Rows.firstMet (fun i=>ns.getD i 0) i).any (· == ns.getD i 0) with
   | true =>
    rw [hany,if_pos rfl] at e
    have:=zjM (ns:=ns) i
    omega
   | false =>
    rw [hany,if_neg (by decide),List.length_append] at e
    have e:(PyProof.Rows.firstMet (fun i=>ns.getD i 0) i).length=i:=by simpa using e
    have ih:=ih (by omega) e
    rw [List.take_succ_eq_append_getElem (by omega),List.nodup_append]
    refine ⟨ih,by simp,fun a ha b hb=>?_⟩
    rw [List.mem_singleton] at hb
    subst hb
    rw [PyProof.Rows.firstMet_any,List.any_eq_false] at hany
    obtain ⟨j,hj,rfl⟩:=List.mem_take_iff_getElem.mp ha
    have hj':j < i:=by have:=hj;omega
    have:=hany (ns.getD j 0) (List.mem_map.mpr ⟨j,List.mem_range.mpr hj',rfl⟩)
    have l1:j < ns.length:=by omega
    have l2:i < ns.length:=by omega
    simp only [List.getD,List.getElem?_eq_getElem l1,List.getElem?_eq_getElem l2,Option.getD_some,beq_iff_eq] at this
    exact this
 have:=key ns.length (Nat.le_refl _) h
 rwa [List.take_length] at this
theorem zgn {ns:List Int} (h:ns.length<=3500):∃ u:Nat,zdi [.list (ns.map PyData.int)]=some (.int u)/\decide ((u:Int)=ns.length)=decide ns.Nodup:=by
 refine ⟨zda ns,?_,?_⟩
 ·unfold zdi
  dsimp only
  rw [zhX]
  dsimp only
  rw [if_pos (by omega)]
 ·by_cases e:ns.Nodup
  ·rw [zh4 e,decide_eq_true e];simp
  ·rw [decide_eq_false e,decide_eq_false]
   intro z
   exact e (zgm (by omega))
def RkSm (d:D):Prop:=∀ rs,d=.list rs->∀ xs,.list xs ∈ rs->xs.length<=700
theorem zeI {n:Int}:∀ {rs:List D},rs.all (rkB n)=true->(∀ xs,.list xs ∈ rs->xs.length<=700)->∃ ls:List (List Int),rs=ls.map zbv/\flI rs=ls.flatten/\ls.flatten.length<=700 * rs.length
 | [],_,_=>⟨[],rfl,rfl,by simp⟩
 | d :: r,h,hs=>by
  rw [List.all_cons,Bool.and_eq_true] at h
  obtain ⟨ls,e1,e2,e3⟩:=zeI h.2 fun xs hx=>hs xs (List.mem_cons_of_mem _ hx)
  have hd:=zn4 h.1
  have hl:=hs ((itI d).map PyData.int) (by rw [← hd];exact List.mem_cons_self)
  rw [List.length_map] at hl
  refine ⟨itI d :: ls,?_,?_,?_⟩
  ·rw [List.map_cons,← e1]
   exact congrArg (· :: r) hd
  ·show itI d ++ flI r=_
   rw [e2,List.flatten_cons]
  ·rw [List.flatten_cons,List.length_append,List.length_cons];omega
theorem zgo {d:D} {n:Int} (hs:RkSm d):F_ae [d,.int n]=some (.bool (askB n d)):=by
 refine zcj (ρ:=[some (.pub d),some (.pub (.int n)),none]) rfl ?_
 unfold g_ae
 apply zaD
 cases d with
 | list rs =>
  have hs:=hs rs rfl
  apply zaB (b:=decide ((5:Int) < rs.length))
  case h1=>exact zck (ρ1:=[some (.pub (.list rs)),some (.pub (.int n)),none]) (zaC (zaf rfl) rfl) (zar (zbc rfl zaJ) zac rfl)
  case h2 =>
   intro hh
   have:(5:Int) < (rs.length:Int):=by simpa using hh
   refine zav zac (zau ?_)
   rw [zdD,decide_eq_false (by omega : ¬ rs.length<=5)]
   rfl
  case h3 =>
   intro hh
   have h5 : ¬ (5:Int) < (rs.length:Int):=by simpa using hh
   refine za9 (zay ?_)
   have hc:zco (gN 3) (zad true) (dFun 2 F_ad (zae (dVar 3) (zae (dVar 1) (mNil)))) rs (za5 [some (.pub (.list rs)),some (.pub (.int n)),none] ++ List.replicate 1 none) []=some (rs.map fun d=>.bool (rkB n d)):=by
    rw [zcl (fun _=>true) (fun d=>.bool (rkB n d)) (fun ρ=>∃ x,ρ = [some (.pub (.list rs)),some (.pub (.int n)),none,x])]
    ·rw [List.filter_eq_self.mpr (fun _ _=>rfl),List.nil_append]
    ·rintro d hm ρ ⟨x,rfl⟩
     exact ⟨_,tg_N (of_decide_eq_true rfl) rfl,rfl,fun _=>zaX (zab (zaf rfl) (zab (zaf rfl) zak)) rfl (zg1 (fun xs e=>hs xs (by rw [← e];exact hm))),_,rfl⟩
    ·exact ⟨none,rfl⟩
    ·rw [List.length_nil];omega
   apply zaD
   apply zaB
   case h1=>exact zct (zbM (zaY (zab (zaU (zc1 (zbD (zaf rfl) rfl) hc)) zak) (zdF rs)))
   case h2 =>
    intro hh
    have e:rs.all (rkB n)=false:=by simpa using hh
    refine zav zac (zau ?_)
    rw [zdD,e,Bool.false_and,Bool.and_false]
   case h3 =>
    intro hh
    have e:rs.all (rkB n)=true:=by simpa using hh
    refine za9 (zay ?_)
    obtain ⟨ls,e1,e2,e3⟩:=zeI e hs
    have hfl:ls.flatten.length<=3500:=by omega
    subst e1
    have h2:zf1 (zbH (dVar 0)) 2 (gN 3) (zad true) (zbH (dVar 3)) (gN 4) (zad true) (dVar 4) [some (.pub (.list (ls.map zbv))),some (.pub (.int n)),none]=.ok (ls.flatten.map PyData.int) [some (.pub (.list (ls.map zbv))),some (.pub (.int n)),none]:=by
     unfold zf1
     have e1:zbH (dVar 0) [some (.pub (.list (ls.map zbv))),some (.pub (.int n)),none]=.ok (ls.map zbv) [some (.pub (.list (ls.map zbv))),some (.pub (.int n)),none]:=zbD (zaf rfl) rfl
     rw [e1]
     dsimp only
     have e2:=zeG (a:=.list (ls.map zbv)) (b:=.int n) ls [] none none (by rw [List.length_nil];omega)
     have e3:zcW (gN 3) (zad true) (zbH (dVar 3)) (gN 4) (zad true) (dVar 4) (ls.map zbv) (za5 [some (.pub (.list (ls.map zbv))),some (.pub (.int n)),none] ++ List.replicate 2 none) []=some ([] ++ ls.flatten.map PyData.int):=e2
     rw [e3]
     rfl
    refine zax (zbQ h2 (of_decide_eq_true rfl) rfl) ?_
    obtain ⟨u,hu1,hu2⟩:=zgn hfl
    refine zav (zaU (zar (zaY (zab (zbP rfl rfl) zak) hu1) (zbc rfl zaJ) zbt)) ?_
    rw [List.length_map,hu2]
    rw [zdD,decide_eq_true (by omega:(ls.map zbv).length<=5),e,e2,Bool.true_and,Bool.true_and]
 | dict kvs =>
  exact zaB (b:=true) (zbh (zb8 (zaf rfl))) (fun _=>zav zac (zau rfl)) (fun z=>by cases z)
 | _=>exact zaB (b:=true) (zbh (zaC (zaf rfl) rfl)) (fun _=>zav zac (zau rfl)) (fun z=>by cases z)
def dueW:D->Option (Str × D)
 | .tuple [c,l]=>(match c with
  | .list cs=>if 1<=cs.length/\cs.length<=6 then (match fb (belB 8) 0 cs with
    | some k=>some ("copies", .int k)
    | none=>(match l with
     | .list ls=>if 1<=ls.length/\ls.length<=7 then (match fb (askB cs.length) 0 ls with
       | some k=>some ("lists", .int k)
       | none=>none) else some ("lists", .none)
     | _=>some ("lists", .none))) else some ("copies", .none)
  | _=>some ("copies", .none))
 | _=>some ("wishes", .none)
def dueX (o:Option (Str × D)):XR:=match o with
 | none=>.val .none
 | some (p,n)=>.exc (exD "NoWishes" [.str p,n])
theorem zcN {p:Str} {n:D} (h1:p.length<=1000) (h2:zfq n=true):zfr "NoWishes" [.str p,n]=some [.str p,n]:=by
 have e:zcB "NoWishes" = (["part", "number"]:List Str):=rfl
 unfold zfr
 rw [e]
 dsimp only
 have h3:zfq (.str p)=true:=decide_eq_true h1
 rw [if_pos ⟨rfl,by rw [List.all_cons,List.all_cons,h2,h3];rfl⟩]
theorem zjN {j:Nat} (h:j < 1000000):zfq (.int j)=true:=by
 unfold zfq
 simp only [Bool.and_eq_true,decide_eq_true_eq]
 constructor <;> omega
def dueC (c:D):Option (Str × D):=match c with
 | .list cs=>if 1<=cs.length/\cs.length<=6 then (match fb (belB 8) 0 cs with
  | some k=>some ("copies", .int k)
  | none=>none) else some ("copies", .none)
 | _=>some ("copies", .none)
def dueL (n:Int) (l:D):Option (Str × D):=match l with
 | .list ls=>if 1<=ls.length/\ls.length<=7 then (match fb (askB n) 0 ls with
  | some k=>some ("lists", .int k)
  | none=>none) else some ("lists", .none)
 | _=>some ("lists", .none)
theorem zdG {m:Nat} {k:Int}:(!(decide ((1:Int)<=m) && decide ((m:Int)<=k)))=decide (¬ (1<=m/\(m:Int)<=k)):=by
 by_cases h:(1:Int)<=m <;> by_cases h2:(m:Int)<=k
 ·rw [decide_eq_true h,decide_eq_true h2,decide_eq_false (by omega)];rfl
 ·rw [decide_eq_false h2,Bool.and_false,decide_eq_true (by omega)];rfl
 ·rw [decide_eq_false h,Bool.false_and,decide_eq_true (by omega)];rfl
 ·rw [decide_eq_false h,Bool.false_and,decide_eq_true (by omega)];rfl
theorem zmr (d:D):zbG [d]=some (dueX (dueC d)):=by
 refine zjr (ρ:=[some (.pub d),none,none]) rfl ?_
 unfold zb4
 apply zaD
 cases d with
 | list cs =>
  apply zaB
  case h1=>exact zck (ρ1:=[some (.pub (.list cs)),none,none]) (zaC (zaf rfl) rfl) (zct (zfl zac (zbc rfl zaJ) rfl (fun _=>zac) (fun _=>rfl)))
  case h2 =>
   intro hh
   rw [zdG] at hh
   have hh:=of_decide_eq_true hh
   refine zaR (zbE (zab zac (zab zac zak)) (zcN (by decide) rfl)) (zbC ?_)
   unfold dueC
   dsimp only
   rw [if_neg (by omega)]
   exact ⟨rfl,rfl⟩
  case h3 =>
   intro hh
   rw [zdG] at hh
   have hh:=of_decide_eq_false hh
   have hl:1<=cs.length/\cs.length<=6:=by omega
   have ed:dueC (.list cs)=(match fb (belB 8) 0 cs with
    | some k=>some ("copies", .int k)
    | none=>none):=by unfold dueC;dsimp only;rw [if_pos hl]
   refine za9 (zay ?_)
   rw [ed]
   refine zhs (xs:=cs) (belB 8) (fun ρ=>∃ x1 x2,ρ = [some (.pub (.list cs)),x1,x2]) (zex (zab (zaf rfl) zak) zdw) ⟨_,_,rfl⟩ ?_ ?_
   ·rintro x hx j ρ hj ⟨x1,x2,rfl⟩
    refine ⟨_,tg_T rfl (tg_C (tg_N (of_decide_eq_true rfl) rfl) (tg_C (tg_N (of_decide_eq_true rfl) rfl) tg_0)),?_⟩
    unfold zcb
    refine zaB (zct (zbM (zaX (zab (zaf rfl) (zab (zar zac zac za6) zak)) rfl (zdE x 8)))) (fun z=>?_) fun z=>?_
    ·refine zaR (zbE (zab zac (zab (zaf rfl) zak)) (zcN (by decide) (zjN (by omega)))) (znS (by simpa using z) fun e=>?_)
     rw [e]
     exact ⟨rfl,rfl⟩
    ·exact za9 (znR (by simpa using z) ⟨_,_,rfl⟩)
   ·intro e ρ _
    rw [e]
    rfl
 | dict kvs =>
  exact zaB (b:=true) (zbh (zb8 (zaf rfl))) (fun _=>zaR (zbE (zab zac (zab zac zak)) (zcN (by decide) rfl)) (zbC ⟨rfl,rfl⟩)) (fun z=>by cases z)
 | _=>exact zaB (b:=true) (zbh (zaC (zaf rfl) rfl)) (fun _=>zaR (zbE (zab zac (zab zac zak)) (zcN (by decide) rfl)) (zbC ⟨rfl,rfl⟩)) (fun z=>by cases z)
theorem zn5 {d:D} {n:Int} (hs:∀ ls,d=.list ls->ls.length<=7->∀ x ∈ ls,RkSm x):zbN [d,.int n]=some (dueX (dueL n d)):=by
 refine zjr (ρ:=[some (.pub d),some (.pub (.int n)),none,none]) rfl ?_
 unfold zca
 apply zaD
 cases d with
 | list cs =>
  apply zaB
  case h1=>exact zck (ρ1:=[some (.pub (.list cs)),some (.pub (.int n)),none,none]) (zaC (zaf rfl) rfl) (zct (zfl zac (zbc rfl zaJ) rfl (fun _=>zac) (fun _=>rfl)))
  case h2 =>
   intro hh
   rw [zdG] at hh
   have hh:=of_decide_eq_true hh
   refine zaR (zbE (zab zac (zab zac zak)) (zcN (by decide) rfl)) (zbC ?_)
   unfold dueL
   dsimp only
   rw [if_neg (by omega)]
   exact ⟨rfl,rfl⟩
  case h3 =>
   intro hh
   rw [zdG] at hh
   have hh:=of_decide_eq_false hh
   have hl:1<=cs.length/\cs.length<=7:=by omega
   have hs:=hs cs rfl hl.2
   have ed:dueL n (.list cs)=(match fb (askB n) 0 cs with
    | some k=>some ("lists", .int k)
    | none=>none):=by unfold dueL;dsimp only;rw [if_pos hl]
   refine za9 (zay ?_)
   rw [ed]
   refine zhs (xs:=cs) (askB n) (fun ρ=>∃ x1 x2,ρ = [some (.pub (.list cs)),some (.pub (.int n)),x1,x2]) (zex (zab (zaf rfl) zak) zdw) ⟨_,_,rfl⟩ ?_ ?_
   ·rintro x hx j ρ hj ⟨x1,x2,rfl⟩
    refine ⟨_,tg_T rfl (tg_C (tg_N (of_decide_eq_true rfl) rfl) (tg_C (tg_N (of_decide_eq_true rfl) rfl) tg_0)),?_⟩
    unfold zcn
    refine zaB (zct (zbM (zaX (zab (zaf rfl) (zab (zaf rfl) zak)) rfl (zgo (n:=n) (hs x hx))))) (fun z=>?_) fun z=>?_
    ·refine zaR (zbE (zab zac (zab (zaf rfl) zak)) (zcN (by decide) (zjN (by omega)))) (znS (by simpa using z) fun e=>?_)
     rw [e]
     exact ⟨rfl,rfl⟩
    ·exact za9 (znR (by simpa using z) ⟨_,_,rfl⟩)
   ·intro e ρ _
    rw [e]
    rfl
 | dict kvs =>
  exact zaB (b:=true) (zbh (zb8 (zaf rfl))) (fun _=>zaR (zbE (zab zac (zab zac zak)) (zcN (by decide) rfl)) (zbC ⟨rfl,rfl⟩)) (fun z=>by cases z)
 | _=>exact zaB (b:=true) (zbh (zaC (zaf rfl) rfl)) (fun _=>zaR (zbE (zab zac (zab zac zak)) (zcN (by decide) rfl)) (zbC ⟨rfl,rfl⟩)) (fun z=>by cases z)
def WsSm (d:D):Prop:=∀ c ls,d=.tuple [c,.list ls]->ls.length<=7->∀ x ∈ ls,RkSm x
theorem zgp (c l:D):dueW (.tuple [c,l])=(match dueC c with
  | some x=>some x
  | none=>(match c with | .list cs=>dueL cs.length l | _=>none)):=by
 unfold dueW dueC dueL
 cases c with
 | list cs =>
  dsimp only
  by_cases h:1<=cs.length/\cs.length<=6
  ·rw [if_pos h,if_pos h]
   cases fb (belB 8) 0 cs with
   | some k=>rfl
   | none=>cases l <;> rfl
  ·rw [if_neg h,if_neg h]
 | _=>rfl
theorem zms {d:D} (hs:WsSm d):zbf [d]=some (dueX (dueW d)):=by
 refine zjr (ρ:=[some (.pub d),none,none]) rfl ?_
 unfold zb5
 apply zaD
 have odd:∀ {o:Out->Prop},Ho (zbL "NoWishes" (zae (zad (.str "wishes")) (zae (zad .none) (mNil)))) [some (.pub d),none,none] (fun z=>z=.ex [some (.pub d),none,none] (exD "NoWishes" [.str "wishes", .none])):=zaR (zbE (zab zac (zab zac zak)) (zcN (by decide) rfl)) rfl
 cases d with
 | tuple xs =>
  by_cases hl:xs.length=2
  ·obtain ⟨c,l,rfl⟩:∃ c l,xs=[c,l]:=by
    match xs,hl with
    | [c,l],_=>exact ⟨c,l,rfl⟩
   apply zaB
   case h1=>exact zck (ρ1:=[some (.pub (.tuple [c,l])),none,none]) (zaC (zaf rfl) rfl) (zar (zbc rfl rfl) zac zdj)
   case h2=>intro hh;cases hh
   case h3 =>
    intro _
    refine za9 (zay ?_)
    refine zax (zga (zaf rfl) (tg_T rfl (tg_C (tg_N (of_decide_eq_true rfl) rfl) (tg_C (tg_N (of_decide_eq_true rfl) rfl) tg_0)))) ?_
    rw [zgp]
    have hc:=zmr c
    cases z:dueC c with
    | some x =>
     obtain ⟨p,n⟩:=x
     rw [z] at hc
     apply zaD
     exact zaR (zjn (zcm (zab (zaf rfl) zak) rfl hc)) (zbC ⟨rfl,rfl⟩)
    | none =>
     rw [z] at hc
     obtain ⟨cs,rfl⟩:∃ cs,c=.list cs:=by
      unfold dueC at z
      cases c with
      | list cs=>exact ⟨cs,rfl⟩
      | _=>cases z
     refine zax (zh1 (zcm (zab (zaf rfl) zak) rfl hc) rfl) ?_
     have hL:=zn5 (d:=l) (n:=cs.length) (fun ls e=>hs (.list cs) ls (by rw [e]))
     dsimp only
     cases z2:dueL cs.length l with
     | some x =>
      obtain ⟨p,n⟩:=x
      rw [z2] at hL
      exact zaR (zjn (zcm (zab (zaf rfl) (zab (zbc rfl zaJ) zak)) rfl hL)) ⟨rfl,rfl⟩
     | none =>
      rw [z2] at hL
      exact zaR (zh1 (zcm (zab (zaf rfl) (zab (zbc rfl zaJ) zak)) rfl hL) rfl) rfl
  ·have hd:dueW (.tuple xs)=some (("wishes" : Str),(.none:D)):=by
    unfold dueW
    split
    ·rename_i h;cases h;exact absurd rfl hl
    ·rfl
   apply zaB
   case h1=>exact zck (ρ1:=[some (.pub (.tuple xs)),none,none]) (zaC (zaf rfl) rfl) (zar (zbc rfl zeb) zac zdj)
   case h2 =>
    intro _
    refine zey (odd (o:=fun _=>True)) fun o e=>?_
    subst e
    exact zbC (by rw [hd];exact ⟨rfl,rfl⟩)
   case h3 =>
    intro hh
    have:(xs.length:Int)=2:=by simpa using hh
    omega
 | dict kvs =>
  exact zaB (b:=true) (zbh (zb8 (zaf rfl))) (fun _=>zey (odd (o:=fun _=>True)) fun o e=>by subst e;exact zbC ⟨rfl,rfl⟩) (fun z=>by cases z)
 | _=>exact zaB (b:=true) (zbh (zaC (zaf rfl) rfl)) (fun _=>zey (odd (o:=fun _=>True)) fun o e=>by subst e;exact zbC ⟨rfl,rfl⟩) (fun z=>by cases z)
mutual
def wB (n:Nat):D->Bool
 | .list xs=>decide (xs.length<=n) && wBs n xs
 | .tuple xs=>decide (xs.length<=n) && wBs n xs
 | _=>true
def wBs (n:Nat):List D->Bool
 | []=>true
 | x :: r=>wB n x && wBs n r
end
theorem zg2 {n:Nat}:∀ {xs:List D},wBs n xs=true ↔ ∀ x ∈ xs,wB n x=true
 | []=>by simp [wBs]
 | x :: r=>by rw [wBs,Bool.and_eq_true,zg2 (xs:=r)];simp
theorem zdl {n:Nat} {xs:List D}:wB n (.list xs)=true ↔ xs.length<=n/\∀ x ∈ xs,wB n x=true:=by
 rw [wB,Bool.and_eq_true,decide_eq_true_eq,zg2]
theorem zlj {n:Nat} {xs:List D}:wB n (.tuple xs)=true ↔ xs.length<=n/\∀ x ∈ xs,wB n x=true:=by
 rw [wB,Bool.and_eq_true,decide_eq_true_eq,zg2]
mutual
theorem zg3 {n m:Nat} (h:n<=m):∀ (d:D),wB n d=true->wB m d=true
 | .list xs,e=>by
  rw [wB,Bool.and_eq_true,decide_eq_true_eq] at e ⊢
  exact ⟨Nat.le_trans e.1 h,wBs_mono h xs e.2⟩
 | .tuple xs,e=>by
  rw [wB,Bool.and_eq_true,decide_eq_true_eq] at e ⊢
  exact ⟨Nat.le_trans e.1 h,wBs_mono h xs e.2⟩
 | .none,_=>rfl
 | .bool _,_=>rfl
 | .int _,_=>rfl
 | .str _,_=>rfl
 | .dict _,_=>rfl
theorem wBs_mono {n m:Nat} (h:n<=m):∀ (xs:List D),wBs n xs=true->wBs m xs=true
 | [],_=>rfl
 | x :: r,e=>by
  rw [wBs,Bool.and_eq_true] at e ⊢
  exact ⟨zg3 h x e.1,wBs_mono h r e.2⟩
end
theorem zmt {d:D} (h:wB 700 d=true):WsSm d:=fun c ls e _ x hx rs e2 xs hxs=>by
 subst e
 have h1:=(zlj.mp h).2 (.list ls) (by simp)
 have h2:=(zdl.mp h1).2 x hx
 subst e2
 exact (zdl.mp ((zdl.mp h2).2 _ hxs)).1
theorem zjO {cs:List Int} {ls:List (List (List Int))} (g:Good cs ls):wB 7 (.list (cs.map PyData.int))=true/\wB 7 (.list (ls.map zbg))=true:=by
 constructor
 ·refine zdl.mpr ⟨by rw [List.length_map];have:=g.c6;omega,fun x hx=>?_⟩
  obtain ⟨i,_,rfl⟩:=List.mem_map.mp hx
  rfl
 ·refine zdl.mpr ⟨by rw [List.length_map];exact g.l7,fun x hx=>?_⟩
  obtain ⟨rs,hrs,rfl⟩:=List.mem_map.mp hx
  have gr:=g.rk rs hrs
  refine zdl.mpr ⟨by rw [List.length_map];have:=gr.few;omega,fun y hy=>?_⟩
  obtain ⟨r,hr,rfl⟩:=List.mem_map.mp hy
  have h1:r.length<=rs.flatten.length:=List.Sublist.length_le (List.sublist_flatten_of_mem hr)
  have h2:=zkR gr
  have:=g.c6
  refine zdl.mpr ⟨by rw [List.length_map];omega,fun z hz=>?_⟩
  obtain ⟨i,_,rfl⟩:=List.mem_map.mp hz
  rfl
theorem zgq {i:Int}:oNe (.int i) (.int i)=some false:=zjJ rfl (by simp [PyData.depth])
theorem zmu {f:M D} {ρ ρ1:DEnv} {b:Bool} (h:f ρ = .ok (.bool b) ρ1) (hb:b=false):mNot (zaT f) ρ = .ok true ρ1:=by
 subst hb;exact zct (zbM h)
section
variable {cs:List Int} {ls:List (List (List Int))} {o:Ord} {old:Option (List (Option Int))} {ts:List Int} {ws:List (Option Int)}
end
mutual
def hW:D->Bool
 | .none | .bool _=>true
 | .int i=>decide (i.natAbs < 10 ^ 70)
 | .str z=>PyData.strOk z && decide (z.length<=20)
 | .list xs | .tuple xs=>hWs xs
 | .dict kvs=>hWk kvs
def hWs:List D->Bool
 | []=>true
 | x :: xs=>hW x && hWs xs
def hWk:List (D × D)->Bool
 | []=>true
 | (.str z,v) :: r=>PyData.strOk z && (decide (z.length<=20) && (hW v && hWk r))
 | _ :: _=>false
end
theorem zfB:∀ {xs:List D},hWs xs=true ↔ ∀ x ∈ xs,hW x=true
 | []=>by simp [hWs]
 | x :: r=>by rw [hWs,Bool.and_eq_true,zfB (xs:=r)];simp
theorem zh7 {i:Int} (h:i.natAbs < 10 ^ 70):i.natAbs.log2 < 1920:=by
 by_cases z:i.natAbs=0
 ·rw [z];decide
 ·have:=(Nat.log2_lt z).mpr (show i.natAbs < 2 ^ 240 by
                              have:(10:Nat) ^ 70 < 2 ^ 240:=by decide +kernel
                              omega)
  omega
theorem zgr {z:Str} (h1:PyData.strOk z=true) (h2:z.length<=20):(PyData.str z).leavesShort 80=true:=by
 simp only [PyData.leavesShort,List.all_eq_true,decide_eq_true_eq]
 intro c hc
 unfold PyData.strOk at h1
 rw [← Array.all_toList,List.all_eq_true] at h1
 have:=h1 c hc
 simp only [decide_eq_true_eq] at this
 omega
mutual
theorem zjP:∀ {d:D},hW d=true->layZ d=true/\d.showable=true/\d.leavesShort 80=true
 | .none,_=>⟨rfl,rfl,rfl⟩
 | .bool _,_=>⟨rfl,rfl,rfl⟩
 | .int i,h=>by
  have h:i.natAbs < 10 ^ 70:=of_decide_eq_true (by simpa only [hW] using h)
  refine ⟨rfl,?_,?_⟩
  ·simp only [PyData.showable,decide_eq_true_eq]
   exact zh7 h
  ·simp only [PyData.leavesShort,decide_eq_true_eq]
   show (Str.ofString (toString i)).length<=80
   rw [PySem.ofString_length]
   have:=PySem.int_text_length_le10 (a:=i) (k:=70) (by decide) h
   omega
 | .str z,h=>by
  have h:PyData.strOk z=true/\z.length<=20:=by simpa [hW] using h
  exact ⟨by simpa [layZ] using h.1,rfl,zgr h.1 h.2⟩
 | .list xs,h=>by
  obtain ⟨a,b,c⟩:=hWs_all (xs:=xs) (by simpa [hW] using h)
  exact ⟨by simpa [layZ] using a,by simpa [PyData.showable] using b,by simpa [PyData.leavesShort] using c⟩
 | .tuple xs,h=>by
  obtain ⟨a,b,c⟩:=hWs_all (xs:=xs) (by simpa [hW] using h)
  exact ⟨by simpa [layZ] using a,by simpa [PyData.showable] using b,by simpa [PyData.leavesShort] using c⟩
 | .dict kvs,h=>by
  obtain ⟨a,b,c⟩:=hWk_all (kvs:=kvs) (by simpa [hW] using h)
  exact ⟨by simpa [layZ] using a,by simpa [PyData.showable] using b,by simpa [PyData.leavesShort] using c⟩
theorem hWs_all:∀ {xs:List D},hWs xs=true->zeE xs=true/\PyData.showableAll xs=true/\PyData.leavesShortAll 80 xs=true
 | [],_=>⟨rfl,rfl,rfl⟩
 | x :: r,h=>by
  rw [hWs,Bool.and_eq_true] at h
  obtain ⟨a,b,c⟩:=zjP h.1
  obtain ⟨a',b',c'⟩:=hWs_all h.2
  exact ⟨by rw [zeE,a,a'];rfl,by rw [PyData.showableAll,b,b'];rfl,by rw [PyData.leavesShortAll,c,c'];rfl⟩
theorem hWk_all:∀ {kvs:List (D × D)},hWk kvs=true->layKv kvs=true/\PyData.showableKv kvs=true/\PyData.leavesShortKv 80 kvs=true
 | [],_=>⟨rfl,rfl,rfl⟩
 | (.str z,v) :: r,h=>by
  rw [hWk,Bool.and_eq_true,Bool.and_eq_true,Bool.and_eq_true] at h
  obtain ⟨h1,h2,h3,h4⟩:=h
  have h2:=of_decide_eq_true h2
  obtain ⟨a,b,c⟩:=zjP h3
  obtain ⟨a',b',c'⟩:=hWk_all h4
  refine ⟨?_,?_,?_⟩
  ·rw [layKv,a,a'];simp [keyZ,h1]
  ·rw [PyData.showableKv,b,b'];rfl
  ·rw [PyData.leavesShortKv,zgr h1 h2,c,c'];rfl
 | (.none,v) :: r,h=>by simp [hWk] at h
 | (.bool _,v) :: r,h=>by simp [hWk] at h
 | (.int _,v) :: r,h=>by simp [hWk] at h
 | (.list _,v) :: r,h=>by simp [hWk] at h
 | (.tuple _,v) :: r,h=>by simp [hWk] at h
 | (.dict _,v) :: r,h=>by simp [hWk] at h
end
def Sh (k n:Nat) (d:D):Prop:=hW d=true/\d.depth<=k/\d.bulk<=n
theorem Sh.mono {k m n p:Nat} {d:D} (h:Sh k n d) (h1:k<=m) (h2:n<=p):Sh m p d:=⟨h.1,Nat.le_trans h.2.1 h1,Nat.le_trans h.2.2 h2⟩
theorem zkY {d:D} {k n:Nat} (h:Sh k n d) (hk:k<=50) (hn:n<=10000):zdz [d]=some (.str d.shown):=by
 obtain ⟨a,b,c⟩:=zjP h.1
 refine zjy ⟨a,b,Nat.le_trans h.2.1 hk,?_⟩
 have:=PyData.shown_le_bulk 80 (by decide) d c
 have:=h.2.2
 omega
theorem zeJ {k:Nat}:∀ {xs:List D},(∀ x ∈ xs,x.depth<=k)->PyData.depthAll xs<=k
 | [],_=>by simp [PyData.depthAll]
 | x :: r,h=>by
  have h1:=h x List.mem_cons_self
  have h2:=zeJ (xs:=r) fun y hy=>h y (List.mem_cons_of_mem _ hy)
  simp only [PyData.depthAll]
  omega
theorem zfC {n:Nat}:∀ {xs:List D},(∀ x ∈ xs,x.bulk<=n)->PyData.bulkAll xs<=xs.length * (n+1)
 | [],_=>by simp [PyData.bulkAll]
 | x :: r,h=>by
  have h1:=h x List.mem_cons_self
  have h2:=zfC (xs:=r) fun y hy=>h y (List.mem_cons_of_mem _ hy)
  simp only [PyData.bulkAll,List.length_cons,Nat.succ_mul]
  omega
theorem zeK {k n m:Nat} {xs:List D} (h:∀ x ∈ xs,Sh k n x) (hl:xs.length<=m):Sh (k+1) (m * (n+1)) (.list xs):=by
 refine ⟨by simpa [hW] using zfB.mpr fun x hx=>(h x hx).1,?_,?_⟩
 ·have:=zeJ fun x hx=>(h x hx).2.1
  simp only [PyData.depth]
  omega
 ·have h1:=zfC fun x hx=>(h x hx).2.2
  have h2:xs.length * (n+1)<=m * (n+1):=Nat.mul_le_mul_right _ hl
  simp only [PyData.bulk]
  omega
theorem zeL {k n m:Nat} {xs:List D} (h:∀ x ∈ xs,Sh k n x) (hl:xs.length<=m):Sh (k+1) (m * (n+1)) (.tuple xs):=by
 refine ⟨by simpa [hW] using zfB.mpr fun x hx=>(h x hx).1,?_,?_⟩
 ·have:=zeJ fun x hx=>(h x hx).2.1
  simp only [PyData.depth]
  omega
 ·have h1:=zfC fun x hx=>(h x hx).2.2
  have h2:xs.length * (n+1)<=m * (n+1):=Nat.mul_le_mul_right _ hl
  simp only [PyData.bulk]
  omega
theorem zde {k n:Nat} {i:Int} (h:i.natAbs < 10 ^ 70):Sh k n (.int i):=⟨by simpa only [hW] using decide_eq_true h,by simp [PyData.depth],by simp [PyData.bulk]⟩
theorem zd4 {k n:Nat}:Sh k n .none:=⟨rfl,by simp [PyData.depth],by simp [PyData.bulk]⟩
theorem zg4 {k n:Nat} {b:Bool}:Sh k n (.bool b):=⟨rfl,by simp [PyData.depth],by simp [PyData.bulk]⟩
theorem zgs {k n:Nat} {z:Str} (h:PyData.strOk z=true) (h2:z.length<=20) (h3:z.length<=n):Sh k n (.str z):=⟨by simp [hW,h,h2],by simp [PyData.depth],h3⟩
theorem zeM {x:D}:∀ {xs:List D},x ∈ xs->x.bulk+1<=PyData.bulkAll xs
 | y :: r,h=>by
  simp only [PyData.bulkAll]
  rcases List.mem_cons.mp h with rfl | h
  ·omega
  ·have:=zeM (xs:=r) h
   omega
def ords:List Str:=["firsts", "full", "lasts"]
theorem zjQ:∀ y ∈ ords,PyData.strOk y=true:=by decide +kernel
def ordB:D->Bool
 | .str z=>ords.contains z
 | _=>false
def OkT (d:D):Prop:=∀ z,d=.str z->PyData.strOk z=true
theorem zgt {d:D} (h:OkT d):F_ah [d]=some (.bool (ordB d)):=by
 refine zcj (ρ:=[some (.pub d)]) rfl ?_
 unfold g_ah
 cases d with
 | str z=>exact zav (zb2 (t:=true) (u:=ords.contains z) (zcu (zaf rfl) rfl) fun _=>zaU (zbu rfl zac (zkW (h z rfl) zjQ))) rfl
 | dict kvs=>exact zav (zb2 (t:=false) (u:=false) (zjq (zaf rfl)) fun z=>by cases z) rfl
 | _=>exact zav (zb2 (t:=false) (u:=false) (zcu (zaf rfl) rfl) fun z=>by cases z) rfl
theorem zn6 {d:D} (h:OkT d):zbl [d]=some (if ordB d=true then .val .none else .exc (exD "NoAim" [.str "order"])):=by
 refine zjr (ρ:=[some (.pub d)]) rfl ?_
 unfold zb9
 refine zaB (zct (zbM (zaX (zab (zaf rfl) zak) rfl (zgt h)))) (fun z=>?_) fun z=>?_
 ·have z:ordB d=false:=by simpa using z
  rw [z]
  exact zaR (zbE (fs:=[.str "order"]) (zab zac zak) (by kernel_rfl)) ⟨rfl,rfl⟩
 ·have z:ordB d=true:=by simpa using z
  rw [z]
  exact za9 rfl
theorem zg5 {p:D->Bool}:∀ {xs:List D} {k:Nat},(∀ x ∈ xs,p x=true)->fb p k xs=none
 | [],_,_=>rfl
 | x :: r,k,h=>by
  unfold fb
  rw [if_pos (h x List.mem_cons_self)]
  exact zg5 fun y hy=>h y (List.mem_cons_of_mem _ hy)
theorem zmv (rs:List (List Int)):flI (rs.map zbv)=rs.flatten:=by
 unfold flI
 induction rs with
 | nil=>rfl
 | cons r t ih =>
  rw [List.map_cons,List.flatMap_cons,ih,List.flatten_cons]
  congr 1
  show (r.map PyData.int).filterMap whI=r
  rw [List.filterMap_map]
  show r.filterMap (fun i=>some i)=r
  simp
theorem zjR {n:Nat} {rs:List (List Int)} (g:zc3 n rs):askB n (zbg rs)=true:=by
 show askB n (.list (rs.map zbv))=true
 rw [zdD,zmv,decide_eq_true g.once,List.length_map,decide_eq_true g.few]
 simp only [Bool.true_and,Bool.and_true,List.all_eq_true]
 intro x hx
 obtain ⟨r,hr,rfl⟩:=List.mem_map.mp hx
 have hn:=g.some r hr
 have ht:=g.there r hr
 cases r with
 | nil=>exact absurd rfl hn
 | cons i q =>
  show ((PyData.int i :: q.map PyData.int).all (belB n))=true
  rw [List.all_eq_true]
  intro y hy
  have hy:y ∈ (i :: q).map PyData.int:=hy
  obtain ⟨z,hz,rfl⟩:=List.mem_map.mp hy
  have:=ht z hz
  show (decide (0<=z) && decide (z < (n:Int)))=true
  rw [decide_eq_true this.1,decide_eq_true this.2];rfl
theorem zjS {cs:List Int} {ls:List (List (List Int))} (g:Good cs ls):dueW (zaK cs ls)=none:=by
 show dueW (.tuple [.list (cs.map PyData.int),.list (ls.map zbg)])=none
 rw [zgp]
 have c1:=g.c1
 have c6:=g.c6
 have l1:=g.l1
 have l7:=g.l7
 have e1:dueC (.list (cs.map PyData.int))=none:=by
  unfold dueC
  dsimp only
  rw [if_pos (by rw [List.length_map];omega),zg5]
  intro x hx
  obtain ⟨i,hi,rfl⟩:=List.mem_map.mp hx
  have:=g.c7 i hi
  show (decide (0<=i) && decide (i < 8))=true
  rw [decide_eq_true this.1,decide_eq_true this.2];rfl
 rw [e1]
 dsimp only
 unfold dueL
 dsimp only
 rw [if_pos (by rw [List.length_map];omega),zg5]
 intro x hx
 obtain ⟨rs,hrs,rfl⟩:=List.mem_map.mp hx
 rw [List.length_map]
 exact zjR (g.rk rs hrs)
theorem zoY {cs:List Int} {ls:List (List (List Int))} (g:Good cs ls):zbf [zaK cs ls]=some (.val .none):=by
 have wg:wB 448 (zaK cs ls)=true:=by
  obtain ⟨a1,a2⟩:=zjO g
  exact zg3 (n:=7) (by decide) _ (zlj.mpr ⟨show 2<=7 by decide,fun x hx=>by
   have hx:x=.list (cs.map PyData.int) ∨ x=.list (ls.map zbg):=by simpa using hx
   rcases hx with rfl | rfl
   ·exact a1
   ·exact a2⟩)
 have hx:=zms (zmt (zg3 (m:=700) (by decide) _ wg))
 rw [zjS g] at hx
 exact hx
def oldB (m n:Nat):D->Bool
 | .none=>true
 | .list xs=>decide (xs.length=m) && xs.all fun x=>isNon x || belB n x
 | _=>false
def turB (m:Nat):D->Bool
 | .list xs=>xs.all (belB m) && decide (xs.filterMap whI).Nodup
 | _=>false
def zaV (n m:Nat):D->Option Str
 | .tuple [o,w,t]=>if ordB o=true then (if oldB m n w=true then (if turB m t=true then none else some "turns") else some "old") else some "order"
 | _=>some "aim"
def SmA (d:D):Prop:=∀ o w t,d=.tuple [o,w,t]->OkT o/\(∀ xs,w=.list xs->xs.length<=700)/\∀ xs,t=.list xs->xs.length<=700
theorem zmw {d:D} {m n:Nat} (hl:∀ xs,d=.list xs->xs.length<=700):F_aj [d,.int m,.int n]=some (.bool (oldB m n d)):=by
 refine zcj (ρ:=[some (.pub d),some (.pub (.int m)),some (.pub (.int n))]) rfl ?_
 unfold g_aj
 apply zaD
 cases d with
 | none=>exact zaB (b:=true) (zaU (k:=isNon) (x:=PyData.none) (zaf rfl)) (fun _=>zav zac (zau rfl)) fun z=>by cases z
 | list xs =>
  have hl:=hl xs rfl
  refine zaB (b:=false) (ρ1:=[some (.pub (.list xs)),some (.pub (.int m)),some (.pub (.int n))]) (zaU (k:=isNon) (x:=PyData.list xs) (zaf rfl)) (fun z=>by cases z) fun _=>za9 (zay ?_)
  apply zaD
  refine zaB (b:=!decide ((xs.length:Int)=(m:Int))) (ρ1:=[some (.pub (.list xs)),some (.pub (.int m)),some (.pub (.int n))]) (zck (zaC (zaf rfl) rfl) (zar (zbc rfl zaJ) (zaf rfl) zdj)) (fun hh=>?_) (fun hh=>?_)
  ·have h3 : ¬ (xs.length:Int)=(m:Int):=by simpa using hh
   refine zav zac (zau ?_)
   show _=Out.rt (.bool (decide (xs.length=m) && _))
   rw [decide_eq_false (by omega)]
   rfl
  ·have h3:(xs.length:Int)=(m:Int):=by simpa using hh
   refine za9 (zay ?_)
   have hc:zco (gN 3) (zad true) (mOrV (mMap (fun d=>.bool (isNon d)) (dVar 3)) (dFun 2 F_ab (zae (dVar 3) (zae (dVar 2) (mNil))))) xs (za5 [some (.pub (.list xs)),some (.pub (.int m)),some (.pub (.int n))] ++ List.replicate 1 none) []=some (xs.map fun d=>.bool (isNon d || belB n d)):=by
    rw [zcl (fun _=>true) (fun d=>.bool (isNon d || belB n d)) (fun ρ=>∃ x,ρ = [some (.pub (.list xs)),some (.pub (.int m)),some (.pub (.int n)),x])]
    ·rw [List.filter_eq_self.mpr (fun _ _=>rfl),List.nil_append]
    ·rintro d hm ρ ⟨x,rfl⟩
     exact ⟨_,tg_N (of_decide_eq_true rfl) rfl,rfl,fun _=>znJ (zaU (k:=fun d=>PyData.bool (isNon d)) (zaf rfl)) (fun _=>zaX (zab (zaf rfl) (zab (zaf rfl) zak)) rfl (zdE d n)),_,rfl⟩
    ·exact ⟨none,rfl⟩
    ·rw [List.length_nil];omega
   refine zav (zaY (zab (zaU (zc1 (zbD (zaf rfl) zcL) hc)) zak) (zdF xs)) ?_
   show _=Out.rt (.bool (decide (xs.length=m) && _))
   rw [decide_eq_true (by omega)]
   rfl
 | dict kvs =>
  refine zaB (b:=false) (ρ1:=[some (.pub (.dict kvs)),some (.pub (.int m)),some (.pub (.int n))]) (zaU (k:=isNon) (x:=PyData.dict kvs) (zaf rfl)) (fun z=>by cases z) fun _=>za9 (zay ?_)
  apply zaD
  exact zaB (b:=true) (zbh (zb8 (zaf rfl))) (fun _=>zav zac (zau rfl)) fun z=>by cases z
 | bool b =>
  refine zaB (b:=false) (ρ1:=[some (.pub (.bool b)),some (.pub (.int m)),some (.pub (.int n))]) (zaU (k:=isNon) (x:=PyData.bool b) (zaf rfl)) (fun z=>by cases z) fun _=>za9 (zay ?_)
  apply zaD
  exact zaB (b:=true) (zbh (zaC (zaf rfl) rfl)) (fun _=>zav zac (zau rfl)) fun z=>by cases z
 | int b =>
  refine zaB (b:=false) (ρ1:=[some (.pub (.int b)),some (.pub (.int m)),some (.pub (.int n))]) (zaU (k:=isNon) (x:=PyData.int b) (zaf rfl)) (fun z=>by cases z) fun _=>za9 (zay ?_)
  apply zaD
  exact zaB (b:=true) (zbh (zaC (zaf rfl) rfl)) (fun _=>zav zac (zau rfl)) fun z=>by cases z
 | str b =>
  refine zaB (b:=false) (ρ1:=[some (.pub (.str b)),some (.pub (.int m)),some (.pub (.int n))]) (zaU (k:=isNon) (x:=PyData.str b) (zaf rfl)) (fun z=>by cases z) fun _=>za9 (zay ?_)
  apply zaD
  exact zaB (b:=true) (zbh (zaC (zaf rfl) rfl)) (fun _=>zav zac (zau rfl)) fun z=>by cases z
 | tuple b =>
  refine zaB (b:=false) (ρ1:=[some (.pub (.tuple b)),some (.pub (.int m)),some (.pub (.int n))]) (zaU (k:=isNon) (x:=PyData.tuple b) (zaf rfl)) (fun z=>by cases z) fun _=>za9 (zay ?_)
  apply zaD
  exact zaB (b:=true) (zbh (zaC (zaf rfl) rfl)) (fun _=>zav zac (zau rfl)) fun z=>by cases z
theorem zjT {d:D} {m:Nat} (hl:∀ xs,d=.list xs->xs.length<=700):F_ak [d,.int m]=some (.bool (turB m d)):=by
 refine zcj (ρ:=[some (.pub d),some (.pub (.int m))]) rfl ?_
 unfold g_ak
 apply zaD
 cases d with
 | list xs =>
  have hl:=hl xs rfl
  have hc:zco (gN 2) (zad true) (dFun 2 F_ab (zae (dVar 2) (zae (dVar 1) (mNil)))) xs (za5 [some (.pub (.list xs)),some (.pub (.int m))] ++ List.replicate 1 none) []=some (xs.map fun d=>.bool (belB m d)):=by
   rw [zcl (fun _=>true) (fun d=>.bool (belB m d)) (fun ρ=>∃ x,ρ = [some (.pub (.list xs)),some (.pub (.int m)),x])]
   ·rw [List.filter_eq_self.mpr (fun _ _=>rfl),List.nil_append]
   ·rintro d hm ρ ⟨x,rfl⟩
    exact ⟨_,tg_N (of_decide_eq_true rfl) rfl,rfl,fun _=>zaX (zab (zaf rfl) (zab (zaf rfl) zak)) rfl (zdE d m),_,rfl⟩
   ·exact ⟨none,rfl⟩
   ·rw [List.length_nil];omega
  refine zaB (b:=!xs.all (belB m)) (ρ1:=[some (.pub (.list xs)),some (.pub (.int m))]) (zck (zaC (zaf rfl) rfl) (zct (zbM (zaY (zab (zaU (zc1 (zbD (zaf rfl) zcL) hc)) zak) (zdF xs))))) (fun hh=>?_) (fun hh=>?_)
  ·have h3:xs.all (belB m)=false:=by simpa using hh
   refine zav zac (zau ?_)
   show _=Out.rt (.bool (xs.all (belB m) && _))
   rw [h3]
   rfl
  ·have h3:xs.all (belB m)=true:=by simpa using hh
   refine za9 (zay ?_)
   have e:=zed h3
   obtain ⟨u,hu,hd⟩:=zgn (ns:=xs.filterMap whI) (by have:=congrArg List.length e;rw [List.length_map] at this;omega)
   rw [← e] at hu
   refine zav (zaU (zar (zaY (zab (zaf rfl) zak) hu) (zbc rfl zaJ) zbt)) ?_
   show Out.rt (.bool (decide ((u:Int)=(xs.length:Int))))=Out.rt (.bool (xs.all (belB m) && decide (xs.filterMap whI).Nodup))
   have el:xs.length=(xs.filterMap whI).length:=by have:=congrArg List.length e;rw [List.length_map] at this;exact this
   rw [h3,Bool.true_and,← hd,el]
 | dict kvs=>exact zaB (b:=true) (zbh (zb8 (zaf rfl))) (fun _=>zav zac (zau rfl)) fun z=>by cases z
 | _=>exact zaB (b:=true) (zbh (zaC (zaf rfl) rfl)) (fun _=>zav zac (zau rfl)) fun z=>by cases z
def zn7:Option Str->XR
 | none=>.val .none
 | some p=>.exc (exD "NoAim" [.str p])
theorem zhD {cs:List Int} {ls:List (List (List Int))} (g:Good cs ls) {d:D} (hs:SmA d):zbn [zaK cs ls,d]=some (zn7 (zaV cs.length ls.length d)):=by
 refine zjr (ρ:=[some (.pub (zaK cs ls)),some (.pub d),none,none,none,none,none]) rfl ?_
 unfold zcA
 refine zax (zh1 (zcm (zab (zaf rfl) zak) rfl (zoY g)) rfl) ?_
 apply zaD
 have bad:zaV cs.length ls.length d=some ("aim" : Str)->Ho (zbL "NoAim" (zae (zad (.str "aim")) (mNil))) [some (.pub (zaK cs ls)),some (.pub d),none,none,none,none,none] (zhY (sSeq (sAsg (dVar 0) (gT 2 (gNC (gN 2) (gNC (gN 3) (gN0)))))
   (sSeq (sAsg (dVar 1) (gT 3 (gNC (gN 4) (gNC (gN 5) (gNC (gN 6) (gN0))))))
   (sSeq (sX (zeB 1 zbl (zae (dVar 4) (mNil))) fun _ ρ=>.nx ρ)
   (sSeq (sIf (mNot (zaT (dFun 3 F_aj (zae (dVar 5) (zae (zbZ 3) (zae (zbZ 2) (mNil)))))))
   (zbL "NoAim" (zae (zad (.str "old")) (mNil)))
   (sNx))
   (sIf (mNot (zaT (dFun 2 F_ak (zae (dVar 6) (zae (zbZ 3) (mNil))))))
   (zbL "NoAim" (zae (zad (.str "turns")) (mNil)))
   (sNx)))))) (OutX (zn7 (zaV cs.length ls.length d)))):=fun e=>by
  rw [e]
  exact zaR (zbE (fs:=[.str "aim"]) (zab zac zak) (by kernel_rfl)) (zbC ⟨rfl,rfl⟩)
 cases d with
 | tuple xs =>
  refine zaB (b:=!decide (xs.length=3)) (ρ1:=[some (.pub (zaK cs ls)),some (.pub (.tuple xs)),none,none,none,none,none]) ?_ (fun hh=>?_) (fun hh=>?_)
  ·refine (zck (zaC (zaf rfl) rfl) (zar (zbc rfl zeb) zac zdj)).trans ?_
   rw [show decide ((xs.length:Int)=3)=decide (xs.length=3) from decide_eq_decide.mpr (by omega)]
  ·have h3 : ¬ xs.length=3:=by simpa using hh
   refine bad ?_
   unfold zaV
   split
   ·rename_i heq;cases heq;exact absurd rfl h3
   ·rfl
  ·have h3:xs.length=3:=by simpa using hh
   obtain ⟨o,w,t,rfl⟩:∃ a b c,xs=[a,b,c]:=by
    match xs,h3 with
    | [a,b,c],_=>exact ⟨a,b,c,rfl⟩
   obtain ⟨ho,hw,ht⟩:=hs o w t rfl
   refine za9 (zay ?_)
   refine zax (zga (zaf rfl) (tg_T rfl (tg_C (tg_N (of_decide_eq_true rfl) rfl) (tg_C (tg_N (of_decide_eq_true rfl) rfl) tg_0)))) ?_
   refine zax (ρ1:=[some (.pub (zaK cs ls)),some (.pub (.tuple [o,w,t])),some (.pub (.list (cs.map PyData.int))),some (.pub (.list (ls.map zbg))),some (.pub o),some (.pub w),some (.pub t)]) (zga (zaf rfl) (tg_T rfl (tg_C (tg_N (of_decide_eq_true rfl) rfl) (tg_C (tg_N (of_decide_eq_true rfl) rfl) (tg_C (tg_N (of_decide_eq_true rfl) rfl) tg_0))))) ?_
   have hox:=zn6 ho
   apply zaD
   cases zo:ordB o with
   | false =>
    rw [zo] at hox
    have e:zaV cs.length ls.length (.tuple [o,w,t])=some ("order" : Str):=by show (if ordB o=true then _ else _)=_;rw [zo];rfl
    rw [e]
    exact zaR (zjn (zcm (zab (zaf rfl) zak) rfl hox)) (zbC ⟨rfl,rfl⟩)
   | true =>
    rw [zo] at hox
    refine zaR (zh1 (zcm (zab (zaf rfl) zak) rfl hox) rfl) (zay ?_)
    apply zaD
    refine zaB (b:=!oldB ls.length cs.length w) (ρ1:=[some (.pub (zaK cs ls)),some (.pub (.tuple [o,w,t])),some (.pub (.list (cs.map PyData.int))),some (.pub (.list (ls.map zbg))),some (.pub o),some (.pub w),some (.pub t)]) (zct (zbM (zaX (zab (zaf rfl) (zab (zbc rfl (by rw [zaJ,List.length_map])) (zab (zbc rfl (by rw [zaJ,List.length_map])) zak))) rfl (zmw hw)))) (fun hh=>?_) (fun hh=>?_)
    ·have zw:oldB ls.length cs.length w=false:=by simpa using hh
     have e:zaV cs.length ls.length (.tuple [o,w,t])=some ("old" : Str):=by show (if ordB o=true then (if oldB ls.length cs.length w=true then _ else _) else _)=_;rw [zo,zw];rfl
     rw [e]
     exact zaR (zbE (fs:=[.str "old"]) (zab zac zak) (by kernel_rfl)) (zbC ⟨rfl,rfl⟩)
    ·have zw:oldB ls.length cs.length w=true:=by simpa using hh
     refine za9 (zay ?_)
     have e:zaV cs.length ls.length (.tuple [o,w,t])=if turB ls.length t=true then none else some ("turns" : Str):=by show (if ordB o=true then (if oldB ls.length cs.length w=true then _ else _) else _)=_;rw [zo,zw];rfl
     rw [e]
     refine zaB (b:=!turB ls.length t) (ρ1:=[some (.pub (zaK cs ls)),some (.pub (.tuple [o,w,t])),some (.pub (.list (cs.map PyData.int))),some (.pub (.list (ls.map zbg))),some (.pub o),some (.pub w),some (.pub t)]) (zct (zbM (zaX (zab (zaf rfl) (zab (zbc rfl (by rw [zaJ,List.length_map])) zak)) rfl (zjT ht)))) (fun hh=>?_) (fun hh=>?_)
     ·have zt:turB ls.length t=false:=by simpa using hh
      rw [zt]
      exact zaR (zbE (fs:=[.str "turns"]) (zab zac zak) (by kernel_rfl)) ⟨rfl,rfl⟩
     ·have zt:turB ls.length t=true:=by simpa using hh
      rw [zt]
      exact za9 rfl
 | dict kvs=>exact zaB (b:=true) (zbh (zb8 (zaf rfl))) (fun _=>bad rfl) fun z=>by cases z
 | _=>exact zaB (b:=true) (zbh (zaC (zaf rfl) rfl)) (fun _=>bad rfl) fun z=>by cases z
theorem zdU (d:D) (n:Int):F_au [d,.int n]=some (.bool (belB n d)):=by
 refine zcj (ρ:=[some (.pub d),some (.pub (.int n))]) rfl ?_
 unfold g_au
 cases d with
 | int i=>exact zav (zb2 (t:=true) (u:=decide (0<=i) && decide (i < n)) (zcu (zaf rfl) rfl) fun _=>zb2 (t:=true) (u:=decide (0<=i) && decide (i < n)) (zja (t:=false) (zcu (zaf rfl) rfl)) fun _=>zb2 (zaU (zar zac (zaf rfl) rfl)) fun _=>zaU (zbu rfl (zaf rfl) rfl)) rfl
 | bool b=>exact zav (zb2 (t:=true) (u:=false) (zcu (zaf rfl) rfl) fun _=>zb2 (t:=false) (u:=false) (zja (t:=true) (zcu (zaf rfl) rfl)) fun z=>by cases z) rfl
 | dict kvs=>exact zav (zb2 (t:=false) (u:=false) (zjq (zaf rfl)) fun z=>by cases z) rfl
 | _=>exact zav (zb2 (t:=false) (u:=false) (zcu (zaf rfl) rfl) fun z=>by cases z) rfl
def zeW:Option Str->D
 | none=>.none
 | some p=>.str p
theorem zkZ {z:Str} (h:PyData.strOk z=true):oNin (.str z) (.list [.str "firsts", .str "full", .str "lasts"])=some (!ords.contains z):=by
 unfold oNin
 rw [show (PyData.list [.str "firsts", .str "full", .str "lasts"])=.list (ords.map PyData.str) from rfl,zkX h zjQ]
 rfl
theorem zmx {xs:List D} {k:Nat} (h:k<=xs.length):DL.cutD xs none (some (k:Int))=xs.take k:=by
 unfold DL.cutD
 rw [HT.zit,HT.zhd,List.drop_zero,Nat.sub_zero,Nat.min_eq_left h]
section
variable {cs:List Int} {ls:List (List (List Int))}
theorem zfb {o w t:D} {x2 x3:Option Sl} (l7:ls.length<=7) (ht:∀ xs,t=.list xs->xs.length<=700):Ho (sSeq (sIf (mNot (zaT (mMap (fun d=>.bool (isTy d "list")) (dIxN 1 (zad (.int 2))))))
   (sRet (zad (.str "turns")))
   (sNx))
   (sSeq (sFor (zfW (zae (dIxN 1 (zad (.int 2))) (mNil))) (gT 2 (gNC (gN 3) (gNC (gN 2) (gN0)))) zgS)
   (sRet (zad .none)))) [some (.pub (zaK cs ls)),some (.pub (.tuple [o,w,t])),x2,x3] (fun o'=>o'=.rt (zeW (if turB ls.length t=true then none else some ("turns" : Str)))):=by
 have i2:oIx (.tuple [o,w,t]) (.int 2)=some t:=zbi (j:=2) rfl
 have hm:oLen [.list (ls.map zbg)]=some (.int ls.length):=by rw [zaJ,List.length_map]
 apply zaD
 cases t with
 | list xs =>
  have hl:=ht xs rfl
  refine zaB (b:=false) (ρ1:=[some (.pub (zaK cs ls)),some (.pub (.tuple [o,w,.list xs])),x2,x3]) (zaC (za1 rfl zac i2) rfl) (fun z=>by cases z) fun _=>za9 (zay ?_)
  apply zaD
  apply zd3 (fun j ρ=>(∃ y2 y3,ρ = [some (.pub (zaK cs ls)),some (.pub (.tuple [o,w,.list xs])),y2,y3])/\(xs.take j).all (belB ls.length)=true/\((xs.take j).filterMap whI).Nodup)
  case h1=>exact zex (zab (za1 rfl zac i2) zak) zdw
  case h0=>exact ⟨⟨_,_,rfl⟩,rfl,List.nodup_nil⟩
  case hst =>
   rintro j d ρ hj ⟨⟨y2,y3,rfl⟩,ha,hn⟩
   obtain ⟨x,hx,rfl⟩:=zfy hj
   rw [Nat.zero_add]
   have hjl:j < xs.length:=(List.getElem?_eq_some_iff.mp hx).1
   have hxj:xs[j]=x:=(List.getElem?_eq_some_iff.mp hx).2
   have hts:xs.take (j+1)=xs.take j ++ [x]:=by rw [List.take_succ_eq_append_getElem hjl,hxj]
   refine ⟨_,tg_T rfl (tg_C (tg_N (of_decide_eq_true rfl) rfl) (tg_C (tg_N (of_decide_eq_true rfl) rfl) tg_0)),?_⟩
   unfold zgS
   have hfull:turB ls.length (.list xs)=(xs.all (belB ls.length) && decide (xs.filterMap whI).Nodup):=rfl
   cases hb:belB ls.length x with
   | false =>
    have e:turB ls.length (.list xs)=false:=by
     rw [hfull,show xs.all (belB ls.length)=false from Bool.eq_false_iff.mpr fun h=>by have:=List.all_eq_true.mp h x (List.mem_of_getElem? hx);rw [hb] at this;cases this]
     rfl
    refine zaB (b:=true) (ρ1:=[some (.pub (zaK cs ls)),some (.pub (.tuple [o,w,.list xs])),some (.pub x),some (.pub (.int j))]) (zbh (zmu (zaX (zab (zaf rfl) (zab (zaY (zab (za1 rfl zac zgZ) zak) hm) zak)) rfl (zdU x _)) hb)) (fun _=>zav zac (zfn (zau ?_))) fun z=>by cases z
    rw [e]
    rfl
   | true =>
    obtain ⟨i,rfl,_⟩:=zhC hb
    have ei:=zed ha
    have hin:oIn (.int i) (.list (xs.take j))=some (((xs.take j).filterMap whI).contains i):=by
     rw [ei]
     have:=zg0 (t:=i) (r:=(xs.take j).filterMap whI)
     rw [← ei] at this ⊢
     exact this
    have hsl:dSlA (dIxN 1 (zad (.int 2))) (zad none) (zas (dVar 3) fun x=>mOpt (zcx x)) [some (.pub (zaK cs ls)),some (.pub (.tuple [o,w,.list xs])),some (.pub (.int i)),some (.pub (.int j))]=.ok (.list (xs.take j)) [some (.pub (zaK cs ls)),some (.pub (.tuple [o,w,.list xs])),some (.pub (.int i)),some (.pub (.int j))]:=zc0 (za1 rfl zac i2) zac (zbK (zaf rfl)) (by rw [zbY,zmx (by omega)])
    refine zaB (b:=((xs.take j).filterMap whI).contains i) (ρ1:=[some (.pub (zaK cs ls)),some (.pub (.tuple [o,w,.list xs])),some (.pub (.int i)),some (.pub (.int j))]) (zck (zct (t:=true) (zbM (zaX (zab (zaf rfl) (zab (zaY (zab (za1 rfl zac zgZ) zak) hm) zak)) rfl ((zdU (.int i) _).trans (by rw [hb]))))) (zbu rfl hsl hin)) (fun hh=>?_) (fun hh=>?_)
    ·have hmem:i ∈ (xs.take j).filterMap whI:=by simpa using hh
     have e:turB ls.length (.list xs)=false:=by
      rw [hfull,decide_eq_false,Bool.and_false]
      intro hnd
      have hsub:((xs.take (j+1)).filterMap whI).Nodup:=List.Nodup.sublist (List.Sublist.filterMap _ (List.take_sublist _ _)) hnd
      rw [hts,List.filterMap_append] at hsub
      exact (List.nodup_append.mp hsub).2.2 i hmem i (by simp [whI]) rfl
     refine zav zac (zfn (zau ?_))
     rw [e]
     rfl
    ·have hmem : ¬ i ∈ (xs.take j).filterMap whI:=by simpa using hh
     refine za9 (zcz ⟨⟨_,_,rfl⟩,?_,?_⟩)
     ·rw [hts,List.all_append,ha]
      simp [hb]
     ·rw [hts,List.filterMap_append,List.nodup_append]
      refine ⟨hn,by simp [whI],fun a ha' b hb' e=>?_⟩
      have:b=i:=by simpa [whI] using hb'
      rw [e,this] at ha'
      exact hmem ha'
  case hend =>
   rintro ρ ⟨⟨y2,y3,rfl⟩,ha,hn⟩
   rw [zcr,List.take_length] at ha hn
   refine zay (zav zac ?_)
   have e:turB ls.length (.list xs)=true:=by show (xs.all (belB ls.length) && decide (xs.filterMap whI).Nodup)=true;rw [ha,decide_eq_true hn];rfl
   rw [e]
   rfl
 | dict kvs=>exact zaB (b:=true) (zb8 (za1 rfl zac i2)) (fun _=>zav zac (zau rfl)) fun z=>by cases z
 | _=>exact zaB (b:=true) (zaC (za1 rfl zac i2) rfl) (fun _=>zav zac (zau rfl)) fun z=>by cases z
theorem zgu (l7:ls.length<=7) {d:D} (hs:SmA d):F_av [zaK cs ls,d]=some (zeW (zaV cs.length ls.length d)):=by
 refine zcj (ρ:=[some (.pub (zaK cs ls)),some (.pub d),none,none]) rfl ?_
 unfold g_av
 have hn:oLen [.list (cs.map PyData.int)]=some (.int cs.length):=by rw [zaJ,List.length_map]
 have hm:oLen [.list (ls.map zbg)]=some (.int ls.length):=by rw [zaJ,List.length_map]
 apply zaD
 cases d with
 | tuple xs =>
  refine zaB (b:=!decide (xs.length=3)) (ρ1:=[some (.pub (zaK cs ls)),some (.pub (.tuple xs)),none,none]) ?_ (fun hh=>?_) (fun hh=>?_)
  ·refine (zck (zaC (zaf rfl) rfl) (zar (zbc rfl zeb) zac zdj)).trans ?_
   rw [show decide ((xs.length:Int)=3)=decide (xs.length=3) from decide_eq_decide.mpr (by omega)]
  ·have h3 : ¬ xs.length=3:=by simpa using hh
   refine zav zac (zau ?_)
   have e:zaV cs.length ls.length (.tuple xs)=some ("aim" : Str):=by
    unfold zaV
    split
    ·rename_i heq;cases heq;exact absurd rfl h3
    ·rfl
   rw [e]
   rfl
  ·have h3:xs.length=3:=by simpa using hh
   obtain ⟨o,w,t,rfl⟩:∃ a b c,xs=[a,b,c]:=by
    match xs,h3 with
    | [a,b,c],_=>exact ⟨a,b,c,rfl⟩
   obtain ⟨ho,hw,ht⟩:=hs o w t rfl
   have i0:oIx (.tuple [o,w,t]) (.int 0)=some o:=zbi (j:=0) rfl
   have i1:oIx (.tuple [o,w,t]) (.int 1)=some w:=zbi (j:=1) rfl
   have hap:zaV cs.length ls.length (.tuple [o,w,t])=if ordB o=true then (if oldB ls.length cs.length w=true then (if turB ls.length t=true then none else some ("turns" : Str)) else some ("old" : Str)) else some ("order" : Str):=rfl
   refine za9 (zay ?_)
   let R:DEnv:=[some (.pub (zaK cs ls)),some (.pub (.tuple [o,w,t])),none,none]
   have hot:mOr (mNot (zaT (mMap (fun d=>.bool (isTy d "str")) (dIxN 1 (zad (.int 0)))))) (dBin oNin (dIxN 1 (zad (.int 0))) (mLst (zae (zad (.str "firsts")) (zae (zad (.str "full")) (zae (zad (.str "lasts")) (mNil)))))) R=.ok (!ordB o) R:=by
    cases o with
    | str z=>exact zck (zaC (za1 rfl zac i0) rfl) (zar (za1 rfl zac i0) (za7 (zab zac (zab zac (zab zac zak))) (of_decide_eq_true rfl)) (zkZ (ho z rfl)))
    | dict kvs=>exact zbh (zb8 (za1 rfl zac i0))
    | _=>exact zbh (zaC (za1 rfl zac i0) rfl)
   apply zaD
   refine zaB (ρ1:=R) hot (fun hh=>?_) (fun hh=>?_)
   ·have zo:ordB o=false:=by simpa using hh
    refine zav zac (zau ?_)
    rw [hap,zo]
    rfl
   ·have zo:ordB o=true:=by simpa using hh
    refine za9 (zay ?_)
    rw [hap,zo,if_pos rfl]
    apply zaD
    cases hnw:isNon w with
    | true =>
     cases w with
     | none =>
      refine zaB (b:=false) (ρ1:=R) (zaU (k:=fun d=>!isNon d) (x:=PyData.none) (za1 rfl zac i1)) (fun z=>by cases z) fun _=>za9 (zay ?_)
      rw [show oldB ls.length cs.length .none=true from rfl,if_pos rfl]
      exact zfb l7 ht
     | _=>cases hnw
    | false =>
     refine zaB (b:=true) (ρ1:=R) ((zaU (k:=fun d=>!isNon d) (x:=w) (za1 rfl zac i1)).trans (by rw [hnw];rfl)) (fun _=>?_) fun z=>by cases z
     apply zaD
     cases w with
     | none=>cases hnw
     | list ys =>
      have hl:=hw ys rfl
      have hfull:oldB ls.length cs.length (.list ys)=(decide (ys.length=ls.length) && ys.all fun x=>isNon x || belB cs.length x):=rfl
      refine zaB (b:=!decide ((ys.length:Int)=(ls.length:Int))) (ρ1:=R) (zck (zaC (za1 rfl zac i1) rfl) (zar (zaY (zab (za1 rfl zac i1) zak) zaJ) (zaY (zab (za1 rfl zac zgZ) zak) hm) zdj)) (fun hh=>?_) (fun hh=>?_)
      ·have h3 : ¬ (ys.length:Int)=(ls.length:Int):=by simpa using hh
       refine zav zac (zau (zau ?_))
       rw [hfull,decide_eq_false (by omega)]
       rfl
      ·have h3:(ys.length:Int)=(ls.length:Int):=by simpa using hh
       refine za9 (zay ?_)
       apply zd3 (fun j ρ=>(∃ y2,ρ = [some (.pub (zaK cs ls)),some (.pub (.tuple [o,.list ys,t])),y2,none])/\∀ x ∈ ys.take j,(isNon x || belB cs.length x)=true)
       case h1=>exact zbD (za1 rfl zac i1) zcL
       case h0=>exact ⟨⟨_,rfl⟩,fun x h=>by simp at h⟩
       case hst =>
        rintro j d ρ hj ⟨⟨y2,rfl⟩,hb⟩
        have hjl:j < ys.length:=(List.getElem?_eq_some_iff.mp hj).1
        have hxj:ys[j]=d:=(List.getElem?_eq_some_iff.mp hj).2
        refine ⟨_,tg_N (of_decide_eq_true rfl) (by walk_at "set"),?_⟩
        unfold zjA
        have htest:mAnd (mMap (fun d=>!isNon d) (dVar 2)) (mNot (zaT (dFun 2 F_au (zae (dVar 2) (zae (zbr oLen (zae (dIxN 0 (zad (.int 0))) (mNil))) (mNil)))))) [some (.pub (zaK cs ls)),some (.pub (.tuple [o,.list ys,t])),some (.pub d),none]=.ok (!(isNon d || belB cs.length d)) [some (.pub (zaK cs ls)),some (.pub (.tuple [o,.list ys,t])),some (.pub d),none]:=by
         rw [Bool.not_or]
         exact zho (zaU (k:=fun d=>!isNon d) (zaf rfl)) (fun _=>zct (zbM (zaX (zab (zaf rfl) (zab (zaY (zab (za1 rfl zac zkS) zak) hn) zak)) rfl (zdU d _))))
        refine zaB (ρ1:=[some (.pub (zaK cs ls)),some (.pub (.tuple [o,.list ys,t])),some (.pub d),none]) htest (fun hh=>?_) (fun hh=>?_)
        ·have zb:(isNon d || belB cs.length d)=false:=by simpa using hh
         refine zav zac (zfn (zau ?_))
         rw [hfull,show (ys.all fun x=>isNon x || belB cs.length x)=false from Bool.eq_false_iff.mpr fun h=>(by have:=List.all_eq_true.mp h d (List.mem_of_getElem? hj);rw [zb] at this;cases this),Bool.and_false]
         rfl
        ·have zb:(isNon d || belB cs.length d)=true:=by
          cases z:(isNon d || belB cs.length d) with
          | true=>rfl
          | false=>rw [z] at hh;cases hh
         refine za9 (zcz ⟨⟨_,rfl⟩,fun x hx=>?_⟩)
         rw [List.take_succ_eq_append_getElem hjl,hxj] at hx
         rcases List.mem_append.mp hx with h | h
         ·exact hb x h
         ·rw [List.mem_singleton.mp h];exact zb
       case hend =>
        rintro ρ ⟨⟨y2,rfl⟩,hb⟩
        rw [List.take_length] at hb
        refine zay ?_
        rw [hfull,decide_eq_true (by omega),List.all_eq_true.mpr hb,Bool.true_and,if_pos rfl]
        exact zfb l7 ht
     | dict kvs=>exact zaB (b:=true) (zbh (zb8 (za1 rfl zac i1))) (fun _=>zav zac (zau (zau rfl))) fun z=>by cases z
     | _=>exact zaB (b:=true) (zbh (zaC (za1 rfl zac i1) rfl)) (fun _=>zav zac (zau (zau rfl))) fun z=>by cases z
 | dict kvs=>exact zaB (b:=true) (zbh (zb8 (zaf rfl))) (fun _=>zav zac (zau rfl)) fun z=>by cases z
 | _=>exact zaB (b:=true) (zbh (zaC (zaf rfl) rfl)) (fun _=>zav zac (zau rfl)) fun z=>by cases z
end
theorem zn8 {k n:Nat} {d:D} (h:Sh k n d) (hn:n<=700):SmA d:=by
 rintro o w t rfl
 obtain ⟨h1,h2,h3⟩:=h
 have lenb:∀ ys:List D,ys.length<=PyData.bulkAll ys:=fun ys=>by
  induction ys with
  | nil=>exact Nat.zero_le _
  | cons y r ih=>simp only [PyData.bulkAll,List.length_cons];omega
 simp only [PyData.bulk] at h3
 refine ⟨fun z e=>?_,fun xs e=>?_,fun xs e=>?_⟩
 ·subst e
  have:=zfB.mp (by simpa [hW] using h1:hWs [.str z,w,t]=true) (.str z) (by simp)
  have:PyData.strOk z=true/\z.length<=20:=by simpa [hW] using this
  exact this.1
 ·subst e
  have:=zeM (x:=.list xs) (xs:=[o,.list xs,t]) (by simp)
  simp only [PyData.bulk] at this
  have:=lenb xs
  omega
 ·subst e
  have:=zeM (x:=.list xs) (xs:=[o,w,.list xs]) (by simp)
  simp only [PyData.bulk] at this
  have:=lenb xs
  omega
theorem ixS {xs:List D} {n:Nat} {i:Int} (h0:0<=i) (h1:i < n) (hl:xs.length=n):∃ x ∈ xs,oIx (.list xs) (.int i)=some x:=by
 obtain ⟨k,rfl⟩:∃ k:Nat,i=k:=⟨i.toNat,by omega⟩
 have hk:k < xs.length:=by omega
 exact ⟨xs[k],List.getElem_mem hk,zbi (List.getElem?_eq_getElem hk)⟩
theorem zjU {xs:List D} {k n:Nat} {a b:Option Int} (h:∀ x ∈ xs,Sh k n x):∀ x ∈ DL.cutD xs a b,Sh k n x:=fun x hx=>h x (zhB hx)
theorem zjV {v:Int} (h:0<=v/\v<=100):∀ x ∈ ([.none,.bool true,.bool false,.int (-1),.int v,.str "0", .list [.int 0],.tuple [.int 0],.int (v+7),.int (10 ^ (40:Int).toNat)]:List D),Sh 2 1 x:=fun x hx=>by
 have big:(200:Nat) < 10 ^ 70:=by decide +kernel
 simp only [List.mem_cons,List.not_mem_nil,or_false] at hx
 rcases hx with rfl | rfl | rfl | rfl | rfl | rfl | rfl | rfl | rfl | rfl
 ·exact zd4
 ·exact zg4
 ·exact zg4
 ·exact zde (by omega)
 ·exact zde (by omega)
 ·exact zgs (by decide +kernel) (by decide +kernel) (by decide +kernel)
 ·exact zeK (k:=1) (n:=0) (m:=1) (fun y hy=>by rw [List.mem_singleton.mp hy];exact zde (by omega)) (by decide)
 ·exact zeL (k:=1) (n:=0) (m:=1) (fun y hy=>by rw [List.mem_singleton.mp hy];exact zde (by omega)) (by decide)
 ·exact zde (by omega)
 ·exact zde (by decide +kernel)
theorem zmy {xs:List D} {a:Nat} (h:a<=xs.length):(DL.cutD xs none (some (a:Int))).length+(DL.cutD xs (some (a:Int)) none).length=xs.length:=by
 unfold DL.cutD
 simp only [HT.zit,HT.zhd,List.length_take,List.length_drop]
 omega
section
variable {cs:List Int} {ls:List (List (List Int))}
theorem zjW (g:Good cs ls) {old:D} {row:List D} (ho:old=.none ∨ old=.list row) (hr:∀ x ∈ row,Sh 2 1 x) (hl:old=.list row->row.length=ls.length) {w p o:Int} (hb:0<=o/\o < 10):∃ r,F_ar [zaK cs ls,old,.int w,.int p,.int o]=some r/\Sh 3 20 r:=by
 have l7:=g.l7;have l1:=g.l1;have c6:=g.c6
 refine zez (ρ:=[some (.pub (zaK cs ls)),some (.pub old),some (.pub (.int w)),some (.pub (.int p)),some (.pub (.int o)),none,none,none,none]) rfl ?_
 unfold g_ar
 have hn:oLen [.list (cs.map PyData.int)]=some (.int cs.length):=by rw [zaJ,List.length_map]
 have hm:oLen [.list (ls.map zbg)]=some (.int ls.length):=by rw [zaJ,List.length_map]
 let X:List D:=[.none,.bool true,.bool false,.int (-1),.int (cs.length:Int),.str "0", .list [.int 0],.tuple [.int 0],.int ((cs.length:Int)+7),.int (10 ^ (40:Int).toNat)]
 let S0:Option Sl:=some (.pub (zaK cs ls))
 let S1:Option Sl:=some (.pub old)
 let S2:Option Sl:=some (.pub (.int w))
 let S3:Option Sl:=some (.pub (.int p))
 let S4:Option Sl:=some (.pub (.int o))
 let S5:Option Sl:=some (.pub (.int (ls.length:Int)))
 let S6:Option Sl:=some (.pub (.int (cs.length:Int)))
 refine zax (ρ1:=[S0,S1,S2,S3,S4,S5,none,none,none]) (za4 (zaY (zab (za1 rfl zac zgZ) zak) hm) (of_decide_eq_true rfl) rfl) ?_
 refine zax (ρ1:=[S0,S1,S2,S3,S4,S5,S6,none,none]) (za4 (zaY (zab (za1 rfl zac zkS) zak) hn) (of_decide_eq_true rfl) rfl) ?_
 refine zax (ρ1:=[S0,S1,S2,S3,S4,S5,S6,some (.own X),none]) (zbQ (zcK (zab zac (zab zac (zab zac (zab (zf7 zac) (zab (zaf rfl) (zab zac (zab (za7 (zab zac zak) (of_decide_eq_true rfl)) (zab (zci (zab zac zak) (of_decide_eq_true rfl)) (zab (zar (zaf rfl) zac za6) (zab (zar zac zac (zgP (by decide))) zak)))))))))) (of_decide_eq_true rfl)) (of_decide_eq_true rfl) rfl) ?_
 obtain ⟨x,hxm,hx⟩:=ixS (xs:=X) (n:=10) hb.1 hb.2 rfl
 have wx:Sh 2 1 x:=zjV ⟨by omega,by omega⟩ x hxm
 refine zax (ρ1:=[S0,S1,S2,S3,S4,S5,S6,some (.own X),some (.own (List.replicate ls.length .none))]) (zbQ (zl6 (za7 (zab zac zak) (of_decide_eq_true rfl)) (zaf rfl) (by omega)) (of_decide_eq_true rfl) rfl) ?_
 have lst:∀ {ys:List D},(∀ y ∈ ys,Sh 2 1 y)->ys.length<=8->Sh 3 20 (.list ys):=fun {ys} h hl=>(zeK h hl).mono (by decide) (by decide)
 have sold:Sh 3 20 old:=by
  rcases ho with rfl | rfl
  ·exact zd4
  ·exact lst hr (by have:=hl rfl;omega)
 have rest:∀ ys:List D,(∀ y ∈ ys,Sh 2 1 y)->ys.length=ls.length->Ho (sSeq (sIf (zbx oEq 2 (zad (.int 3)))
   (sSeq (zi3 8 (dBin oMod (dVar 3) (dVar 5)) (dIxN 7 (dVar 4)))
   (sRet (dVar 8)))
   (sNx))
   (sSeq (sIf (zbx oEq 2 (zad (.int 4)))
   (sRet (dBin oIx (mLst (zae (dSlA (dVar 8) (zas (zad (.int 1)) fun x=>mOpt (zcx x)) (zad none)) (zae (dBin oAdd (dVar 8) (mLst (zae (zad .none) (mNil)))) (mNil)))) (dBin oMod (dVar 4) (zad (.int 2)))))
   (sNx))
   (sSeq (sIf (zbx oEq 2 (zad (.int 5)))
   (sRet (zbr zjs (zae (dVar 8) (mNil))))
   (sNx))
   (sSeq (sIf (zbx oEq 2 (zad (.int 6)))
   (sRet (dIxN 7 (dVar 4)))
   (sNx))
   (sRet (dVar 1)))))) [S0,S1,S2,S3,S4,S5,S6,some (.own X),some (.own ys)] (fun o=>∃ d,o=.rt d/\Sh 3 20 d):=by
  intro ys hy hyl
  let R:DEnv:=[S0,S1,S2,S3,S4,S5,S6,some (.own X),some (.own ys)]
  apply zaD
  refine zaB (ρ1:=R) (zbu rfl zac zbt) (fun _=>?_) (fun _=>za9 (zay ?_))
  ·have hm0:0<=p % (ls.length:Int):=Int.emod_nonneg _ (by omega)
   have hm1:p % (ls.length:Int) < ls.length:=Int.emod_lt_of_pos _ (by omega)
   refine zax (zjc (zf6 rfl (zaf rfl) rfl hx) rfl (zar (zaf rfl) (zaf rfl) (zcZ (by omega))) rfl ⟨hm0,by omega⟩ rfl) ?_
   refine zav (zbP rfl rfl) (zau ⟨_,rfl,lst (fun y hy'=>?_) (by rw [List.length_set];omega)⟩)
   rcases List.mem_or_eq_of_mem_set hy' with h | h
   ·exact hy y h
   ·rw [h];exact wx
  apply zaD
  refine zaB (ρ1:=R) (zbu rfl zac zbt) (fun _=>?_) (fun _=>za9 (zay ?_))
  ·let Y:List D:=[.list (DL.cutD ys (some 1) none),.list (ys ++ [.none])]
   obtain ⟨y,hym,hyx⟩:=ixS (xs:=Y) (n:=2) (i:=o % 2) (Int.emod_nonneg _ (by decide)) (Int.emod_lt_of_pos _ (by decide)) rfl
   refine zav (zar (za7 (zab (zc0 (zbP rfl rfl) (zbK zac) zac zbY) (zab (zar (zaf rfl) (za7 (zab zac zak) (of_decide_eq_true rfl)) (zbB (by show _+1<=_;omega))) zak)) (of_decide_eq_true rfl)) (zar (zaf rfl) zac (zcZ (by decide))) hyx) (zau ⟨_,rfl,?_⟩)
   simp only [Y,List.mem_cons,List.not_mem_nil,or_false] at hym
   rcases hym with rfl | rfl
   ·exact lst (zjU hy) (by have:=zhA (xs:=ys) (a:=some 1) (b:=none);omega)
   ·refine lst (fun z hz=>?_) (by rw [List.length_append];show _+1<=8;omega)
    rcases List.mem_append.mp hz with hz | hz
    ·exact hy z hz
    ·rw [List.mem_singleton.mp hz];exact zd4
  apply zaD
  refine zaB (ρ1:=R) (zbu rfl zac zbt) (fun _=>zav (zaY (zab (zbP rfl rfl) zak) rfl) (zau ⟨_,rfl,(zeL hy (m:=8) (by omega)).mono (by decide) (by decide)⟩)) (fun _=>za9 (zay ?_))
  apply zaD
  refine zaB (ρ1:=R) (zbu rfl zac zbt) (fun _=>zav (zf6 rfl (zaf rfl) rfl hx) (zau ⟨_,rfl,wx.mono (by decide) (by decide)⟩)) (fun _=>za9 (zay ?_))
  exact zav (zaf rfl) ⟨_,rfl,sold⟩
 apply zaD
 rcases ho with rfl | rfl
 ·refine zaB (b:=false) (ρ1:=[S0,some (.pub .none),S2,S3,S4,S5,S6,some (.own X),some (.own (List.replicate ls.length .none))]) (zaU (k:=fun d=>!isNon d) (x:=PyData.none) (zaf rfl)) (fun z=>by cases z) fun _=>za9 (zay (rest _ (fun y hy=>?_) List.length_replicate))
  rw [(List.mem_replicate.mp hy).2]
  exact zd4
 ·refine zaB (b:=true) (ρ1:=[S0,some (.pub (.list row)),S2,S3,S4,S5,S6,some (.own X),some (.own (List.replicate ls.length .none))]) (zaU (k:=fun d=>!isNon d) (x:=PyData.list row) (zaf rfl)) (fun _=>?_) fun z=>by cases z
  exact zaR (zbQ (zfo rfl rfl) (of_decide_eq_true rfl) rfl) (zay (rest row hr (hl rfl)))
theorem zjX {m:Nat} (hm:m<=7) {ts:List Int} (ht:∀ a ∈ ts,0<=a/\a < m) (hl:ts.length<=7) {w p o:Int} (hb:0<=o/\o < 10):∃ r,F_as [.int m,.list (ts.map PyData.int),.int w,.int p,.int o]=some r/\Sh 3 20 r:=by
 refine zez (ρ:=[some (.pub (.int m)),some (.pub (.list (ts.map PyData.int))),some (.pub (.int w)),some (.pub (.int p)),some (.pub (.int o)),none,none]) rfl ?_
 unfold g_as
 have big:(200:Nat) < 10 ^ 70:=by decide +kernel
 let X:List D:=[.none,.bool true,.bool false,.int (-1),.int (m:Int),.str "0", .list [.int 0],.tuple [.int 0],.int ((m:Int)+7),.int (10 ^ (40:Int).toNat)]
 let S0:Option Sl:=some (.pub (.int m))
 let S1:Option Sl:=some (.pub (.list (ts.map PyData.int)))
 let S2:Option Sl:=some (.pub (.int w))
 let S3:Option Sl:=some (.pub (.int p))
 let S4:Option Sl:=some (.pub (.int o))
 refine zax (ρ1:=[S0,S1,S2,S3,S4,some (.own X),none]) (zbQ (zcK (zab zac (zab zac (zab zac (zab (zf7 zac) (zab (zaf rfl) (zab zac (zab (za7 (zab zac zak) (of_decide_eq_true rfl)) (zab (zci (zab zac zak) (of_decide_eq_true rfl)) (zab (zar (zaf rfl) zac za6) (zab (zar zac zac (zgP (by decide))) zak)))))))))) (of_decide_eq_true rfl)) (of_decide_eq_true rfl) rfl) ?_
 obtain ⟨x,hxm,hx⟩:=ixS (xs:=X) (n:=10) hb.1 hb.2 rfl
 have wx:Sh 2 1 x:=zjV ⟨by omega,by omega⟩ x hxm
 have hlen:(ts.map PyData.int).length=ts.length:=List.length_map _
 have hts:∀ y ∈ ts.map PyData.int,Sh 2 1 y:=fun y hy=>by
  obtain ⟨a,ha,rfl⟩:=List.mem_map.mp hy
  have:=ht a ha
  exact zde (by omega)
 have lst:∀ {ys:List D},(∀ y ∈ ys,Sh 2 1 y)->ys.length<=8->Sh 3 20 (.list ys):=fun {ys} h hl=>(zeK h hl).mono (by decide) (by decide)
 have hm0:0<=p % ((ts.map PyData.int).length+1:Int):=Int.emod_nonneg _ (by omega)
 have hm1:p % ((ts.map PyData.int).length+1:Int) < (ts.map PyData.int).length+1:=Int.emod_lt_of_pos _ (by omega)
 obtain ⟨a,ha⟩:∃ a:Nat,p % ((ts.map PyData.int).length+1:Int)=a:=⟨(p % ((ts.map PyData.int).length+1:Int)).toNat,by omega⟩
 rw [ha] at hm0 hm1
 have h2:=zmy (xs:=ts.map PyData.int) (a:=a) (by omega)
 let S6:Option Sl:=some (.pub (.int (a:Int)))
 let R:DEnv:=[S0,S1,S2,S3,S4,some (.own X),S6]
 refine zax (ρ1:=R) (za4 (zar (zaf rfl) (zar (zbc rfl zaJ) zac za6) (zcZ (by omega))) (of_decide_eq_true rfl) (by rw [ha];rfl)) ?_
 have ins:∀ z:D,Sh 2 1 z->Sh 3 20 (.list (DL.cutD (ts.map PyData.int) none (some (a:Int)) ++ [z] ++ DL.cutD (ts.map PyData.int) (some (a:Int)) none)):=fun z hz=>lst (fun y hy=>by
  rcases List.mem_append.mp hy with hy | hy
  ·rcases List.mem_append.mp hy with hy | hy
   ·exact zjU hts y hy
   ·rw [List.mem_singleton.mp hy];exact hz
  ·exact zjU hts y hy) (by rw [List.length_append,List.length_append];show _+1+_<=8;omega)
 apply zaD
 refine zaB (ρ1:=R) (zbu rfl zac zbt) (fun _=>?_) (fun _=>za9 (zay ?_))
 ·exact zav (zar (zar (zc0 (zaf rfl) zac (zbK (zaf rfl)) zbY) (za7 (zab (zf6 rfl (zaf rfl) rfl hx) zak) (of_decide_eq_true rfl)) (zbB (by show _+1<=_;omega))) (zc0 (zaf rfl) (zbK (zaf rfl)) zac zbY) (zbB (by rw [List.length_append];show _+1+_<=_;omega))) (zau ⟨_,rfl,ins x wx⟩)
 apply zaD
 refine zaB (b:=decide (w=4) && !decide (ts=[])) (ρ1:=R) (zho (zbu rfl zac zbt) (fun _=>zbu rfl (za7 zak (by decide)) zgh)) (fun hh=>?_) (fun _=>za9 (zay ?_))
 ·have hne:ts ≠ []:=by
   rw [Bool.and_eq_true] at hh
   simpa using hh.2
  have hpos:0 < ts.length:=List.length_pos_iff.mpr hne
  obtain ⟨y,hym,hy⟩:=ixS (xs:=ts.map PyData.int) (n:=ts.length) (i:=o % ((ts.map PyData.int).length:Nat)) (Int.emod_nonneg _ (by omega)) (by have:=Int.emod_lt_of_pos o (b:=((ts.map PyData.int).length:Nat)) (by omega);omega) hlen
  exact zav (zar (zar (zc0 (zaf rfl) zac (zbK (zaf rfl)) zbY) (za7 (zab (za1 rfl (zar (zaf rfl) (zbc rfl zaJ) (zcZ (by omega))) hy) zak) (of_decide_eq_true rfl)) (zbB (by show _+1<=_;omega))) (zc0 (zaf rfl) (zbK (zaf rfl)) zac zbY) (zbB (by rw [List.length_append];show _+1+_<=_;omega))) (zau ⟨_,rfl,ins y (hts y hym)⟩)
 apply zaD
 refine zaB (ρ1:=R) (zbu rfl zac zbt) (fun _=>zav (zaY (zab (zaf rfl) zak) rfl) (zau ⟨_,rfl,(zeL hts (m:=8) (by omega)).mono (by decide) (by decide)⟩)) (fun _=>za9 (zay ?_))
 apply zaD
 refine zaB (ρ1:=R) (zbu rfl zac zbt) (fun _=>zav (zf6 rfl (zaf rfl) rfl hx) (zau ⟨_,rfl,wx.mono (by decide) (by decide)⟩)) (fun _=>za9 (zay ?_))
 exact zav (zaU (zfo rfl rfl)) ⟨_,rfl,lst hts (by omega)⟩
theorem zoZ {x:D} (h:Sh 3 20 x):Sh 5 150 (.dict [(.str "order", x)]):=by
 refine ⟨?_,?_,?_⟩
 ·have e:PyData.strOk (Str.ofString "order")=true:=by decide +kernel
  have e2:(Str.ofString "order").length<=20:=by decide +kernel
  simp [hW,hWk,h.1,e,e2]
 ·have:=h.2.1
  simp only [PyData.depth,PyData.depthKv]
  omega
 ·have:=h.2.2
  have e2:(PyData.str (Str.ofString "order")).bulk=5:=by decide +kernel
  simp only [PyData.bulk,PyData.bulkKv] at e2 ⊢
  omega
end
section
variable {cs:List Int} {ls:List (List (List Int))} {o:Ord} {old:Option (List (Option Int))} {ts:List Int}
theorem zmz (g:Good cs ls) (ga:zc4 cs.length ls.length old ts) (c s:Int):∃ r,F_at [zaK cs ls,aimD o old ts,.int c,.int s]=some r/\Sh 5 150 r:=by
 have l7:=g.l7;have c6:=g.c6
 have big:(200:Nat) < 10 ^ 70:=by decide +kernel
 refine zez (ρ:=[some (.pub (zaK cs ls)),some (.pub (aimD o old ts)),some (.pub (.int c)),some (.pub (.int s)),none,none,none,none,none,none]) rfl ?_
 unfold g_at
 obtain ⟨r,hF,dg,rfl,hdl,hdb⟩:=zcv c s (sizes:=[4,13,7,8,10,7,8,10,6,7]) (by decide) (by decide)
 have hdl:dg.length=10:=hdl
 have dgt:∀ {j:Nat} {z:Int},([4,13,7,8,10,7,8,10,6,7]:List Int)[j]?=some z->∃ d,oIx (.list (dg.map PyData.int)) (.int j)=some (.int d)/\0<=d/\d < z:=fun {j z} hz=>by
  have hj:j < dg.length:=by rw [hdl];exact (List.getElem?_eq_some_iff.mp hz).1
  exact ⟨dg[j],zbi (by rw [List.getElem?_map,List.getElem?_eq_getElem hj];rfl),hdb j _ _ (List.getElem?_eq_getElem hj) hz⟩
 obtain ⟨d0,e0,_⟩:=dgt (j:=0) (z:=4) rfl
 obtain ⟨d1,e1,b1⟩:=dgt (j:=1) (z:=13) rfl
 obtain ⟨d2,e2,b2⟩:=dgt (j:=2) (z:=7) rfl
 obtain ⟨d3,e3,b3⟩:=dgt (j:=3) (z:=8) rfl
 obtain ⟨d4,e4,b4⟩:=dgt (j:=4) (z:=10) rfl
 obtain ⟨d5,e5,b5⟩:=dgt (j:=5) (z:=7) rfl
 obtain ⟨d6,e6,b6⟩:=dgt (j:=6) (z:=8) rfl
 obtain ⟨d7,e7,b7⟩:=dgt (j:=7) (z:=10) rfl
 obtain ⟨d8,e8,_⟩:=dgt (j:=8) (z:=6) rfl
 obtain ⟨d9,e9,b9⟩:=dgt (j:=9) (z:=7) rfl
 let P0:Option Sl:=some (.pub (zaK cs ls))
 let P1:Option Sl:=some (.pub (aimD o old ts))
 let P2:Option Sl:=some (.pub (.int c))
 let P3:Option Sl:=some (.pub (.int s))
 let P4:Option Sl:=some (.pub (.list (dg.map PyData.int)))
 let T:Option Sl:=some (.pub (.list (ts.map PyData.int)))
 refine zax (ρ1:=[P0,P1,P2,P3,P4,none,none,none,none,none]) (za4 (zaX (zab (zaf rfl) (zab (zaf rfl) (zab (za7 (zab zac (zab zac (zab zac (zab zac (zab zac (zab zac (zab zac (zab zac (zab zac (zab zac zak)))))))))) (of_decide_eq_true rfl)) zak))) rfl hF) (of_decide_eq_true rfl) rfl) ?_
 refine zax (ρ1:=[P0,P1,P2,P3,P4,some (.pub (.str o.tx)),some (.pub (oldD old)),T,none,none]) (zga (zaf rfl) (tg_T rfl (tg_C (tg_N (of_decide_eq_true rfl) rfl) (tg_C (tg_N (of_decide_eq_true rfl) rfl) (tg_C (tg_N (of_decide_eq_true rfl) rfl) tg_0))))) ?_
 obtain ⟨A,hA,sA⟩:∃ A,F_ar [zaK cs ls,oldD old,.int d2,.int d3,.int d4]=some A/\Sh 3 20 A:=by
  cases old with
  | none=>exact zjW g (row:=[]) (.inl rfl) (fun x h=>by cases h) (fun e=>by cases e) b4
  | some ws =>
   refine zjW g (row:=ws.map optD) (.inr rfl) (fun x hx=>?_) (fun _=>by rw [List.length_map];exact ga.len ws rfl) b4
   obtain ⟨w,hw,rfl⟩:=List.mem_map.mp hx
   cases w with
   | none=>exact zd4
   | some t=>have:=ga.old ws t rfl hw;exact zde (by omega)
 obtain ⟨B,hB,sB⟩:=zjX (m:=ls.length) l7 (ts:=ts) ga.there (by have:=ga.few;omega) (w:=d5) (p:=d6) b7
 have hm:oLen [.list (ls.map zbg)]=some (.int ls.length):=by rw [zaJ,List.length_map]
 have rest:∀ (t:D) (x8:Option Sl),Sh 3 20 t->Ho (sSeq (sSet 6 (dFun 5 F_ar (zae (dVar 0) (zae (dVar 6) (zae (dIxN 4 (zad (.int 2))) (zae (dIxN 4 (zad (.int 3))) (zae (dIxN 4 (zad (.int 4))) (mNil))))))))
   (sSeq (sSet 7 (dFun 5 F_as (zae (zbr oLen (zae (dIxN 0 (zad (.int 1))) (mNil))) (zae (dVar 7) (zae (dIxN 4 (zad (.int 5))) (zae (dIxN 4 (zad (.int 6))) (zae (dIxN 4 (zad (.int 7))) (mNil))))))))
   (sSeq (sIf (dBin oEq (dIxN 4 (zad (.int 8))) (zad (.int 1)))
   (sSeq (zb1 9 (zas (zae (mLst (zae (dVar 5) (zae (dVar 6) (zae (dVar 7) (mNil))))) (zae (mTup (zae (dVar 5) (zae (dVar 6) (mNil)))) (zae (mTup (zae (dVar 5) (zae (dVar 6) (zae (dVar 7) (zae (zad .none) (mNil)))))) (mNil)))) fun xs=>if xs.length<=1000000 then zad xs else fun _=>.bad))
   (sSeq (sSet 9 (dBin oAdd (dVar 9) (mLst (zae (zad .none) (zae (dVar 5) (zae (zad (.int 3)) (zae (zju [(zad (.str "order"),dVar 5)]) (mNil))))))))
   (sRet (dIxN 9 (dIxN 4 (zad (.int 9)))))))
   (sNx))
   (sRet (mTup (zae (dVar 5) (zae (dVar 6) (zae (dVar 7) (mNil))))))))) [P0,P1,P2,P3,P4,some (.pub t),some (.pub (oldD old)),T,x8,none] (fun o=>∃ d,o=.rt d/\Sh 5 150 d):=by
  intro t x8 st
  refine zax (ρ1:=[P0,P1,P2,P3,P4,some (.pub t),some (.pub A),T,x8,none]) (za4 (zaX (zab (zaf rfl) (zab (zaf rfl) (zab (za1 rfl zac e2) (zab (za1 rfl zac e3) (zab (za1 rfl zac e4) zak))))) rfl hA) (of_decide_eq_true rfl) rfl) ?_
  refine zax (ρ1:=[P0,P1,P2,P3,P4,some (.pub t),some (.pub A),some (.pub B),x8,none]) (za4 (zaX (zab (zaY (zab (za1 rfl zac zgZ) zak) hm) (zab (zaf rfl) (zab (za1 rfl zac e5) (zab (za1 rfl zac e6) (zab (za1 rfl zac e7) zak))))) rfl hB) (of_decide_eq_true rfl) rfl) ?_
  have t3:∀ x ∈ [t,A,B],Sh 3 20 x:=fun x hx=>by
   simp only [List.mem_cons,List.not_mem_nil,or_false] at hx
   rcases hx with rfl | rfl | rfl <;> assumption
  let R:DEnv:=[P0,P1,P2,P3,P4,some (.pub t),some (.pub A),some (.pub B),x8,none]
  apply zaD
  refine zaB (ρ1:=R) (zar (za1 rfl zac e8) zac zbt) (fun _=>?_) (fun _=>za9 (zay ?_))
  ·refine zax (ρ1:=[P0,P1,P2,P3,P4,some (.pub t),some (.pub A),some (.pub B),x8,some (.own [.list [t,A,B],.tuple [t,A],.tuple [t,A,B,.none]])]) (zbQ (zcK (zab (za7 (zab (zaf rfl) (zab (zaf rfl) (zab (zaf rfl) zak))) (of_decide_eq_true rfl)) (zab (zci (zab (zaf rfl) (zab (zaf rfl) zak)) (of_decide_eq_true rfl)) (zab (zci (zab (zaf rfl) (zab (zaf rfl) (zab (zaf rfl) (zab zac zak)))) (of_decide_eq_true rfl)) zak))) (of_decide_eq_true rfl)) (of_decide_eq_true rfl) rfl) ?_
   let Y:List D:=[.list [t,A,B],.tuple [t,A],.tuple [t,A,B,.none],.none,t,.int 3,.dict [(.str "order", t)]]
   have hdd:zju [(zad (.str "order"),dVar 5)] [P0,P1,P2,P3,P4,some (.pub t),some (.pub A),some (.pub B),x8,some (.pub (.list [.list [t,A,B],.tuple [t,A],.tuple [t,A,B,.none]]))]=.ok (.dict [(.str "order", t)]) [P0,P1,P2,P3,P4,some (.pub t),some (.pub A),some (.pub B),x8,some (.pub (.list [.list [t,A,B],.tuple [t,A],.tuple [t,A,B,.none]]))]:=rfl
   refine zax (ρ1:=[P0,P1,P2,P3,P4,some (.pub t),some (.pub A),some (.pub B),x8,some (.pub (.list Y))]) (za4 (zar (zbP rfl rfl) (za7 (zab zac (zab (zaf rfl) (zab zac (zab hdd zak)))) (of_decide_eq_true rfl)) (zbB (of_decide_eq_true rfl))) (of_decide_eq_true rfl) rfl) ?_
   obtain ⟨y,hym,hy⟩:=ixS (xs:=Y) (n:=7) b9.1 b9.2 rfl
   refine zav (za1 rfl (za1 rfl zac e9) hy) (zau ⟨_,rfl,?_⟩)
   simp only [Y,List.mem_cons,List.not_mem_nil,or_false] at hym
   rcases hym with rfl | rfl | rfl | rfl | rfl | rfl | rfl
   ·exact (zeK t3 (m:=3) (Nat.le_refl _)).mono (by decide) (by decide)
   ·exact (zeL (fun x hx=>t3 x (by simp only [List.mem_cons,List.not_mem_nil,or_false] at hx ⊢;rcases hx with rfl | rfl <;> simp)) (m:=2) (Nat.le_refl _)).mono (by decide) (by decide)
   ·refine (zeL (k:=3) (n:=20) (m:=4) (fun x hx=>?_) (Nat.le_refl _)).mono (by decide) (by decide)
    simp only [List.mem_cons,List.not_mem_nil,or_false] at hx
    rcases hx with rfl | rfl | rfl | rfl
    ·exact st
    ·exact sA
    ·exact sB
    ·exact zd4
   ·exact zd4
   ·exact st.mono (by decide) (by decide)
   ·exact zde (by omega)
   ·exact zoZ st
  ·exact zav (zci (zab (zaf rfl) (zab (zaf rfl) (zab (zaf rfl) zak))) (of_decide_eq_true rfl)) ⟨_,rfl,(zeL t3 (m:=3) (Nat.le_refl _)).mono (by decide) (by decide)⟩
 have so:Sh 3 20 (.str o.tx):=by cases o <;> exact zgs (by decide +kernel) (by decide +kernel) (by decide +kernel)
 apply zaD
 refine zaB (ρ1:=[P0,P1,P2,P3,P4,some (.pub (.str o.tx)),some (.pub (oldD old)),T,none,none]) (zar (za1 rfl zac e0) zac zbt) (fun _=>?_) (fun _=>za9 (zay (rest _ _ so)))
 let W:List D:=[.str "first", .str "Full", .str "", .str "lasts ", .str " full", .str "firstsfull", .str "FIRSTS", .str "l"]
 let X:List D:=W ++ [.none,.int 1,.bool true,.list [.str "full"],.tuple [.str "lasts"]]
 obtain ⟨x,hxm,hx⟩:=ixS (xs:=X) (n:=13) b1.1 b1.2 rfl
 refine zax (ρ1:=[P0,P1,P2,P3,P4,some (.pub (.str o.tx)),some (.pub (oldD old)),T,some (.own W),none]) (zbQ (zcK (zab zac (zab zac (zab zac (zab zac (zab zac (zab zac (zab zac (zab zac zak)))))))) (of_decide_eq_true rfl)) (of_decide_eq_true rfl) rfl) ?_
 refine zaR (za4 (zar (zar (zbP rfl rfl) (za7 (zab zac (zab zac (zab zac (zab (za7 (zab zac zak) (of_decide_eq_true rfl)) (zab (zci (zab zac zak) (of_decide_eq_true rfl)) zak))))) (of_decide_eq_true rfl)) (zbB (of_decide_eq_true rfl))) (za1 rfl zac e1) hx) (of_decide_eq_true rfl) rfl) (zay (rest x _ ?_))
 have sx:∀ z:Str,PyData.strOk z=true->z.length<=20->Sh 1 20 (.str z):=fun z h1 h2=>zgs h1 h2 h2
 simp only [X,W,List.mem_append,List.mem_cons,List.not_mem_nil,or_false] at hxm
 rcases hxm with (rfl | rfl | rfl | rfl | rfl | rfl | rfl | rfl) | rfl | rfl | rfl | rfl | rfl
 ·exact (sx _ (by decide +kernel) (by decide +kernel)).mono (by decide) (by decide)
 ·exact (sx _ (by decide +kernel) (by decide +kernel)).mono (by decide) (by decide)
 ·exact (sx _ (by decide +kernel) (by decide +kernel)).mono (by decide) (by decide)
 ·exact (sx _ (by decide +kernel) (by decide +kernel)).mono (by decide) (by decide)
 ·exact (sx _ (by decide +kernel) (by decide +kernel)).mono (by decide) (by decide)
 ·exact (sx _ (by decide +kernel) (by decide +kernel)).mono (by decide) (by decide)
 ·exact (sx _ (by decide +kernel) (by decide +kernel)).mono (by decide) (by decide)
 ·exact (sx _ (by decide +kernel) (by decide +kernel)).mono (by decide) (by decide)
 ·exact zd4
 ·exact zde (by omega)
 ·exact zg4
 ·exact (zeK (k:=1) (n:=10) (m:=1) (fun y hy=>by rw [List.mem_singleton.mp hy];exact zgs (by decide +kernel) (by decide +kernel) (by decide +kernel)) (by decide)).mono (by decide) (by decide)
 ·exact (zeL (k:=1) (n:=10) (m:=1) (fun y hy=>by rw [List.mem_singleton.mp hy];exact zgs (by decide +kernel) (by decide +kernel) (by decide +kernel)) (by decide)).mono (by decide) (by decide)
theorem zmA (g:Good cs ls) {d:D} (hs:SmA d):F_aw [zaK cs ls,d]=some (.tuple [zeW (zaV cs.length ls.length d)]):=by
 refine zcj (ρ:=[some (.pub (zaK cs ls)),some (.pub d),none,none]) rfl ?_
 unfold g_aw
 refine zax (ρ1:=[some (.pub (zaK cs ls)),some (.pub d),some (.pub (.tuple [.int 0])),none]) (za4 (zci (zab zac zak) (of_decide_eq_true rfl)) (of_decide_eq_true rfl) rfl) ?_
 have hx:=zhD g hs
 cases z:zaV cs.length ls.length d with
 | none =>
  rw [z] at hx
  refine zax (ρ1:=[some (.pub (zaK cs ls)),some (.pub d),some (.pub (.tuple [.none])),none]) (zjo (zh1 (zcm (zab (zaf rfl) (zab (zaf rfl) zak)) rfl hx) (by rw [if_pos (show isNon PyData.none=true from rfl)];exact za4 (zci (zab zac zak) (of_decide_eq_true rfl)) (of_decide_eq_true rfl) rfl))) ?_
  exact zav (zaf rfl) rfl
 | some p =>
  rw [z] at hx
  refine zax (ρ1:=[some (.pub (zaK cs ls)),some (.pub d),some (.pub (.tuple [.str p])),none]) (zjp (zjn (zcm (zab (zaf rfl) (zab (zaf rfl) zak)) rfl hx)) rfl (of_decide_eq_true rfl) (za4 (zci (zab (zaA (zaf rfl) (zby rfl)) zak) (of_decide_eq_true rfl)) (of_decide_eq_true rfl) rfl) rfl) ?_
  exact zav (zaf rfl) rfl
theorem zmB (g:Good cs ls) {d:D} (hs:SmA d):F_ax [zaK cs ls,d]=some (.int (if isNon (zeW (zaV cs.length ls.length d))=true then 0 else 2)):=by
 refine zcj (ρ:=[some (.pub (zaK cs ls)),some (.pub d),none,none]) rfl ?_
 unfold g_ax
 refine zax (ρ1:=[some (.pub (zaK cs ls)),some (.pub d),some (.pub (.int 0)),none]) (za4 zac (of_decide_eq_true rfl) rfl) ?_
 have hx:=zhD g hs
 cases z:zaV cs.length ls.length d with
 | none =>
  rw [z] at hx
  refine zax (ρ1:=[some (.pub (zaK cs ls)),some (.pub d),some (.pub (.int 0)),none]) (zjo (zh1 (zcm (zab (zaf rfl) (zab (zaf rfl) zak)) rfl hx) rfl)) ?_
  exact zav (zaf rfl) rfl
 | some p =>
  rw [z] at hx
  refine zax (ρ1:=[some (.pub (zaK cs ls)),some (.pub d),some (.pub (.int 2)),none]) (zjp (zjn (zcm (zab (zaf rfl) (zab (zaf rfl) zak)) rfl hx)) rfl (of_decide_eq_true rfl) (za4 (zar (zar zac (zaY (zab (zaA (zaf rfl) (zby rfl)) zak) rfl) za6) (zar zac (zaY (zab (zaA (zaf rfl) (zby rfl)) zak) rfl) (zea (by decide) (by decide))) za6) (of_decide_eq_true rfl) rfl) rfl) ?_
  exact zav (zaf rfl) rfl
theorem zmC {n m:Nat} (d:D):PyData.canLay0 (zeW (zaV n m d))=true/\(zeW (zaV n m d)).depth<=1/\(isNon (zeW (zaV n m d))=false->isTy (zeW (zaV n m d)) "str" = true):=by
 have h:zaV n m d=none ∨ zaV n m d=some ("aim" : Str) ∨ zaV n m d=some ("order" : Str) ∨ zaV n m d=some ("old" : Str) ∨ zaV n m d=some ("turns" : Str):=by
  unfold zaV
  split
  ·split
   ·split
    ·split
     ·exact .inl rfl
     ·exact .inr (.inr (.inr (.inr rfl)))
    ·exact .inr (.inr (.inr (.inl rfl)))
   ·exact .inr (.inr (.inl rfl))
  ·exact .inr (.inl rfl)
 rcases h with e | e | e | e | e <;> rw [e] <;> refine ⟨by decide +kernel,by simp [zeW,PyData.depth],fun z=>?_⟩
 ·cases z
 all_goals rfl
theorem zk0:∀ ns:List Int,ns.length<=63->F_ay [.list (ns.map PyData.int)]=some (.bool true):=by
 intro ns hns
 refine zcj (ρ:=[some (.pub (.list (ns.map PyData.int))),none,none,none,none,none,none,none,none,none,none]) rfl ?_
 unfold g_ay
 obtain ⟨r,hr,cs,ls,rfl,g⟩:=zgY (ns:=ns) (by omega) 1
 have l7:=g.l7;have c6:=g.c6
 refine zax (za4 (zaX (zab (zaf rfl) (zab zac (zab zac (zab zac (zab zac zak))))) rfl hr) (of_decide_eq_true rfl) rfl) ?_
 obtain ⟨v,hv⟩:=zcw ns 0 (by omega)
 obtain ⟨r,ha,o0,old0,ts0,rfl,ga0⟩:=zhz g v 5
 refine zax (za4 (zaX (zab (zaf rfl) (zab (zaX (zab (zaf rfl) (zab zac zak)) rfl hv) (zab zac zak))) rfl ha) (of_decide_eq_true rfl) rfl) ?_
 obtain ⟨v2,hv2⟩:=zcw ns 2 (by omega)
 have hcl:=zhA (xs:=ns.map PyData.int) (a:=some 9) (b:=some 50)
 rw [List.length_map] at hcl
 let L:List D:=DL.cutD (ns.map PyData.int) (some 9) (some 50) ++ [.int v2,.int v]
 refine zax (za4 (zar (zc0 (zaf rfl) (zbK zac) (zbK zac) zbY) (za7 (zab (zaX (zab (zaf rfl) (zab zac zak)) rfl hv2) (zab (zaX (zab (zaf rfl) (zab zac zak)) rfl hv) zak)) (of_decide_eq_true rfl)) (zbB (by show _+2<=_;omega))) (of_decide_eq_true rfl) rfl) ?_
 let S0:Option Sl:=some (.pub (.list (ns.map PyData.int)))
 let S1:Option Sl:=some (.pub (zaK cs ls))
 let S3:Option Sl:=some (.pub (.list L))
 apply zaD
 apply zd3 (fun _ ρ=>∃ o old ts y4 y5 y6 y7 y8 y9 y10,ρ = [S0,S1,some (.pub (aimD o old ts)),S3,y4,y5,y6,y7,y8,y9,y10]/\zc4 cs.length ls.length old ts)
 case h1=>exact zex (zab (zaf rfl) zak) zdw
 case h0=>exact ⟨o0,old0,ts0,_,_,_,_,_,_,_,rfl,ga0⟩
 case hst =>
  rintro i d ρ hi ⟨o,old,ts,y4,y5,y6,y7,y8,y9,y10,rfl,ga⟩
  obtain ⟨x,hx,rfl⟩:=zfy hi
  obtain ⟨c,rfl⟩:∃ c:Int,x=.int c:=by
   have hm:=List.mem_of_getElem? hx
   rcases List.mem_append.mp hm with hm | hm
   ·obtain ⟨c,_,rfl⟩:=List.mem_map.mp (zhB hm)
    exact ⟨c,rfl⟩
   ·simp only [List.mem_cons,List.not_mem_nil,or_false] at hm
    rcases hm with rfl | rfl <;> exact ⟨_,rfl⟩
  rw [Nat.zero_add]
  refine ⟨_,tg_T rfl (tg_C (tg_N (of_decide_eq_true rfl) rfl) (tg_C (tg_N (of_decide_eq_true rfl) rfl) tg_0)),?_⟩
  unfold zjC
  let S4:Option Sl:=some (.pub (.int i))
  let S5:Option Sl:=some (.pub (.int c))
  have main:∀ o old ts,zc4 cs.length ls.length old ts->Ho (sSeq (sSet 6 (dFun 4 F_at (zae (dVar 1) (zae (dVar 2) (zae (dVar 5) (zae (dVar 4) (mNil)))))))
    (sSeq (sSet 7 (dFun 2 F_av (zae (dVar 1) (zae (dVar 6) (mNil)))))
    (sSeq (sSet 8 (dFun 1 F_aq (zae (dVar 1) (mNil))))
    (sSeq (sSet 9 (zbr zdz (zae (dVar 6) (mNil))))
    (sSeq (sSet 10 (dFun 2 F_aw (zae (dVar 8) (zae (dVar 6) (mNil)))))
    (sSeq (sIf (mOr (zbx oNe 10 (mTup (zae (dVar 7) (mNil)))) (mAnd (mMap (fun d=>!isNon d) (dVar 7)) (mNot (zaT (mMap (fun d=>.bool (isTy d "str")) (dIxN 10 (zad (.int 0))))))))
    (sRet (zad (.bool false)))
    (sNx))
    (sSeq (sIf (mAnd (dBin oEq (dBin oMod (dVar 4) (zad (.int 3))) (zad (.int 0))) (dBin oNe (dFun 2 F_ax (zae (dVar 8) (zae (dVar 6) (mNil)))) (dBin oIx (mLst (zae (zad (.int 2)) (zae (zad (.int 0)) (mNil)))) (zbr zeS (zae (mMap (fun d=>.bool (isNon d)) (dVar 7)) (mNil))))))
    (sRet (zad (.bool false)))
    (sNx))
    (sIf (mOr (dBin oNeT (zbr zdz (zae (dVar 6) (mNil))) (dVar 9)) (zbx oNe 8 (dVar 1)))
    (sRet (zad (.bool false)))
    (sNx))))))))) [S0,S1,some (.pub (aimD o old ts)),S3,S4,S5,y6,y7,y8,y9,y10] (zgQ (fun ρ=>∃ o old ts y4 y5 y6 y7 y8 y9 y10,ρ = [S0,S1,some (.pub (aimD o old ts)),S3,y4,y5,y6,y7,y8,y9,y10]/\zc4 cs.length ls.length old ts) (zhY (sRet (zad (.bool true))) fun o=>o=.rt (.bool true))):=by
   intro o old ts ga
   obtain ⟨r,hod,sh⟩:=zmz (o:=o) g ga c (i:Int)
   have hs:SmA r:=zn8 sh (by decide)
   have hrp:=zkY sh (by decide) (by decide)
   obtain ⟨p1,p2,p3⟩:=zmC (n:=cs.length) (m:=ls.length) r
   let due:D:=zeW (zaV cs.length ls.length r)
   let S2:Option Sl:=some (.pub (aimD o old ts))
   let S6:Option Sl:=some (.pub r)
   let S7:Option Sl:=some (.pub due)
   let S9:Option Sl:=some (.pub (.str r.shown))
   let S10:Option Sl:=some (.pub (.tuple [due]))
   refine zax (ρ1:=[S0,S1,S2,S3,S4,S5,S6,y7,y8,y9,y10]) (za4 (zaX (zab (zaf rfl) (zab (zaf rfl) (zab (zaf rfl) (zab (zaf rfl) zak)))) rfl hod) (of_decide_eq_true rfl) rfl) ?_
   refine zax (ρ1:=[S0,S1,S2,S3,S4,S5,S6,S7,y8,y9,y10]) (za4 (zaX (zab (zaf rfl) (zab (zaf rfl) zak)) rfl (zgu l7 hs)) (of_decide_eq_true rfl) rfl) ?_
   refine zax (ρ1:=[S0,S1,S2,S3,S4,S5,S6,S7,S1,y9,y10]) (za4 (zaX (zab (zaf rfl) zak) rfl (zmq g)) (of_decide_eq_true rfl) rfl) ?_
   refine zax (ρ1:=[S0,S1,S2,S3,S4,S5,S6,S7,S1,S9,y10]) (za4 (zaY (zab (zaf rfl) zak) hrp) (of_decide_eq_true rfl) rfl) ?_
   refine zax (ρ1:=[S0,S1,S2,S3,S4,S5,S6,S7,S1,S9,S10]) (za4 (zaX (zab (zaf rfl) (zab (zaf rfl) zak)) rfl (zmA g hs)) (of_decide_eq_true rfl) rfl) ?_
   let R:DEnv:=[S0,S1,S2,S3,S4,S5,S6,S7,S1,S9,S10]
   have hne:oNe (.tuple [due]) (.tuple [due])=some false:=zjJ (zcH fun x hx=>by rw [List.mem_singleton.mp hx];exact p1) (by simp only [PyData.depth,PyData.depthAll];have:due.depth<=1:=p2;omega)
   have i0:oIx (.tuple [due]) (.int 0)=some due:=zbi (j:=0) rfl
   have hand:mAnd (mMap (fun d=>!isNon d) (dVar 7)) (mNot (zaT (mMap (fun d=>.bool (isTy d "str")) (dIxN 10 (zad (.int 0)))))) R=.ok false R:=by
    cases z:isNon due with
    | true=>exact zl1 ((zaU (k:=fun d=>!isNon d) (x:=due) (zaf rfl)).trans (by rw [z];rfl))
    | false=>exact zl2 ((zaU (k:=fun d=>!isNon d) (x:=due) (zaf rfl)).trans (by rw [z];rfl)) (zaC (za1 rfl zac i0) (by rw [p3 z];rfl))
   apply zaD
   refine zaB (b:=false) (ρ1:=R) (zck (zbu rfl (zci (zab (zaf rfl) zak) (of_decide_eq_true rfl)) hne) hand) (fun z=>by cases z) fun _=>za9 (zay ?_)
   have hpick:oIx (.list [.int 2,.int 0]) (.int (if isNon due=true then 1 else 0))=some (.int (if isNon due=true then 0 else 2)):=by cases isNon due <;> rfl
   have hint:zeS [.bool (isNon due)]=some (.int (if isNon due=true then 1 else 0)):=by cases isNon due <;> rfl
   apply zaD
   refine zaB (b:=decide ((i:Int) % 3=0) && false) (ρ1:=R) (zho (zar (zar (zaf rfl) zac (zcZ (by decide))) zac zbt) (fun _=>zar (zaX (zab (zaf rfl) (zab (zaf rfl) zak)) rfl (zmB g hs)) (zar (za7 (zab zac (zab zac zak)) (of_decide_eq_true rfl)) (zaY (zab (zaU (k:=fun d=>PyData.bool (isNon d)) (x:=due) (zaf rfl)) zak) hint) hpick) zgq)) (fun z=>by rw [Bool.and_false] at z;cases z) fun _=>za9 (zay ?_)
   exact zaB (b:=false) (ρ1:=R) (zck (zar (zaY (zab (zaf rfl) zak) hrp) (zaf rfl) zkP) (zbu rfl (zaf rfl) (zml cs ls))) (fun z=>by cases z) fun _=>za9 (zcz ⟨o,old,ts,_,_,_,_,_,_,_,rfl,ga⟩)
  apply zaD
  refine zaB (ρ1:=[S0,S1,some (.pub (aimD o old ts)),S3,S4,S5,y6,y7,y8,y9,y10]) (zar (zar (zaf rfl) zac (zcZ (by decide))) zac zbt) (fun _=>?_) (fun _=>za9 (zay (main o old ts ga)))
  obtain ⟨r,ha',o',old',ts',rfl,ga'⟩:=zhz g c (17+(i:Int))
  exact zaR (za4 (zaX (zab (zaf rfl) (zab (zaf rfl) (zab (zar zac (zaf rfl) za6) zak))) rfl ha') (of_decide_eq_true rfl) rfl) (zay (main o' old' ts' ga'))
 case hend =>
  rintro ρ ⟨o,old,ts,y4,y5,y6,y7,y8,y9,y10,rfl,_⟩
  exact zay (zav zac rfl)
end
end W
open PySem PySem.W PyProof.Rows
set_option maxRecDepth 100000 in
set_option maxHeartbeats 0 in
theorem PySem.Challenge.cw_wishdeal_k20_a_look_at_aims_holds : PySem.Challenge.rw_wishdeal_k20_a_look_at_aims.Holds := by
 w_on;o_law
 refine holds_open (q:=W.q0) (loose:=[]) (Xt:=fun s=>xlAt W.q0 [] s && recOk [] s) (XP:=XL W.q0 []) (Yf:=DL.xSeen W.clsL) (Ya:=fun _=>DL.xGood W.p0 W.clsL) (YP:=fun _ h=>DL.XYP W.p0 W.clsL h) (N:=3288) (d:=W.d_ay) (kwd:=[])
  W.zob (fun _ _ e=>DL.znP e) (fun _ _ _ y k=>y.keeps k) (fun s e=>xl_of s (Bool.and_eq_true_iff.mp e).1) XL.keeps (by rfl) (by rfl) (by rfl)
  (fun s e=>recFacts_of (Bool.and_eq_true_iff.mp e).2) (by rfl) (by assumption) (by decide +kernel) ⟨rfl,rfl,rfl,rfl,rfl,by decide +kernel⟩ ?hw (W.walk W.zk0)
 case hw=>w_witness2

